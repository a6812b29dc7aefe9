import PyProof.Rows.All
import Wide.All
import OpenK.AllK
import Wide.FinOn
import Lean
import PyProof.EqAt
import PyProof.EqKinds
import PyProof.TupleCall
import PyProof.MinMaxWalk
import PyProof.NeKinds
import PyProof.Rows.ZipGen
import KE.KMinKey
import KE.KDictSum
import PyProof.DictItems
import KE.KEqDict
import KE.KSortTup
import KE.KLam
import KE.KNestM
import PyProof.Rows.SortStr
import PyProof.Rows.SortWalk
import PyProof.FString5
import PyProof.StrOps2
import PyProof.DictWalks
import PyProof.AttrMiss
import PyProof.IsiH_list
import KE.KDictOf
import PyProof.DictUpdate
import KE.KRevIter
import PyProof.ListNew
import PyProof.SetKind
import PyProof.Rows.SetFrom
import PyProof.Rows.StrJoin2
import PySem.Challenge.RW_boxgalley_k04_shared_among_items
set_option Elab.async false
set_option linter.all false
set_option maxRecDepth 100000
namespace L2
open PySem PySem.Spec PyProof.Rows
abbrev Key:=Sum Int Str
def keyIs:Key→Value→Bool
 | .inl k,v=>Value.isInt k v
 | .inr x,v=>Value.isStrOf x v
def keyH (w:World):Key→Int
 | .inl k=>hashInt k
 | .inr x=>hashStr w x
theorem keyIs_shape:∀ {k:Key} {v:Value},keyIs k v=true→(∃ i t,k=Sum.inl i∧v=Value.int i t) ∨ (∃ x t,k=Sum.inr x∧v=Value.str x t)
 | .inl i,v,h=>by
  obtain ⟨t,e⟩:=Value.isInt_shape (k:=i) (v:=v) h
  exact .inl ⟨i,t,rfl,e⟩
 | .inr x,v,h=>by
  obtain ⟨t,e⟩:=Value.isStrOf_shape (x:=x) (v:=v) h
  exact .inr ⟨x,t,rfl,e⟩
theorem keyIs_int (i:Int) (t:Tok):keyIs (.inl i) (.int i t)=true:=by simp [keyIs,Value.isInt]
theorem keyIs_str (x:Str) (t:Tok):keyIs (.inr x) (.str x t)=true:=by simp [keyIs,Value.isStrOf]
theorem key_ll (a b:Int):decide ((Sum.inl a:Key)=Sum.inl b)=(a == b):=by
 by_cases e:a=b
 ·subst e; simp
 ·have h:¬ (Sum.inl a:Key)=Sum.inl b:=fun q=>e (Sum.inl.inj q)
  rw [decide_eq_false h]
  exact (beq_eq_false_iff_ne.mpr e).symm
theorem key_rr (a b:Str):decide ((Sum.inr a:Key)=Sum.inr b)=decide (a=b):=by
 by_cases e:a=b
 ·subst e; simp
 ·have h:¬ (Sum.inr a:Key)=Sum.inr b:=fun q=>e (Sum.inr.inj q)
  rw [decide_eq_false h,decide_eq_false e]
theorem key_lr (a:Int) (b:Str):decide ((Sum.inl a:Key)=Sum.inr b)=false:=decide_eq_false (fun q=>nomatch q)
theorem key_rl (a:Str) (b:Int):decide ((Sum.inr a:Key)=Sum.inl b)=false:=decide_eq_false (fun q=>nomatch q)
def mixKind (prog:Program) (w:World):PySem.KeyKind prog w Key where
 is:=keyIs
 hash:=keyH w
 inj:=fun v a b ha hb=>by
  rcases keyIs_shape ha with ⟨i,t,rfl,rfl⟩ | ⟨x,t,rfl,rfl⟩
  ·rcases keyIs_shape hb with ⟨j,u,rfl,e⟩ | ⟨y,u,rfl,e⟩
   ·injection e with e1 _; rw [e1]
   ·exact nomatch e
  ·rcases keyIs_shape hb with ⟨j,u,rfl,e⟩ | ⟨y,u,rfl,e⟩
   ·exact nomatch e
   ·injection e with e1 _; rw [e1]
 byValue:=fun k v h=>by
  rcases keyIs_shape h with ⟨i,t,rfl,rfl⟩ | ⟨x,t,rfl,rfl⟩ <;> rfl
 pyHash:=fun hv h=>by
  rcases keyIs_shape hv with ⟨i,t,rfl,rfl⟩ | ⟨x,t,rfl,rfl⟩
  ·exact wpAny_pyHash_int h
  ·exact wpAny_pyHash_str h
 eqBool:=fun hu hv h=>by
  rcases keyIs_shape hu with ⟨i,t,rfl,rfl⟩ | ⟨x,t,rfl,rfl⟩
  ·rcases keyIs_shape hv with ⟨j,u,rfl,rfl⟩ | ⟨y,u,rfl,rfl⟩
   ·rw [key_ll] at h; exact wpAny_eqBool_int h
   ·rw [key_lr] at h; exact SeqAt.EqAt.int_str i t y u _ _ _ _ h
  ·rcases keyIs_shape hv with ⟨j,u,rfl,rfl⟩ | ⟨y,u,rfl,rfl⟩
   ·rw [key_rl] at h; exact SeqAt.EqAt.str_int x t j u _ _ _ _ h
   ·rw [key_rr] at h; exact wpAny_eqBool_str h
 «strs»:=fun k x t v h=>by
  rcases keyIs_shape h with ⟨i,u,rfl,e⟩ | ⟨y,u,rfl,e⟩
  ·exact nomatch e
  ·injection e with e1 _
   subst e1
   cases v <;> rfl
theorem mixKind_int (prog:Program) (w:World) (i:Int) (t:Tok):(mixKind prog w).is (.inl i) (.int i t)=true:=keyIs_int i t
theorem mixKind_str (prog:Program) (w:World) (x:Str) (t:Tok):(mixKind prog w).is (.inr x) (.str x t)=true:=keyIs_str x t
end L2
namespace L2
open PySem PySem.Spec PyProof.Rows
inductive V where
 | non | bl (b:Bool) | int (i:Int) | str (x:Str) | byt (b:Array UInt8) | flt (b:UInt64) | ref (a:Addr) | ty (n:String)
 deriving DecidableEq
def RelV:V→Value→Prop
 | .non,u=>u=Value.none
 | .bl b,u=>u=Value.bool b
 | .int i,u=>∃ t,u=Value.int i t
 | .str x,u=>∃ t,u=Value.str x t
 | .byt b,u=>∃ t,u=Value.bytes b t
 | .flt b,u=>∃ t,u=Value.float b t
 | .ref a,u=>u=Value.ref a
 | .ty n,u=>u=Value.type n
abbrev Vals:List V→List Value→Prop:=Paired RelV
theorem Vals.length {xs:List V} {us:List Value} (r:Vals xs us):xs.length=us.length:=Paired.length r
theorem Vals.get:∀ {xs:List V} {us:List Value} {i:Nat} {x:V},Vals xs us→xs[i]?=some x→∃ u,us[i]?=some u∧RelV x u
 | _,_,_,_,.nil,e=>by simp at e
 | _,_,0,_,.cons r _,e=>by simp at e; subst e; exact ⟨_,rfl,r⟩
 | _,_,i + 1,x,.cons _ t,e=>by
  obtain ⟨u,h1,h2⟩:=Vals.get (i:=i) (x:=x) t (by simpa using e)
  exact ⟨u,by simpa using h1,h2⟩
theorem Vals.append:∀ {xs ys:List V} {us ws:List Value},Vals xs us→Vals ys ws→Vals (xs ++ ys) (us ++ ws)
 | _,_,_,_,.nil,s=>s
 | _,_,_,_,.cons r t,s=>.cons r (Vals.append t s)
theorem Vals.take:∀ {xs:List V} {us:List Value} (n:Nat),Vals xs us→Vals (xs.take n) (us.take n)
 | _,_,0,_=>.nil
 | _,_,_ + 1,.nil=>.nil
 | _,_,n + 1,.cons r t=>.cons r (Vals.take n t)
theorem Vals.drop:∀ {xs:List V} {us:List Value} (n:Nat),Vals xs us→Vals (xs.drop n) (us.drop n)
 | _,_,0,r=>r
 | _,_,_ + 1,.nil=>.nil
 | _,_,n + 1,.cons _ t=>Vals.drop n t
def RelO:Option V→Option Value→Prop
 | some v,some u=>RelV v u
 | none,none=>True
 | _,_=>False
def KV {κ:Type}:List (κ × V)→List (κ × Value)→Prop:=Paired fun (p:κ × V) (q:κ × Value)=>p.1=q.1∧RelV p.2 q.2
def kV:Key→V
 | .inl i=>.int i
 | .inr x=>.str x
inductive HO where
  | lst (xs:List V)
  | tup (xs:List V)
  | dK (kvs:List (Key × V)) | dT (kvs:List (List Key × V))
  | set (S:Int→Bool) (n:Nat)
  | ins (C dx:Addr) (fs:List (Str × V))
  | own (x:Addr)
  | xd (fs:List (Str × V))
  | met (f x:Addr)
  | rng (lo hi:Int)
  | frz (o:Obj) (u:HO)
  | tbl (ps:Array Value)
  | ext (φ:Heap→Prop)
abbrev Hp:=Addr→Option HO
def upd (H:Hp) (a:Addr) (o:HO):Hp:=fun b=>if b=a then some o else H b
theorem upd_same {H:Hp} {a:Addr} {o:HO}:upd H a o a=some o:=by unfold upd; rw [if_pos rfl]
theorem upd_ne {H:Hp} {a b:Addr} {o:HO} (h:b ≠ a):upd H a o b=H b:=by unfold upd; rw [if_neg h]
theorem upd_upd {H:Hp} {a:Addr} {o u:HO}:upd (upd H a o) a u=upd H a u:=by
 funext b; unfold upd; split <;> rfl
theorem ne_of {H:Hp} {a b:Addr} {o u:HO} (h:H a=some o) (h':H b=some u) (d:o ≠ u):a ≠ b:=by
 intro e; subst e; rw [h] at h'; exact d (Option.some.inj h')
theorem ne_of_none {H:Hp} {a b:Addr} {o:HO} (h:H a=some o) (h':H b=none):a ≠ b:=by
 intro e; subst e; rw [h] at h'; cases h'
section
variable (P:Program) (w:World)
def ObjOk (H:Hp) (h:Heap) (a:Addr):HO→Prop
 | .lst xs=>xs.length ≤ sizeLine∧∃ (its:List Value) (n:Nat),Vals xs its∧h.get? a=some { cls:=.type "list",data:=.seq its.toArray n }
 | .tup xs=>xs.length ≤ sizeLine∧∃ its:List Value,Vals xs its∧IsTup h a its.toArray
 | .dK kvs=>kvs.length ≤ sizeLine∧(a == sysModules)=false∧∃ vs,KV kvs vs∧h.DictOf (mixKind P w) a vs
 | .dT kvs=>kvs.length ≤ sizeLine∧(a == sysModules)=false∧∃ xs:List (List Key × Addr × Value),
   Paired (fun (p:List Key × V) (q:List Key × Addr × Value)=>p.1=q.1∧H q.2.1=some (.tup (p.1.map kV))∧RelV p.2 q.2.2) kvs xs ∧
   ∃ o es ep,h.get? a=some o∧o.ExactDict∧o.data=.dict es ep∧es.toList=xs.map (entryOfKey (tupleKind (mixKind P w)))∧(xs.map (·.1)).Nodup
 | .set S n=>h.SetOf (intKind P w) a S n
 | .ins C dx fs=>H dx=some (.own a)∧fs.length ≤ 1000∧dx ≠ a∧h.get? a=some (PySem.W.instObj C dx) ∧
   ∃ mA,h.Ns1 dx mA∧(∀ f,RelO (fs.lookup f) (mA f))∧PySem.Within mA (fs.map (·.1))
 | .own _=>∃ o,h.get? a=some o
 | .xd fs=>∃ mA,h.Ns1 a mA∧∀ f,RelO (fs.lookup f) (mA f)
 | .rng lo hi=>∃ t u v,h.get? a=some { cls:=.type "range",data:=.fields #[.int lo t,.int hi u,.int 1 v] }
 | .frz o u=>h.get? a=some o∧ObjOk H h a u
 | .tbl ps=>h.get? a=some { cls:=.none,data:=.fields ps }
 | .met f x=>h.get? a=some (PySem.W.methodObj (.ref f) (.ref x))
 | .ext φ=>φ h∧(∃ o,h.get? a=some o)∧∀ h1 h2:Heap,φ h1→(∀ o,h1.get? a=some o→h2.get? a=some o)→φ h2
def HOk (H:Hp) (h:Heap):Prop:=∀ a o,H a=some o→ObjOk P w H h a o
end
section
variable {P:Program} {w:World} {H H':Hp} {h h':Heap} {a:Addr} {o:HO}
theorem ObjOk.lt (x:ObjOk P w H h a o):a < h.objs.size:=by
 cases o with
 | lst xs=>obtain ⟨_,_,_,_,e⟩:=x; exact Heap.lt_size e
 | tup xs=>obtain ⟨_,_,_,p⟩:=x; exact p.lt
 | dK kvs=>obtain ⟨_,_,_,_,o,_,_,e,_⟩:=x; exact Heap.lt_size e
 | dT kvs=>obtain ⟨_,_,_,_,o,_,_,e,_⟩:=x; exact Heap.lt_size e
 | set S n=>obtain ⟨o,_,_,_,e,_⟩:=x; exact Heap.lt_size e
 | ins C dx fs=>obtain ⟨_,_,_,e,_⟩:=x; exact Heap.lt_size e
 | own y=>obtain ⟨_,e⟩:=x; exact Heap.lt_size e
 | xd fs=>obtain ⟨_,⟨_,_,_,e,_⟩,_⟩:=x; exact Heap.lt_size e
 | rng lo hi=>obtain ⟨_,_,_,e⟩:=x; exact Heap.lt_size e
 | frz ob u=>obtain ⟨e,_⟩:=x; exact Heap.lt_size e
 | tbl ps=>exact Heap.lt_size (show h.get? a=some _ from x)
 | met f y=>exact Heap.lt_size (show h.get? a=some _ from x)
 | ext φ=>obtain ⟨_,⟨_,e⟩,_⟩:=x; exact Heap.lt_size e
theorem Paired.mapP {α β:Type} {F G:α→β→Prop}:∀ {l₁:List α} {l₂:List β},Paired F l₁ l₂→(∀ a b,F a b→G a b)→Paired G l₁ l₂
 | _,_,.nil,_=>.nil
 | _,_,.cons r t,f=>.cons (f _ _ r) (Paired.mapP t f)
theorem ObjOk.stay (x:ObjOk P w H h a o) (k:∀ b u,(b=a ∨ H b=some (.own a))→h.get? b=some u→h'.get? b=some u)
  (ho:∀ b,H b=some (.own a)→H' b=some (.own a)) (ht:∀ b xs,H b=some (.tup xs)→H' b=some (.tup xs)):ObjOk P w H' h' a o:=by
 induction o with
 | lst xs=>obtain ⟨z,its,n,r,e⟩:=x; exact ⟨z,its,n,r,k _ _ (.inl rfl) e⟩
 | tup xs=>obtain ⟨z,its,r,ob,e,c⟩:=x; exact ⟨z,its,r,ob,k _ _ (.inl rfl) e,c⟩
 | dK kvs=>obtain ⟨z,y,vs,r,ob,es,ep,e,c⟩:=x; exact ⟨z,y,vs,r,ob,es,ep,k _ _ (.inl rfl) e,c⟩
 | dT kvs =>
  obtain ⟨z,y,xs,r,ob,es,ep,e,c⟩:=x
  exact ⟨z,y,xs,Paired.mapP r fun p q z=>⟨z.1,ht _ _ z.2.1,z.2.2⟩,ob,es,ep,k _ _ (.inl rfl) e,c⟩
 | set S n=>obtain ⟨ob,es,ep,t,e,c⟩:=x; exact ⟨ob,es,ep,t,k _ _ (.inl rfl) e,c⟩
 | ins C dx fs =>
  obtain ⟨d,z,ne,e,mA,⟨od,es,ep,e2,c⟩,r⟩:=x
  exact ⟨ho _ d,z,ne,k _ _ (.inl rfl) e,mA,⟨od,es,ep,k _ _ (.inr d) e2,c⟩,r⟩
 | own y=>obtain ⟨ob,e⟩:=x; exact ⟨ob,k _ _ (.inl rfl) e⟩
 | xd fs=>obtain ⟨mA,⟨od,es,ep,e,c⟩,r⟩:=x; exact ⟨mA,⟨od,es,ep,k _ _ (.inl rfl) e,c⟩,r⟩
 | rng lo hi=>obtain ⟨t,u,v,e⟩:=x; exact ⟨t,u,v,k _ _ (.inl rfl) e⟩
 | frz ob u ih=>obtain ⟨e,q⟩:=x; exact ⟨k _ _ (.inl rfl) e,ih q⟩
 | tbl ps =>
  have e:h.get? a=some { cls:=.none,data:=.fields ps }:=x
  show h'.get? a=some { cls:=.none,data:=.fields ps }
  exact k a _ (.inl rfl) e
 | met f y =>
  have e:h.get? a=some (PySem.W.methodObj (.ref f) (.ref y)):=x
  show h'.get? a=some (PySem.W.methodObj (.ref f) (.ref y))
  exact k a _ (.inl rfl) e
 | ext φ=>obtain ⟨p,⟨o,e⟩,st⟩:=x; exact ⟨st _ _ p fun o q=>k _ _ (.inl rfl) q,⟨o,k _ _ (.inl rfl) e⟩,st⟩
theorem HOk.lt (x:HOk P w H h) (e:H a=some o):a < h.objs.size:=(x a o e).lt
theorem HOk.fresh (x:HOk P w H h) (e:h.objs.size ≤ a):H a=none:=by
 cases q:H a with
 | none=>rfl
 | some u=>exact absurd (Nat.lt_of_lt_of_le (x.lt q) e) (Nat.lt_irrefl _)
theorem HOk.kept (x:HOk P w H h) (k:∀ b u,h.get? b=some u→h'.get? b=some u):HOk P w H h':=fun a o e =>
 (x a o e).stay (fun b u _ q=>k b u q) (fun _ q=>q) fun _ _ q=>q
theorem HOk.laid (x:HOk P w H h) (k:∀ b u,h.get? b=some u→h'.get? b=some u) (hp:h.objs.size ≤ a) (new:ObjOk P w (upd H a o) h' a o):HOk P w (upd H a o) h':=fun b u e=>by
 have hn:=x.fresh hp
 by_cases hb:b=a
 ·subst hb; rw [upd_same] at e; cases e; exact new
 ·rw [upd_ne hb] at e
  exact (x b u e).stay (fun c v _ q=>k c v q) (fun c q=>by rw [upd_ne (ne_of_none q hn)]; exact q) fun c xs q=>by rw [upd_ne (ne_of_none q hn)]; exact q
end
def Rd (H:Hp) (a:Addr) (u:HO):Prop:=H a=some u ∨ ∃ o,H a=some (.frz o u)
theorem Rd.ok {P:Program} {w:World} {H:Hp} {h:Heap} {a:Addr} {u:HO} (r:Rd H a u) (x:HOk P w H h):ObjOk P w H h a u:=by
 rcases r with r | ⟨o,r⟩
 ·exact x a u r
 ·obtain ⟨_,q⟩:=x a _ r
  exact q
def Mut:Option HO→Prop
 | some (.lst _)=>True
 | some (.dK _)=>True
 | some (.dT _)=>True
 | some (.set _ _)=>True
 | some (.ins _ _ _)=>True
 | some (.ext _)=>True
 | _=>False
section
variable {P:Program} {w:World} {H:Hp} {h h':Heap} {x e:Addr} {o':HO}
theorem HOk.write (ok:HOk P w H h) (mu:Mut (H x)) (he:e=x ∨ H e=some (.own x)) (k:∀ b u,b ≠ e→h.get? b=some u→h'.get? b=some u) (heo:∃ u,h'.get? e=some u)
  (new:ObjOk P w (upd H x o') h' x o'):HOk P w (upd H x o') h':=fun b u q=>by
 have nown:∀ c y,H c=some (.own y)→c ≠ x:=fun c y r z=>by subst z; rw [r] at mu; exact mu
 have ntup:∀ c xs,H c=some (.tup xs)→c ≠ x:=fun c xs r z=>by subst z; rw [r] at mu; exact mu
 by_cases hb:b=x
 ·subst hb; rw [upd_same] at q; cases q; exact new
 ·rw [upd_ne hb] at q
  by_cases hbe:b=e
  ·have q':H b=some (.own x):=by
    rcases he with z | z
    ·exact absurd (hbe.trans z) hb
    ·rw [hbe]; exact z
   rw [q] at q'; cases q'
   obtain ⟨v,hv⟩:=heo
   exact ⟨v,by rw [hbe]; exact hv⟩
  ·refine (ok b u q).stay (fun c v hc r=>k c v ?_ r) (fun c r=>by rw [upd_ne (nown c b r)]; exact r) fun c xs r=>by rw [upd_ne (ntup c xs r)]; exact r
   rcases hc with rfl | hc
   ·exact hbe
   ·rintro rfl
    rcases he with z | z
    ·exact nown c b hc z
    ·rw [hc] at z; cases z; exact hb rfl
end
structure Un (fs ex:List Addr) (H H':Hp) (h h':Heap):Prop where
 keep:∀ b o,h.get? b=some o→H b=none→b ∉ fs→b ∉ ex→h'.get? b=some o
 slot:∀ b o,h.get? b=some o→H b=none→b ∈ fs→b ∉ ex→∃ sl,h'.get? b=some { o with slots:=sl }
 free:∀ b o,h.get? b=some o→H b=none→b ∉ ex→H' b=none
 there:∀ b o,h.get? b=some o→b ∉ ex→∃ o',h'.get? b=some o'
 tups:∀ b xs,H b=some (.tup xs)→H' b=some (.tup xs)
 frzs:∀ b o u,H b=some (.frz o u)→H' b=some (.frz o u)
 tbls:∀ b ps,H b=some (.tbl ps)→∃ more,H' b=some (.tbl (ps ++ more))
section
variable {fs fs' ex ex':List Addr} {H H1 H2:Hp} {h h1 h2 h':Heap} {a x e:Addr} {o:HO}
theorem Un.any (u:Un fs ex H H1 h h1) {b:Addr} {ob:Obj} (q:h.get? b=some ob) (n:H b=none) (hx:b ∉ ex):∃ sl,h1.get? b=some { ob with slots:=sl }:=by
 by_cases hb:b ∈ fs
 ·exact u.slot b ob q n hb hx
 ·exact ⟨ob.slots,u.keep b ob q n hb hx⟩
theorem Un.kept (k:∀ b u,h.get? b=some u→h'.get? b=some u):Un fs ex H H h h' :=
 ⟨fun b ob q _ _ _=>k b ob q,fun b ob q _ _ _=>⟨ob.slots,k b ob q⟩,fun _ _ _ n _=>n,fun b ob q _=>⟨ob,k b ob q⟩,fun _ _ q=>q,fun _ _ _ q=>q,fun _ ps q=>⟨#[],by rw [q]; simp⟩⟩
theorem Un.refl:Un fs ex H H h h:=Un.kept fun _ _ q=>q
theorem Un.laid (k:∀ b u,h.get? b=some u→h'.get? b=some u) (hp:h.objs.size ≤ a) (hn:H a=none):Un fs ex H (upd H a o) h h' where
 keep:=fun b u q _ _ _=>k b u q
 slot:=fun b u q _ _ _=>⟨u.slots,k b u q⟩
 free:=fun b u q n _=>by rw [upd_ne (Nat.ne_of_lt (Nat.lt_of_lt_of_le (Heap.lt_size q) hp))]; exact n
 there:=fun b u q _=>⟨u,k b u q⟩
 tups:=fun b xs q=>by rw [upd_ne (ne_of_none q hn)]; exact q
 frzs:=fun b u xs q=>by rw [upd_ne (ne_of_none q hn)]; exact q
 tbls:=fun b ps q=>⟨#[],by rw [upd_ne (ne_of_none q hn),q]; simp⟩
theorem Un.write (mu:Mut (H x)) (he:e=x ∨ H e=some (.own x)) (k:∀ b u,b ≠ e→h.get? b=some u→h'.get? b=some u) (heo:∃ u,h'.get? e=some u):Un fs ex H (upd H x o) h h':=by
 have hx:∀ b,H b=none→b ≠ x:=fun b n z=>by subst z; rw [n] at mu; exact mu
 have hb:∀ b,H b=none→b ≠ e:=fun b n z=>by
  subst z
  rcases he with r | r
  ·exact hx b n r
  ·rw [n] at r; cases r
 have hm:∀ b u,H b=some u→¬ Mut (some u)→b ≠ x:=fun b u q nm z=>by subst z; rw [q] at mu; exact nm mu
 refine ⟨fun b u q n _ _=>k b u (hb b n) q,fun b u q n _ _=>⟨u.slots,k b u (hb b n) q⟩,fun b u q n _=>by rw [upd_ne (hx b n)]; exact n,fun b u q _=>?_,
  fun b xs q=>by rw [upd_ne (hm b _ q fun z=>z)]; exact q,fun b u xs q=>by rw [upd_ne (hm b _ q fun z=>z)]; exact q,fun b ps q=>⟨#[],by rw [upd_ne (hm b _ q fun z=>z),q]; simp⟩⟩
 by_cases hbe:b=e
 ·subst hbe; exact heo
 ·exact ⟨u,k b u hbe q⟩
end
def trk (h:Heap) (H:Hp):List Addr:=(List.range h.objs.size).filter fun a=>(H a).isSome
def hidT (h:Heap) (H:Hp):Heap:=PySem.W.hideAll h (trk h H)
theorem hidT_size (h:Heap) (H:Hp):(hidT h H).objs.size=h.objs.size:=PySem.W.hideAll_size _ _
theorem hidT_get {h:Heap} {H:Hp} {b:Addr} {o:Obj} (e:h.get? b=some o) (n:H b=none):(hidT h H).get? b=some o :=
 PySem.W.hideAll_get _ e fun hm=>by
  have q:(H b).isSome=true:=(List.mem_filter.mp hm).2
  rw [n] at q; simp at q
theorem of_hidT {h:Heap} {H:Hp} {b:Addr} {o:Obj} (e:(hidT h H).get? b=some o):h.get? b=some o∧H b=none:=by
 have e':h.get? b=some o:=PySem.W.of_hideAll (trk h H) e
 refine ⟨e',?_⟩
 cases q:H b with
 | none=>rfl
 | some x =>
  have hm:b ∈ trk h H:=List.mem_filter.mpr ⟨List.mem_range.mpr (Heap.lt_size e'),by simp [q]⟩
  have z:(hidT h H).get? b=none:=PySem.W.hideAll_none (trk h H) hm
  rw [z] at e; cases e
end L2
namespace L2
open PySem PySem.Spec PyProof.Rows
structure Mod (K:PySem.W.Frag) (mg:Str→Option Value) (base:Heap):Prop where
 kin:K.In base
 glob:base.Ns mainGlobals mg
 blt:∃ mb,base.Ns builtinsNs mb∧∀ x:Str,x ≠ "__name__"→mb x=bootBuiltins x
 nolimit:base.NoLimit
structure Cx where
 prog:Program
 w:World
 K:PySem.W.Frag
 mg:Str→Option Value
 base:Heap
 A:Around
 N:List Str
 s₀:Shared
 H₀:Hp
 env:Env
 outer:List Env
 stack:List Env
 ex:List Addr
 fn:Str→Bool
 calm:Bool
 pn:List (Addr × Obj)
 xe:Value→Shared→Prop
def frs (l:List Env):List Addr:=l.filterMap (·.frame)
abbrev Cx.fs (X:Cx):List Addr:=frs X.outer
def Vis (sc:Scope) (x:Str):Prop:=sc.names.lookup x=some .local ∨ sc.names.lookup x=some .cell ∨ sc.names.lookup x=some .free
def Loc (sc:Scope) (x:Str):Prop:=sc.names.lookup x=some .local ∨ sc.names.lookup x=some .cell
def Look (env:Env) (h:Heap) (m:Str→Option Value) (x:Str) (u:Value):Prop :=
 (env.kindOf x=some .local∧m x=some u) ∨ ((env.kindOf x=some .cell ∨ env.kindOf x=some .free)∧∃ c,env.cells.lookup x=some c∧h.IsCell c (some u))
structure Cx.Ok (X:Cx):Prop where
 mod:Mod X.K X.mg X.base
 kind:X.env.scope.kind=.function
 glob:X.env.globals=mainGlobals
 blt:X.env.builtins=builtinsNs
 above:X.s₀.heap.objs.size ≤ X.env.locals
 inj:∀ x y c,X.env.cells.lookup x=some c→X.env.cells.lookup y=some c→x=y
 has:∀ x,(X.env.kindOf x=some .cell ∨ X.env.kindOf x=some .free)→∃ c,X.env.cells.lookup x=some c
 cab:∀ x c,X.fn x=true→X.env.cells.lookup x=some c→X.s₀.heap.objs.size ≤ c
 hd:X.calm=true→X.A.handled=none
 frames:X.A.frames=some X.stack
 stk:X.stack=X.outer ∨ (X.stack=X.env :: X.outer∧X.env.frame=some X.env.locals)
 exf:∀ b ∈ X.ex,b ≠ X.env.locals∧∀ x c,X.env.cells.lookup x=some c→c ≠ b
 bs:∀ b o,X.base.get? b=some o→X.s₀.heap.get? b=some o∧X.H₀ b=none
 bsz:X.base.objs.size ≤ X.s₀.heap.objs.size
 noex:∀ b o,X.base.get? b=some o→b ∉ X.ex
 exfs:∀ b ∈ X.ex,b ∉ X.fs
 funs:X.s₀.heap.FunFrames X.base X.outer
 frf:∀ b ∈ X.fs,X.H₀ b=none
structure Inv (X:Cx) (pins:List (Addr × Obj)) (σ:List (Option V)) (H:Hp) (s:Shared):Prop where
 ok:X.Ok
 os:s.os=X.s₀.os
 bare:AllBare s.gens
 base:Un X.fs X.ex X.H₀ H X.s₀.heap s.heap
 loc:∃ m,s.heap.Ns X.env.locals m∧∀ (i:Nat) (x:Str) (v:V),X.N[i]?=some x→σ[i]?=some (some v)→Vis X.env.scope x→∃ u,RelV v u∧Look X.env s.heap m x u
 cell:∀ x c,X.env.cells.lookup x=some c→∃ v,s.heap.IsCell c v
 free:H X.env.locals=none
 freeC:∀ x c,X.env.cells.lookup x=some c→H c=none
 pin:∀ p ∈ X.pn ++ pins,s.heap.get? p.1=some p.2∧H p.1=none∧p.1 ≠ X.env.locals∧p.1 ∉ X.fs∧∀ v,p.2.data ≠ .cell v
 hok:HOk X.prog X.w H s.heap
 len:σ.length=X.N.length
section
variable {X:Cx} {pins:List (Addr × Obj)} {σ:List (Option V)} {H H':Hp} {s:Shared} {h':Heap}
theorem Cx.Ok.nofr (ok:X.Ok) {b:Addr} {o:Obj} (e:X.base.get? b=some o):b ∉ X.fs:=fun hb=>by
 have:=(ok.funs.mem hb).1
 rw [e] at this; cases this
theorem Inv.bs (I:Inv X pins σ H s):∀ b o,X.base.get? b=some o→s.heap.get? b=some o∧H b=none:=fun b o e =>
 ⟨I.base.keep b o (I.ok.bs b o e).1 (I.ok.bs b o e).2 (I.ok.nofr e) (I.ok.noex b o e),I.base.free b o (I.ok.bs b o e).1 (I.ok.bs b o e).2 (I.ok.noex b o e)⟩
theorem Inv.bk (I:Inv X pins σ H s):∀ b o,X.base.get? b=some o→s.heap.get? b=some o:=fun b o e=>(I.bs b o e).1
theorem Inv.mod (I:Inv X pins σ H s):Mod X.K X.mg X.base:=I.ok.mod
theorem Inv.kIn (I:Inv X pins σ H s):X.K.In s.heap:=I.ok.mod.kin.keeps I.bk
theorem Inv.nolimit (I:Inv X pins σ H s):s.heap.NoLimit:=I.ok.mod.nolimit.keeps I.bk
theorem Inv.lt (I:Inv X pins σ H s):X.env.locals < s.heap.objs.size:=let ⟨_,hn,_⟩:=I.loc; hn.lt
theorem Inv.sz (I:Inv X pins σ H s):X.s₀.heap.objs.size ≤ s.heap.objs.size:=Nat.le_trans I.ok.above (Nat.le_of_lt I.lt)
theorem Inv.nofs (I:Inv X pins σ H s) {a:Addr} (h:s.heap.objs.size ≤ a):a ∉ X.fs:=fun hb=>by
 obtain ⟨_,o,ho,_⟩:=I.ok.funs.mem hb
 exact absurd (Nat.lt_of_lt_of_le (Heap.lt_size ho) (Nat.le_trans I.sz h)) (Nat.lt_irrefl _)
theorem Inv.cne (I:Inv X pins σ H s):∀ x c,X.env.cells.lookup x=some c→c ≠ X.env.locals:=fun x c e z=>by
 obtain ⟨v,o,ho,hd⟩:=I.cell x c e
 obtain ⟨m,⟨o',es,ep,ho',hd',_⟩,_⟩:=I.loc
 rw [z,ho'] at ho; cases ho; rw [hd'] at hd; cases hd
theorem Inv.funs (I:Inv X pins σ H s):s.heap.FunFrames X.base X.outer:=by
 have all:∀ (l:List Env),(∀ b ∈ frs l,b ∈ X.fs)→X.s₀.heap.FunFrames X.base l→s.heap.FunFrames X.base l:=by
  intro l
  induction l with
  | nil=>intro _ _; trivial
  | cons env r ih =>
   intro hs hl
   obtain ⟨hk,⟨L,o,hf,hn,ho,hd⟩,hr⟩:=hl
   have hL:L ∈ X.fs:=hs L (by unfold frs; rw [List.filterMap_cons,hf]; exact List.mem_cons_self)
   obtain ⟨sl,e⟩:=I.base.slot L o ho (I.ok.frf L hL) hL fun z=>I.ok.exfs L z hL
   exact ⟨hk,⟨L,_,hf,hn,e,hd⟩,ih (fun b hb=>hs b (by unfold frs; rw [List.filterMap_cons,hf]; exact List.mem_cons_of_mem _ hb)) hr⟩
 exact all X.outer (fun _ hb=>hb) I.ok.funs
theorem Inv.stack (I:Inv X pins σ H s):s.heap.FunFrames X.base X.stack:=by
 rcases I.ok.stk with e | ⟨e,hf⟩
 ·rw [e]; exact I.funs
 ·rw [e]
  obtain ⟨m,hn,_⟩:=I.loc
  refine .cons (by rw [I.ok.kind]; decide) hf hn ?_ I.funs
  exact Heap.get?_none_of_le (Nat.le_trans I.ok.bsz I.ok.above)
theorem Inv.stkSub (I:Inv X pins σ H s):∀ b ∈ frs X.stack,b ∈ X.env.locals :: X.fs:=fun b hb=>by
 rcases I.ok.stk with e | ⟨e,hf⟩
 ·rw [e] at hb; exact List.mem_cons_of_mem _ hb
 ·rw [e] at hb
  unfold frs at hb
  rw [List.filterMap_cons,hf] at hb
  exact hb
theorem Inv.stkFree (I:Inv X pins σ H s):∀ b ∈ frs X.stack,H b=none:=fun b hb=>by
 rcases List.mem_cons.mp (I.stkSub b hb) with e | hb
 ·rw [e]; exact I.free
 ·obtain ⟨_,o,ho,_⟩:=I.ok.funs.mem hb
  exact I.base.free b o ho (I.ok.frf b hb) fun z=>I.ok.exfs b z hb
theorem Inv.step {g':Array GenState} {t':Nat} {d':Drawn} {ch:List Addr} (I:Inv X pins σ H s)
  (hch:∀ b ∈ ch,(b ∈ X.ex ∨ X.s₀.heap.objs.size ≤ b)∧b ≠ X.env.locals∧(∀ x c,X.env.cells.lookup x=some c→c ≠ b)∧∀ p ∈ X.pn ++ pins,p.1 ≠ b)
  (keep:∀ b o,b ≠ X.env.locals→b ∉ X.fs→b ∉ ch→s.heap.get? b=some o→H b=none→h'.get? b=some o)
  (slot:∀ b o,b ≠ X.env.locals→b ∈ X.fs→b ∉ ch→s.heap.get? b=some o→H b=none→∃ sl,h'.get? b=some { o with slots:=sl }) (free:∀ b o,b ∉ ch→s.heap.get? b=some o→H b=none→H' b=none)
  (there:∀ b o,b ∉ ch→s.heap.get? b=some o→∃ o',h'.get? b=some o')
  (tups:∀ b xs,H b=some (.tup xs)→H' b=some (.tup xs)) (frzs:∀ b o u,H b=some (.frz o u)→H' b=some (.frz o u)) (tbls:∀ b ps,H b=some (.tbl ps)→∃ more,H' b=some (.tbl (ps ++ more)))
  (ns:∀ m,s.heap.Ns X.env.locals m→h'.Ns X.env.locals m) (hok:HOk X.prog X.w H' h') (hg:AllBare g') :
  Inv X pins σ H' { s with heap:=h',gens:=g',drawn:=d',toks:=t' }:=by
 have neL:∀ b o,X.s₀.heap.get? b=some o→b ≠ X.env.locals:=fun b o e=>Nat.ne_of_lt (Nat.lt_of_lt_of_le (Heap.lt_size e) I.ok.above)
 have neC:∀ b o,X.s₀.heap.get? b=some o→b ∉ X.ex→b ∉ ch:=fun b o e hx hb=>by
  rcases (hch b hb).1 with z | z
  ·exact hx z
  ·exact absurd (Nat.lt_of_lt_of_le (Heap.lt_size e) z) (Nat.lt_irrefl _)
 have cellK:∀ x c,X.env.cells.lookup x=some c→∀ v,s.heap.IsCell c v→h'.IsCell c v:=fun x c e v ⟨o,ho,hd⟩=>by
  have nch:c ∉ ch:=fun z=>(hch c z).2.2.1 x c e rfl
  by_cases hc:c ∈ X.fs
  ·obtain ⟨sl,q⟩:=slot c o (I.cne x c e) hc nch ho (I.freeC x c e)
   exact ⟨_,q,hd⟩
  ·exact ⟨o,keep c o (I.cne x c e) hc nch ho (I.freeC x c e),hd⟩
 refine ⟨I.ok,I.os,hg,⟨fun b o e n hb hx=>?_,fun b o e n hb hx=>?_,fun b o e n hx=>?_,fun b o e hx=>?_,fun b xs e=>tups b xs (I.base.tups b xs e),fun b o xs e=>frzs b o xs (I.base.frzs b o xs e),fun b ps e=>?_⟩,?_,fun x c e=>?_,?_,fun x c e=>?_,fun p hp=>?_,hok,I.len⟩
 ·exact keep b o (neL b o e) hb (neC b o e hx) (I.base.keep b o e n hb hx) (I.base.free b o e n hx)
 ·obtain ⟨sl,e1⟩:=I.base.slot b o e n hb hx
  obtain ⟨sl',e2⟩:=slot b _ (neL b o e) hb (neC b o e hx) e1 (I.base.free b o e n hx)
  exact ⟨sl',e2⟩
 ·obtain ⟨o',e1⟩:=I.base.there b o e hx
  exact free b o' (neC b o e hx) e1 (I.base.free b o e n hx)
 ·obtain ⟨o',e1⟩:=I.base.there b o e hx
  exact there b o' (neC b o e hx) e1
 ·obtain ⟨m1,e1⟩:=I.base.tbls b ps e
  obtain ⟨m2,e2⟩:=tbls b _ e1
  exact ⟨m1 ++ m2,by rw [e2,Array.append_assoc]⟩
 ·obtain ⟨m,hn,hl⟩:=I.loc
  refine ⟨m,ns m hn,fun i x v e1 e2 e3=>?_⟩
  obtain ⟨u,r,l⟩:=hl i x v e1 e2 e3
  refine ⟨u,r,?_⟩
  rcases l with l | ⟨k,c,e,z⟩
  ·exact .inl l
  ·exact .inr ⟨k,c,e,cellK x c e _ z⟩
 ·obtain ⟨v,z⟩:=I.cell x c e
  exact ⟨v,cellK x c e v z⟩
 ·obtain ⟨m,⟨o,_,_,ho,_⟩,_⟩:=I.loc
  exact free _ o (fun z=>(hch _ z).2.1 rfl) ho I.free
 ·obtain ⟨v,o,ho,hd⟩:=I.cell x c e
  exact free c o (fun z=>(hch c z).2.2.1 x c e rfl) ho (I.freeC x c e)
 ·obtain ⟨e,n,ne,nf,d⟩:=I.pin p hp
  have nch:p.1 ∉ ch:=fun z=>(hch p.1 z).2.2.2 p hp rfl
  exact ⟨keep p.1 p.2 ne nf nch e n,free p.1 p.2 nch e n,ne,nf,d⟩
theorem Inv.un {t':Nat} (I:Inv X pins σ H s) (u:Un X.fs [] H H' s.heap h') (hok:HOk X.prog X.w H' h'):Inv X pins σ H' { s with heap:=h',toks:=t' }:=by
 obtain ⟨m,⟨o,es,ep,ho,r⟩,_⟩:=id I.loc
 obtain ⟨sl,hL⟩:=u.any ho I.free (by simp)
 exact I.step (g':=s.gens) (d':=s.drawn) (ch:=[]) (fun _ z=>nomatch z) (fun b o _ hb _ e n=>u.keep b o e n hb (by simp)) (fun b o _ hb _ e n=>u.slot b o e n hb (by simp)) (fun b o _ e n=>u.free b o e n (by simp)) (fun b o _ e=>u.there b o e (by simp)) u.tups u.frzs u.tbls (fun m' hm=>by
  obtain ⟨o',es',ep',ho',r'⟩:=hm
  rw [ho] at ho'; cases ho'
  exact ⟨_,es',ep',hL,r'⟩) hok I.bare
theorem Inv.call {g':Array GenState} {t':Nat} {d':Drawn} {ch:List Addr} (I:Inv X pins σ H s) (u:Un (frs X.stack) ch H H' s.heap h') (hok:HOk X.prog X.w H' h') (hg:AllBare g')
  (hch:∀ b ∈ ch,(b ∈ X.ex ∨ X.s₀.heap.objs.size ≤ b)∧b ≠ X.env.locals∧(∀ x c,X.env.cells.lookup x=some c→c ≠ b)∧∀ p ∈ X.pn ++ pins,p.1 ≠ b) :
  Inv X pins σ H' { s with heap:=h',gens:=g',drawn:=d',toks:=t' }:=by
 obtain ⟨m,⟨o,es,ep,ho,r⟩,_⟩:=id I.loc
 obtain ⟨sl,hL⟩:=u.any ho I.free fun z=>(hch _ z).2.1 rfl
 exact I.step (ch:=ch) hch (fun b o hL hb hc e n=>u.keep b o e n (fun z=>(List.mem_cons.mp (I.stkSub b z)).elim hL hb) hc) (fun b o _ _ hc e n=>u.any e n hc) (fun b o hc e n=>u.free b o e n hc) (fun b o hc e=>u.there b o e hc) u.tups u.frzs u.tbls (fun m' hm=>by
  obtain ⟨o',es',ep',ho',r'⟩:=hm
  rw [ho] at ho'; cases ho'
  exact ⟨_,es',ep',hL,r'⟩) hok hg
theorem Inv.turned {t':Nat} {it:Addr} (I:Inv X pins σ H s) (k:∀ b o,b ≠ it→s.heap.get? b=some o→h'.get? b=some o) (hn:H it=none) (hL:it ≠ X.env.locals)
  (h1:it ∈ X.ex ∨ X.s₀.heap.objs.size ≤ it) (h2:∀ x c,X.env.cells.lookup x=some c→c ≠ it) (h3:∀ p ∈ X.pn ++ pins,p.1 ≠ it):Inv X pins σ H { s with heap:=h',toks:=t' }:=by
 have nit:∀ b u,H b=some u→b ≠ it:=fun b u e z=>by rw [z,hn] at e; cases e
 refine I.step (g':=s.gens) (d':=s.drawn) (ch:=[it]) (fun b hb=>?_) (fun b o _ _ hc e _=>k b o (fun z=>hc (by simp [z])) e) (fun b o _ _ hc e _=>⟨o.slots,k b o (fun z=>hc (by simp [z])) e⟩) (fun _ _ _ _ n=>n)
  (fun b o hc e=>⟨o,k b o (fun z=>hc (by simp [z])) e⟩) (fun _ _ e=>e) (fun _ _ _ e=>e) (fun b ps e=>⟨#[],by rw [e]; simp⟩) (fun m hm=>?_) (fun b u e=>?_) I.bare
 ·have e:b=it:=by simpa using hb
  subst e
  exact ⟨h1,hL,h2,h3⟩
 ·obtain ⟨o,es,ep,ho,r⟩:=hm
  exact ⟨o,es,ep,k _ o (Ne.symm hL) ho,r⟩
 ·refine (I.hok b u e).stay (fun c v hc q=>k c v ?_ q) (fun _ q=>q) fun _ _ q=>q
  rcases hc with z | z
  ·rw [z]; exact nit b u e
  ·exact nit c _ z
theorem Inv.tok (I:Inv X pins σ H s) (t:Nat):Inv X pins σ H { s with toks:=t }:=I.un (h':=s.heap) (t':=t) Un.refl I.hok
theorem Inv.kept {t':Nat} (I:Inv X pins σ H s) (k:∀ b u,s.heap.get? b=some u→h'.get? b=some u):Inv X pins σ H { s with heap:=h',toks:=t' }:=I.un (Un.kept k) (I.hok.kept k)
theorem Inv.laid {a:Addr} {o:HO} {t':Nat} (I:Inv X pins σ H s) (k:∀ b u,s.heap.get? b=some u→h'.get? b=some u) (hp:s.heap.objs.size ≤ a) (new:ObjOk X.prog X.w (upd H a o) h' a o) :
  Inv X pins σ (upd H a o) { s with heap:=h',toks:=t' }:=I.un (Un.laid k hp (I.hok.fresh hp)) (I.hok.laid k hp new)
theorem Inv.write {x e:Addr} {o:HO} {t':Nat} (I:Inv X pins σ H s) (mu:Mut (H x)) (he:e=x ∨ H e=some (.own x)) (k:∀ b u,b ≠ e→s.heap.get? b=some u→h'.get? b=some u) (heo:∃ u,h'.get? e=some u)
  (new:ObjOk X.prog X.w (upd H x o) h' x o):Inv X pins σ (upd H x o) { s with heap:=h',toks:=t' }:=I.un (Un.write mu he k heo) (I.hok.write mu he k heo new)
theorem Inv.pins_of {pins':List (Addr × Obj)} (I:Inv X pins σ H s) (h:∀ p ∈ pins',s.heap.get? p.1=some p.2∧H p.1=none∧p.1 ≠ X.env.locals∧p.1 ∉ X.fs∧∀ v,p.2.data ≠ .cell v):Inv X pins' σ H s :=
 ⟨I.ok,I.os,I.bare,I.base,I.loc,I.cell,I.free,I.freeC,fun p hp=>(List.mem_append.mp hp).elim (fun z=>I.pin p (List.mem_append_left _ z)) (h p),I.hok,I.len⟩
theorem nodup_ix {N:List Str} (hN:N.Nodup) {i j:Nat} {x:Str} (a:N[i]?=some x) (b:N[j]?=some x):i=j:=by
 obtain ⟨h1,e1⟩:=List.getElem?_eq_some_iff.mp a
 obtain ⟨h2,e2⟩:=List.getElem?_eq_some_iff.mp b
 exact (List.getElem_inj hN).mp (e1.trans e2.symm)
theorem store_ok2 {M:Model} {A:Around} {E:Value→Shared→Prop} {i:Nat} {x:Str} {v:V} {u:Value} {Q:Unit→Shared→Prop} (I:Inv X pins σ H s) (hN:X.N.Nodup) (hi:X.N[i]?=some x) (hx:Loc X.env.scope x) (r:RelV v u)
  (h:∀ s',Inv X pins (σ.set i (some v)) H s'→(∃ a,Heap.SameBut a s.heap s'.heap∧(a=X.env.locals ∨ X.env.cells.lookup x=some a))→Q () s') (hf:X.fn x=true ∨ X.env.scope.names.lookup x=some .local:=by first | exact .inl rfl | exact .inr rfl | assumption):wpAny M A (storeName X.env x u) Q E s:=by
 obtain ⟨m,hn,hl⟩:=id I.loc
 have hcls:(X.env.scope.kind == .class || (X.env.scope.kind == .module && X.env.locals != X.env.globals))=false:=by rw [I.ok.kind]; rfl
 have hiσ:i < σ.length:=by rw [I.len]; exact (List.getElem?_eq_some_iff.mp hi).1
 have cne:=I.cne
 have tracked:∀ {a:Addr} {h':Heap},(∃ o,s.heap.get? a=some o∧H a=none)→Heap.SameBut a s.heap h'→HOk X.prog X.w H h':=fun {a h'} ha hs b ob e=>by
  obtain ⟨_,_,hfree⟩:=ha
  refine (I.hok b ob e).stay (fun c w' hc q=>(hs.2 c ?_).trans q) (fun _ q=>q) fun _ _ q=>q
  rintro rfl
  rcases hc with rfl | hc
  ·rw [hfree] at e; cases e
  ·rw [hfree] at hc; cases hc
 rcases hx with hk | hk
 ·refine wpAny_storeName_local hk hn (fun h' hn' hs=>?_) hcls
  obtain ⟨oL,_,_,hoL,_⟩:=id hn
  refine h _ ⟨I.ok,I.os,I.bare,⟨fun b o e n hb hx=>?_,fun b o e n hb hx=>?_,I.base.free,fun b o e hx=>?_,I.base.tups,I.base.frzs,I.base.tbls⟩,⟨_,hn',fun j y v' e1 e2 e3=>?_⟩,fun y c e=>?_,I.free,I.freeC,fun p hp=>?_,tracked ⟨oL,hoL,I.free⟩ hs,by simpa using I.len⟩ ⟨_,hs,.inl rfl⟩
  ·exact (hs.2 b (Nat.ne_of_lt (Nat.lt_of_lt_of_le (Heap.lt_size e) I.ok.above))).trans (I.base.keep b o e n hb hx)
  ·obtain ⟨sl,e1⟩:=I.base.slot b o e n hb hx
   exact ⟨sl,(hs.2 b (Nat.ne_of_lt (Nat.lt_of_lt_of_le (Heap.lt_size e) I.ok.above))).trans e1⟩
  ·obtain ⟨o',e1⟩:=I.base.there b o e hx
   exact ⟨o',(hs.2 b (Nat.ne_of_lt (Nat.lt_of_lt_of_le (Heap.lt_size e) I.ok.above))).trans e1⟩
  ·by_cases hj:j=i
   ·subst hj
    rw [hi] at e1; cases e1
    rw [List.getElem?_set_self hiσ] at e2
    cases e2
    exact ⟨u,r,.inl ⟨hk,by simp⟩⟩
   ·rw [List.getElem?_set_ne (Ne.symm hj)] at e2
    obtain ⟨u',r',q⟩:=hl j y v' e1 e2 e3
    refine ⟨u',r',?_⟩
    rcases q with ⟨k,e⟩ | ⟨k,c,e,z⟩
    ·refine .inl ⟨k,?_⟩
     have:y ≠ x:=fun e=>hj (nodup_ix hN e1 (e ▸ hi))
     simp [this,e]
    ·exact .inr ⟨k,c,e,z.sameBut hs (cne y c e)⟩
  ·obtain ⟨w',z⟩:=I.cell y c e
   exact ⟨w',z.sameBut hs (cne y c e)⟩
  ·obtain ⟨e,n,ne,nf,d⟩:=I.pin p hp
   exact ⟨(hs.2 p.1 ne).trans e,n,ne,nf,d⟩
 ·have hfn:X.fn x=true:=by
   rcases hf with z | z
   ·exact z
   ·rw [z] at hk; cases hk
  obtain ⟨c,hc⟩:=I.ok.has x (.inl hk)
  obtain ⟨w',z⟩:=I.cell x c hc
  refine wpAny_storeName_cell I.ok.kind hk hc z (fun h' hc' hs=>?_)
  obtain ⟨oc,hoc,hocd⟩:=id z
  refine h { s with heap:=h' } ⟨I.ok,I.os,I.bare,⟨fun b o e n hb hx=>?_,fun b o e n hb hx=>?_,I.base.free,fun b o e hx=>?_,I.base.tups,I.base.frzs,I.base.tbls⟩,⟨m,hn.sameBut hs (Ne.symm (cne x c hc)),fun j y v' e1 e2 e3=>?_⟩,fun y c' e=>?_,I.free,I.freeC,fun p hp=>?_,tracked ⟨oc,hoc,I.freeC x c hc⟩ hs,by simpa using I.len⟩ ⟨c,hs,.inr hc⟩
  ·exact (hs.2 b (Nat.ne_of_lt (Nat.lt_of_lt_of_le (Heap.lt_size e) (I.ok.cab x c hfn hc)))).trans (I.base.keep b o e n hb hx)
  ·obtain ⟨sl,e1⟩:=I.base.slot b o e n hb hx
   exact ⟨sl,(hs.2 b (Nat.ne_of_lt (Nat.lt_of_lt_of_le (Heap.lt_size e) (I.ok.cab x c hfn hc)))).trans e1⟩
  ·obtain ⟨o',e1⟩:=I.base.there b o e hx
   exact ⟨o',(hs.2 b (Nat.ne_of_lt (Nat.lt_of_lt_of_le (Heap.lt_size e) (I.ok.cab x c hfn hc)))).trans e1⟩
  ·by_cases hj:j=i
   ·subst hj
    rw [hi] at e1; cases e1
    rw [List.getElem?_set_self hiσ] at e2
    cases e2
    exact ⟨u,r,.inr ⟨.inl hk,c,hc,hc'⟩⟩
   ·rw [List.getElem?_set_ne (Ne.symm hj)] at e2
    obtain ⟨u',r',q⟩:=hl j y v' e1 e2 e3
    refine ⟨u',r',?_⟩
    rcases q with q | ⟨k,c',e,z'⟩
    ·exact .inl q
    ·refine .inr ⟨k,c',e,z'.sameBut hs ?_⟩
     rintro rfl
     exact hj (nodup_ix hN e1 (I.ok.inj _ _ _ e hc ▸ hi))
  ·by_cases hcc:c'=c
   ·subst hcc; exact ⟨_,hc'⟩
   ·obtain ⟨w2,z2⟩:=I.cell y c' e
    exact ⟨w2,z2.sameBut hs hcc⟩
  ·obtain ⟨e,n,ne,nf,d⟩:=I.pin p hp
   refine ⟨(hs.2 p.1 ?_).trans e,n,ne,nf,d⟩
   intro q
   rw [q,hoc] at e
   have q':oc=p.2:=Option.some.inj e
   exact d w' (by rw [← q']; exact hocd)
theorem store_ok {M:Model} {A:Around} {E:Value→Shared→Prop} {i:Nat} {x:Str} {v:V} {u:Value} {Q:Unit→Shared→Prop} (I:Inv X pins σ H s) (hN:X.N.Nodup) (hi:X.N[i]?=some x) (hx:Loc X.env.scope x) (r:RelV v u)
  (h:∀ s',Inv X pins (σ.set i (some v)) H s'→Q () s') (hf:X.fn x=true ∨ X.env.scope.names.lookup x=some .local:=by first | exact .inl rfl | exact .inr rfl | assumption):wpAny M A (storeName X.env x u) Q E s :=
 store_ok2 I hN hi hx r (fun s' I' _=>h s' I') hf
theorem Inv.call' {s':Shared} {ch:List Addr} (I:Inv X pins σ H s) (ho:s'.os=s.os) (u:Un (frs X.stack) ch H H' s.heap s'.heap) (hok:HOk X.prog X.w H' s'.heap) (hg:AllBare s'.gens)
  (hch:∀ b ∈ ch,(b ∈ X.ex ∨ X.s₀.heap.objs.size ≤ b)∧b ≠ X.env.locals∧(∀ x c,X.env.cells.lookup x=some c→c ≠ b)∧∀ p ∈ X.pn ++ pins,p.1 ≠ b):Inv X pins σ H' s':=by
 obtain ⟨h',g',d',t',o'⟩:=s'
 have e:o'=s.os:=ho
 subst e
 exact I.call (g':=g') (t':=t') (d':=d') u hok hg hch
end
abbrev XK:=Value→Option Addr→Hp→Prop
abbrev St:=List (Option V)
abbrev VK:=V→Hp→Prop
abbrev TE:=St→Hp→VK→Prop
abbrev TT:=St→Hp→(Bool→Hp→Prop)→Prop
abbrev TA:=St→Hp→(List V→Hp→Prop)→Prop
structure Ends where
 nx:St→Hp→Prop
 rt:VK
 bk:St→Hp→Prop:=fun _ _=>False
 ct:St→Hp→Prop:=fun _ _=>False
abbrev TS:=Ends→St→Hp→Prop
def EP (X:Cx) (pins:List (Addr × Obj)) (σ:St) (Q:VK) (u:Value) (s':Shared):Prop:=∃ v H',Inv X pins σ H' s'∧RelV v u∧Q v H'
def TP (X:Cx) (pins:List (Addr × Obj)) (σ:St) (Q:Bool→Hp→Prop) (b:Bool) (s':Shared):Prop:=∃ H',Inv X pins σ H' s'∧Q b H'
def AP (X:Cx) (pins:List (Addr × Obj)) (σ:St) (Q:List V→Hp→Prop) (us:List Value) (s':Shared):Prop:=∃ vs H',Inv X pins σ H' s'∧Vals vs us∧Q vs H'
def SP (X:Cx) (pins:List (Addr × Obj)) (D:Ends) (f:Flow) (s':Shared):Prop :=
 match f with
 | .next=>∃ σ' H',Inv X pins σ' H' s'∧D.nx σ' H'
 | .brk=>∃ σ' H',Inv X pins σ' H' s'∧D.bk σ' H'
 | .cont=>∃ σ' H',Inv X pins σ' H' s'∧D.ct σ' H'
 | .ret u=>∃ v σ' H',Inv X pins σ' H' s'∧RelV v u∧D.rt v H'
def PE (X:Cx) (e:Expr) (t:TE):Prop :=
 ∀ (pins:List (Addr × Obj)) (s:Shared) (σ:St) (H:Hp) (Q:VK),Inv X pins σ H s→t σ H Q→wpAny (model X.prog X.w) X.A (eval e X.env) (EP X pins σ Q) X.xe s
def PT (X:Cx) (e:Expr) (t:TT):Prop :=
 ∀ (pins:List (Addr × Obj)) (s:Shared) (σ:St) (H:Hp) (Q:Bool→Hp→Prop),Inv X pins σ H s→t σ H Q→wpAny (model X.prog X.w) X.A (isTrue e X.env (eval e X.env)) (TP X pins σ Q) X.xe s
def PW (X:Cx) (e:Expr) (t:TT):Prop :=
 ∀ (whole:Sem Value) (pins:List (Addr × Obj)) (s:Shared) (σ:St) (H:Hp) (Q:Bool→Hp→Prop),Inv X pins σ H s→t σ H Q→wpAny (model X.prog X.w) X.A (isTrue e X.env whole) (TP X pins σ Q) X.xe s
theorem PW.pt {X:Cx} {e:Expr} {t:TT} (h:PW X e t):PT X e t:=h _
def PA (X:Cx) (es:List Expr) (t:TA):Prop :=
 ∀ (pos:Pos) (pins:List (Addr × Obj)) (s:Shared) (σ:St) (H:Hp) (Q:List V→Hp→Prop),Inv X pins σ H s→t σ H Q→wpAny (model X.prog X.w) X.A (spliced (backTo pos (starEach es X.env))) (AP X pins σ Q) X.xe s
def PS (X:Cx) (st:Stmt) (t:TS):Prop :=
 ∀ (pins:List (Addr × Obj)) (s:Shared) (σ:St) (H:Hp) (D:Ends),Inv X pins σ H s→t D σ H→wpAny (model X.prog X.w) X.A (exec st X.env) (SP X pins D) X.xe s
def PSs (X:Cx) (st:List Stmt) (t:TS):Prop :=
 ∀ (pins:List (Addr × Obj)) (s:Shared) (σ:St) (H:Hp) (D:Ends),Inv X pins σ H s→t D σ H→wpAny (model X.prog X.w) X.A (execs st X.env) (SP X pins D) X.xe s
theorem thn {α:Type} {t:Sem α} {Q Q':α→Shared→Prop} {M:Model} {A:Around} {E:Value→Shared→Prop} {s:Shared} (h:wpAny M A t Q E s) (hQ:∀ a s,Q a s→Q' a s):wpAny M A t Q' E s:=wpAny_mono h hQ fun _ _ x=>x
end L2
namespace L2
open PySem PySem.Spec PyProof.Rows
section
variable {X:Cx}
def tVar (i:Nat):TE:=fun σ H Q=>∃ v,σ[i]?=some (some v)∧Q v H
def tC (v:V):TE:=fun _ H Q=>Q v H
theorem pe_var {i:Nat} {x:Str} {pos:Pos} (hN:X.N[i]?=some x) (hv:Vis X.env.scope x) (hd:(x == ("__debug__":Str))=false:=by decide) (hcd:(x == ("__classdict__":Str))=false:=by decide):PE X (.Name x pos) (tVar i):=by
 intro pins s σ H Q I h
 obtain ⟨v,e,h⟩:=h
 obtain ⟨m,hn,hl⟩:=I.loc
 obtain ⟨u,r,l⟩:=hl i x v hN e hv
 have fin:EP X pins σ Q u s:=⟨v,H,I,r,h⟩
 rcases l with ⟨hk,hm⟩ | ⟨hk,c,hc,hcell⟩
 ·exact wpAny_Name (wpAny_loadName_local I.ok.kind hk hn hm fin) hd
 ·rcases hk with hk | hk
  ·exact wpAny_Name (wpAny_loadName_cell I.ok.kind hk hc hcell fin) hd
  ·exact wpAny_Name (wpAny_loadName_free I.ok.kind hk hc hcell fin hcd) hd
theorem pe_int {i j pos}:PE X (.Constant (.int i) j pos) (tC (.int i)):=fun _ _ _ H _ I h=>wpAny_Constant_int ⟨.int i,H,I.tok _,⟨_,rfl⟩,h⟩
theorem pe_bl {b j pos}:PE X (.Constant (.bool b) j pos) (tC (.bl b)):=fun _ _ _ H _ I h=>Constant_bool ⟨.bl b,H,I,rfl,h⟩
theorem pe_non {j pos}:PE X (.Constant .none j pos) (tC .non):=fun _ _ _ H _ I h=>Constant_none ⟨.non,H,I,rfl,h⟩
theorem pe_str {x j pos}:PE X (.Constant (.str x) j pos) (tC (.str x)):=fun _ _ _ H _ I h=>Calls.Constant_str ⟨.str x,H,I.tok _,⟨_,rfl⟩,h⟩
def Gl (X:Cx) (x:Str):Prop:=X.env.kindOf x=some .globalImplicit
theorem ld_glob {E:Value→Shared→Prop} {pins:List (Addr × Obj)} {s:Shared} {σ:St} {H:Hp} {x:Str} {u:Value} {pos:Pos} {Q:Value→Shared→Prop} (I:Inv X pins σ H s) (hg:Gl X x) (hm:X.mg x=some u) (h:Q u s)
  (hd:(x == ("__debug__":Str))=false:=by decide):wpAny (model X.prog X.w) X.A (eval (.Name x pos) X.env) Q E s :=
 Calls.Name_function_global I.ok.kind hg (Calls.loadGlobal_global (by rw [I.ok.glob]; exact I.mod.glob.keeps I.bk) hm h) hd
theorem ld_blt {E:Value→Shared→Prop} {pins:List (Addr × Obj)} {s:Shared} {σ:St} {H:Hp} {x:Str} {u:Value} {pos:Pos} {Q:Value→Shared→Prop} (I:Inv X pins σ H s) (hg:Gl X x) (hm:X.mg x=none) (hv:bootBuiltins x=some u) (h:Q u s)
  (hn:x ≠ "__name__":=by decide) (hd:(x == ("__debug__":Str))=false:=by decide):wpAny (model X.prog X.w) X.A (eval (.Name x pos) X.env) Q E s:=by
 obtain ⟨mb,h1,h2⟩:=I.mod.blt
 exact Calls.Name_function_global I.ok.kind hg (Calls.loadGlobal_builtin (by rw [I.ok.glob]; exact I.mod.glob.keeps I.bk) hm (by rw [I.ok.blt]; exact h1.keeps I.bk) ((h2 x hn).trans hv) h) hd
theorem pe_glob {x:Str} {v:V} {u:Value} {pos:Pos} (hg:Gl X x) (hm:X.mg x=some u) (r:RelV v u) (hd:(x == ("__debug__":Str))=false:=by decide):PE X (.Name x pos) (tC v) :=
 fun _ _ _ H _ I h=>ld_glob I hg hm ⟨v,H,I,r,h⟩ hd
theorem pe_bltn {x:Str} {v:V} {u:Value} {pos:Pos} (hg:Gl X x) (hm:X.mg x=none) (hv:bootBuiltins x=some u) (r:RelV v u) (hn:x ≠ "__name__":=by decide) (hd:(x == ("__debug__":Str))=false:=by decide):PE X (.Name x pos) (tC v) :=
 fun _ _ _ H _ I h=>ld_blt I hg hm hv ⟨v,H,I,r,h⟩ hn hd
variable {a b:Expr} {ta tb:TE} {pos:Pos}
def PC (X:Cx) (op:CmpOp) (a b:Expr) (t:TE):Prop :=
 ∀ (pins:List (Addr × Obj)) (s:Shared) (σ:St) (H:Hp) (Q:VK),Inv X pins σ H s→t σ H Q →
  wpAny (model X.prog X.w) X.A (eval a X.env) (fun v s₁=>wpAny (model X.prog X.w) X.A (eval b X.env) (fun u s₂=>wpAny (model X.prog X.w) X.A (compareOp op v u) (EP X pins σ Q) X.xe s₂) X.xe s₁) X.xe s
def tB (t:TE):TT:=fun σ H Q=>t σ H fun x H1=>∃ c,x=.bl c∧Q c H1
theorem pt_cmp {op:CmpOp} {t:TE} (h:PC X op a b t) (h1:behindInMarks op b=false:=by first | exact nobehind _ (by decide) (by decide) | rfl):PT X (.Compare a [op] [b] pos) (tB t):=by
 intro pins s σ H Q I hw
 refine wpAny_isTrue_Compare1 (thn (h pins s σ H _ I hw) fun v s1 h1=>thn h1 fun u s2 h2=>thn h2 fun c s3 ⟨x,H1,I1,r1,q1⟩=>?_) h1
 obtain ⟨d,rfl,q⟩:=q1
 cases r1
 exact wpAny_truthy_bool ⟨H1,I1,q⟩
theorem pt_val {e:Expr} {t:TE} (h:PE X e t) (he:∀ whole,isTrue e X.env whole=(do let v ← whole; standAt e.pos; holding [v] (truthy v)):=by intro _; rfl):PT X e (tB t):=by
 intro pins s σ H Q I hw
 refine isTrue_plain (thn (h pins s σ H _ I hw) fun v s1 ⟨x,H1,I1,r1,q1⟩=>?_) (he _)
 obtain ⟨d,rfl,q⟩:=q1
 cases r1
 exact wpAny_truthy_bool ⟨H1,I1,q⟩
variable {tA tB':TT} {rest:List Expr}
def tAnd (t u:TT):TT:=fun σ H Q=>t σ H fun c H1=>if c=true then u σ H1 Q else Q false H1
def tOr (t u:TT):TT:=fun σ H Q=>t σ H fun c H1=>if c=true then Q true H1 else u σ H1 Q
def tNot (t:TT):TT:=fun σ H Q=>t σ H fun c H1=>Q (!c) H1
theorem pw_and1 (ha:PT X a tA):PW X (.BoolOp .And [a] pos) tA:=by
 intro wh pins s σ H Q I h
 refine isTrue_and (thn (ha pins s σ H Q I h) fun c s1 e=>?_)
 cases c with
 | true=>exact isTrue_and_nil e
 | false=>exact e
theorem pw_or1 (ha:PT X a tA):PW X (.BoolOp .Or [a] pos) tA:=by
 intro wh pins s σ H Q I h
 refine isTrue_or (thn (ha pins s σ H Q I h) fun c s1 e=>?_)
 cases c with
 | false=>exact isTrue_or_nil e
 | true=>exact e
theorem pw_and (ha:PT X a tA) (hb:PW X (.BoolOp .And (b :: rest) pos) tB'):PW X (.BoolOp .And (a :: b :: rest) pos) (tAnd tA tB'):=by
 intro wh pins s σ H Q I h
 refine isTrue_and (thn (ha pins s σ H _ I h) fun c s1 ⟨H1,I1,q1⟩=>?_)
 cases c with
 | true=>exact hb wh pins s1 σ H1 Q I1 q1
 | false=>exact ⟨H1,I1,q1⟩
theorem pw_or (ha:PT X a tA) (hb:PW X (.BoolOp .Or (b :: rest) pos) tB'):PW X (.BoolOp .Or (a :: b :: rest) pos) (tOr tA tB'):=by
 intro wh pins s σ H Q I h
 refine isTrue_or (thn (ha pins s σ H _ I h) fun c s1 ⟨H1,I1,q1⟩=>?_)
 cases c with
 | true=>exact ⟨H1,I1,q1⟩
 | false=>exact hb wh pins s1 σ H1 Q I1 q1
theorem pt_not (ha:PT X a tA):PT X (.UnaryOp .Not a pos) (tNot tA):=by
 intro pins s σ H Q I h
 exact isTrue_not (ha pins s σ H (fun c H1=>Q (!c) H1) I h)
def tAndV (ta tb:TE):TE:=fun σ H Q=>ta σ H fun x H1=>∃ c,x=.bl c∧if c=true then tb σ H1 Q else Q (.bl false) H1
def tOrV (ta tb:TE):TE:=fun σ H Q=>ta σ H fun x H1=>∃ c,x=.bl c∧if c=true then Q (.bl true) H1 else tb σ H1 Q
def tNotV (ta:TE):TE:=fun σ H Q=>ta σ H fun x H1=>∃ c,x=.bl c∧Q (.bl (!c)) H1
theorem pe_one {op} {t:TE} (h:PE X a t):PE X (.BoolOp op [a] pos) t:=fun pins s σ H Q I hw=>BoolOp_one (h pins s σ H Q I hw)
theorem pe_and (ha:PE X a ta) (hb:PE X (.BoolOp .And (b :: rest) pos) tb):PE X (.BoolOp .And (a :: b :: rest) pos) (tAndV ta tb):=by
 intro pins s σ H Q I h
 refine BoolOp_and (thn (ha pins s σ H _ I h) fun v s1 ⟨x,H1,I1,r1,q1⟩=>?_)
 obtain ⟨c,rfl,q1⟩:=q1
 cases r1
 refine wpAny_truthy_bool ?_
 cases c with
 | true=>exact hb pins s1 σ H1 Q I1 q1
 | false=>exact ⟨.bl false,H1,I1,rfl,q1⟩
theorem pe_or (ha:PE X a ta) (hb:PE X (.BoolOp .Or (b :: rest) pos) tb):PE X (.BoolOp .Or (a :: b :: rest) pos) (tOrV ta tb):=by
 intro pins s σ H Q I h
 refine BoolOp_or (thn (ha pins s σ H _ I h) fun v s1 ⟨x,H1,I1,r1,q1⟩=>?_)
 obtain ⟨c,rfl,q1⟩:=q1
 cases r1
 refine wpAny_truthy_bool ?_
 cases c with
 | false=>exact hb pins s1 σ H1 Q I1 q1
 | true=>exact ⟨.bl true,H1,I1,rfl,q1⟩
theorem pe_not (ha:PE X a ta):PE X (.UnaryOp .Not a pos) (tNotV ta):=by
 intro pins s σ H Q I h
 refine UnaryOp_ (thn (ha pins s σ H _ I h) fun v s1 ⟨x,H1,I1,r1,q1⟩=>?_)
 obtain ⟨c,rfl,q1⟩:=q1
 cases r1
 exact not_of (wpAny_truthy_bool ⟨.bl (!c),H1,I1,rfl,q1⟩)
end
end L2
namespace L2
open PySem PySem.Spec PyProof.Rows
def SqL (K:PySem.W.Frag) (H:Hp) (a:Addr) (xs:List V):Prop :=
 Rd H a (.lst xs) ∨
  ∃ (o:Obj) (its:Array Value) (n:Nat),K.lookup a=some o∧o.cls=.type "list"∧o.dict=none∧o.data=.seq its n∧its.size ≤ sizeLine∧Vals xs its.toList
def SqT (K:PySem.W.Frag) (H:Hp) (a:Addr) (xs:List V):Prop :=
 Rd H a (.tup xs) ∨
  ∃ (o:Obj) (its:Array Value) (n:Nat),K.lookup a=some o∧o.cls=.type "tuple"∧o.data=.seq its n∧its.size ≤ sizeLine∧Vals xs its.toList
def absV:Value→Option V
 | .none=>some .non
 | .bool b=>some (.bl b)
 | .int i _=>some (.int i)
 | .str x _=>some (.str x)
 | .bytes b _=>some (.byt b)
 | .float b _=>some (.flt b)
 | .ref a=>some (.ref a)
 | .type n=>some (.ty n)
 | _=>none
theorem RelV.abs {x:V} {u:Value} (r:RelV x u):absV u=some x:=by
 cases x with
 | non=>cases r; rfl
 | bl _=>cases r; rfl
 | int _=>obtain ⟨t,rfl⟩:=r; rfl
 | str _=>obtain ⟨t,rfl⟩:=r; rfl
 | byt _=>obtain ⟨t,rfl⟩:=r; rfl
 | flt _=>obtain ⟨t,rfl⟩:=r; rfl
 | ref _=>cases r; rfl
 | ty _=>cases r; rfl
theorem RelV.inj {x y:V} {u:Value} (r:RelV x u) (q:RelV y u):x=y:=Option.some.inj (r.abs.symm.trans q.abs)
theorem Vals.inj:∀ {xs ys:List V} {us:List Value},Vals xs us→Vals ys us→xs=ys
 | _,_,_,.nil,.nil=>rfl
 | _,_,_,.cons r t,.cons r' t'=>by rw [r.inj r',Vals.inj t t']
section
variable {X:Cx} {pins:List (Addr × Obj)} {σ:St} {H:Hp} {s:Shared} {a:Addr} {xs ys:List V}
theorem SqL.of {K:PySem.W.Frag} (h:H a=some (.lst xs)):SqL K H a xs:=.inl (.inl h)
theorem SqT.of {K:PySem.W.Frag} (h:H a=some (.tup xs)):SqT K H a xs:=.inl (.inl h)
theorem Inv.list (I:Inv X pins σ H s) (h:SqL X.K H a xs):∃ its:List Value,Vals xs its∧PlainL s.heap a its.toArray∧xs.length ≤ sizeLine:=by
 rcases h with h | ⟨o,its,n,hk,hc,hd,hs,hz,r⟩
 ·obtain ⟨z,its,n,r,e⟩:=h.ok I.hok
  exact ⟨its,r,⟨_,n,e,rfl,rfl,rfl⟩,z⟩
 ·refine ⟨its.toList,r,⟨o,n,I.kIn a o hk,hc,hd,by simpa using hs⟩,?_⟩
  have e:=r.length
  simp only [Array.length_toList] at e
  omega
theorem Inv.tuple (I:Inv X pins σ H s) (h:SqT X.K H a xs):∃ its:List Value,Vals xs its∧IsTup s.heap a its.toArray∧xs.length ≤ sizeLine:=by
 rcases h with h | ⟨o,its,n,hk,hc,hs,hz,r⟩
 ·obtain ⟨z,its,r,p⟩:=h.ok I.hok
  exact ⟨its,r,p,z⟩
 ·refine ⟨its.toList,r,⟨o,I.kIn a o hk,hc,n,by simpa using hs⟩,?_⟩
  have e:=r.length
  simp only [Array.length_toList] at e
  omega
theorem Inv.list_inj (I:Inv X pins σ H s) (h:SqL X.K H a xs) (h':SqL X.K H a ys):xs=ys:=by
 obtain ⟨its,r,⟨o,n,e,_,_,d⟩,_⟩:=I.list h
 obtain ⟨its',r',⟨o',n',e',_,_,d'⟩,_⟩:=I.list h'
 rw [e] at e'; cases e'
 rw [d] at d'
 injection d' with d1 _
 have:its=its':=by simpa using congrArg Array.toList d1
 subst this
 exact r.inj r'
end
abbrev Cx.wish (X:Cx) (E:Value→Shared→Prop):Cx:={ X with xe:=E }
abbrev Cx.nox (X:Cx):Cx:=X.wish fun _ _=>False
theorem Cx.Ok.wish {X:Cx} (ok:X.Ok) (E:Value→Shared→Prop):(X.wish E).Ok :=
 ⟨ok.mod,ok.kind,ok.glob,ok.blt,ok.above,ok.inj,ok.has,ok.cab,ok.hd,ok.frames,ok.stk,ok.exf,ok.bs,ok.bsz,ok.noex,ok.exfs,ok.funs,ok.frf⟩
theorem Cx.Ok.unwish {X:Cx} {E:Value→Shared→Prop} (ok:(X.wish E).Ok):X.Ok :=
 ⟨ok.mod,ok.kind,ok.glob,ok.blt,ok.above,ok.inj,ok.has,ok.cab,ok.hd,ok.frames,ok.stk,ok.exf,ok.bs,ok.bsz,ok.noex,ok.exfs,ok.funs,ok.frf⟩
section
variable {X:Cx} {pins:List (Addr × Obj)} {σ:St} {H:Hp} {s:Shared} {E:Value→Shared→Prop}
theorem Inv.wish (I:Inv X pins σ H s) (E:Value→Shared→Prop):Inv (X.wish E) pins σ H s:=⟨I.ok.wish E,I.os,I.bare,I.base,I.loc,I.cell,I.free,I.freeC,I.pin,I.hok,I.len⟩
theorem Inv.unwish (I:Inv (X.wish E) pins σ H s):Inv X pins σ H s:=⟨I.ok.unwish,I.os,I.bare,I.base,I.loc,I.cell,I.free,I.freeC,I.pin,I.hok,I.len⟩
theorem SP.unwish {D:Ends} {f:Flow} {s':Shared} (h:SP (X.wish E) pins D f s'):SP X pins D f s':=by
 cases f with
 | next=>obtain ⟨σ',H',I,q⟩:=h; exact ⟨σ',H',I.unwish,q⟩
 | brk=>obtain ⟨σ',H',I,q⟩:=h; exact ⟨σ',H',I.unwish,q⟩
 | cont=>obtain ⟨σ',H',I,q⟩:=h; exact ⟨σ',H',I.unwish,q⟩
 | ret u=>obtain ⟨v,σ',H',I,r,q⟩:=h; exact ⟨v,σ',H',I.unwish,r,q⟩
theorem PSs.nox {st:List Stmt} {t:TS} (h:PSs X.nox st t):PSs X st t:=fun pins s σ H D I hw =>
 wpAny_mono (h pins s σ H D (I.wish _) hw) (fun _ _ q=>q.unwish) fun _ _ z=>False.elim z
end
section
variable {X:Cx} {st:Stmt} {rest:List Stmt} {t u:TS} {e:Expr} {te:TE} {pos:Pos}
def tNext:TS:=fun D σ H=>D.nx σ H
def tSeq (t u:TS):TS:=fun D σ H=>t { D with nx:=u D } σ H
theorem pss_nil:PSs X [] tNext:=fun _ _ σ H _ I h=>wpAny_execs_nil ⟨σ,H,I,h⟩
theorem pss_cons (h1:PS X st t) (h2:PSs X rest u):PSs X (st :: rest) (tSeq t u):=by
 intro pins s σ H D I h
 refine wpAny_execs_cons (thn (h1 pins s σ H { D with nx:=u D } I h) fun f s1 q=>?_)
 cases f with
 | next =>
  obtain ⟨σ',H',I',q⟩:=q
  exact h2 pins s1 σ' H' D I' q
 | ret v=>exact q
 | brk=>exact q
 | cont=>exact q
theorem pss_one (h1:PS X st t):PSs X [st] t:=by
 intro pins s σ H D I h
 refine wpAny_execs_cons (thn (h1 pins s σ H D I h) fun f s1 q=>?_)
 cases f with
 | next=>exact wpAny_execs_nil q
 | ret v=>exact q
 | brk=>exact q
 | cont=>exact q
theorem Inv.quiet {pins:List (Addr × Obj)} {σ:St} {H:Hp} {s:Shared} (I:Inv X pins σ H s):interactive X.env=false:=by simp [interactive,I.ok.kind]
def tDrop (te:TE):TS:=fun D σ H=>te σ H fun _ H1=>D.nx σ H1
theorem ps_expr (he:PE X e te) (hs:swapsWith e none pos.line X.env=pure false:=by rfl):PS X (.Expr e pos) (tDrop te):=by
 intro pins s σ H D I h
 exact wpAny_Expr_any (thn (he pins s σ H _ I h) fun v s1 ⟨x,H1,I1,r1,q1⟩=>⟨σ,H1,I1,q1⟩) I.quiet hs
def tRet (te:TE):TS:=fun D σ H=>te σ H D.rt
theorem ps_ret (he:PE X e te):PS X (.Return (some e) pos) (tRet te):=by
 intro pins s σ H D I h
 exact wpAny_Return_some (thn (he pins s σ H _ I h) fun v s1 ⟨x,H1,I1,r1,q1⟩=>⟨x,σ,H1,I1,r1,q1⟩)
def tIfS (c:TT) (t u:TS):TS:=fun D σ H=>c σ H fun b H1=>if b=true then t D σ H1 else u D σ H1
theorem ps_if {c:Expr} {a b:List Stmt} {tc:TT} (hc:PT X c tc) (ha:PSs X a t) (hb:PSs X b u):PS X (.If c a b pos) (tIfS tc t u):=by
 intro pins s σ H D I h
 refine wpAny_If (thn (hc pins s σ H _ I h) fun d s1 ⟨H1,I1,q1⟩=>?_)
 cases d with
 | true=>exact ha pins s1 σ H1 D I1 q1
 | false=>exact hb pins s1 σ H1 D I1 q1
end
abbrev TG:=V→St→Hp→(St→Hp→Prop)→Prop
abbrev TGs:=List V→St→Hp→(St→Hp→Prop)→Prop
def PG (X:Cx) (target:Expr) (t:TG):Prop :=
 ∀ (pins:List (Addr × Obj)) (s:Shared) (σ:St) (H:Hp) (v:V) (u:Value) (Q:St→Hp→Prop),Inv X pins σ H s→RelV v u→t v σ H Q →
  wpAny (model X.prog X.w) X.A (assign target X.env u) (fun _ s'=>∃ σ' H',Inv X pins σ' H' s'∧Q σ' H') X.xe s
def PGs (X:Cx) (ts:List Expr) (t:TGs):Prop :=
 ∀ (pins:List (Addr × Obj)) (s:Shared) (σ:St) (H:Hp) (vs:List V) (us:List Value) (Q:St→Hp→Prop),Inv X pins σ H s→Vals vs us→t vs σ H Q →
  wpAny (model X.prog X.w) X.A (assignInOrder ((assignEach ts X.env).map (·.2)) us) (fun _ s'=>∃ σ' H',Inv X pins σ' H' s'∧Q σ' H') X.xe s
section
variable {X:Cx} {pos:Pos}
def gName (i:Nat):TG:=fun v σ H Q=>Q (σ.set i (some v)) H
theorem pg_name {i:Nat} {x:Str} (hN:X.N.Nodup) (hi:X.N[i]?=some x) (hx:Loc X.env.scope x) (hf:X.fn x=true ∨ X.env.scope.names.lookup x=some .local:=by first | exact .inl rfl | exact .inr rfl | assumption):PG X (.Name x pos) (gName i):=by
 intro pins s σ H v u Q I r h
 exact wpAny_assign_Name (store_ok I hN hi hx r (fun s' I'=>⟨_,H,I',h⟩) hf)
def gNil:TGs:=fun vs σ H Q=>vs=[]∧Q σ H
def gCons (t:TG) (u:TGs):TGs:=fun vs σ H Q=>∃ v r,vs=v :: r∧t v σ H fun σ' H'=>u r σ' H' Q
theorem pgs_nil:PGs X [] gNil:=by
 intro pins s σ H vs us Q I r h
 obtain ⟨e,h⟩:=h
 subst e
 cases r
 exact assignInOrder_nil ⟨σ,H,I,h⟩
theorem pgs_cons {e:Expr} {es:List Expr} {t:TG} {u:TGs} (h1:PG X e t) (h2:PGs X es u)
  (hs:(assignEach (e :: es) X.env).map (·.2)=assign e X.env :: (assignEach es X.env).map (·.2):=by rfl):PGs X (e :: es) (gCons t u):=by
 intro pins s σ H vs us Q I r h
 obtain ⟨v,vr,e1,h⟩:=h
 subst e1
 cases r with
 | cons r rr =>
  rw [hs]
  refine assignInOrder_cons (thn (h1 pins s σ H _ _ _ I r h) fun _ s1 ⟨σ1,H1,I1,q1⟩=>?_)
  exact h2 pins s1 σ1 H1 _ _ Q I1 rr q1
def gTup (K:PySem.W.Frag) (n:Nat) (t:TGs):TG:=fun v σ H Q=>∃ a xs,v=.ref a∧SqT K H a xs∧xs.length=n∧t xs σ H Q
theorem pg_tup {es:List Expr} {k:Nat} {t:TGs} {n:Nat} (hc:X.calm=true) (h:PGs X es t)
  (hn:(assignEach es X.env).length=n:=by rfl) (hst:(assignEach es X.env).findIdx? (·.1)=none:=by rfl):PG X (.Tuple es k pos) (gTup X.K n t):=by
 intro pins s σ H v u Q I r hw
 obtain ⟨a,xs,e1,hq,hl,hw⟩:=hw
 subst e1
 cases r
 obtain ⟨its,rv,ht,hz⟩:=I.tuple hq
 refine assign_Tuple_tuple (I.ok.hd hc) ht (by simp [hn,← hl,rv.length]) hst fun h' hx=>?_
 have I1:Inv X pins σ H { s with heap:=h' }:=I.kept (t':=s.toks) fun b o e=>hx b o (Nat.ne_of_lt (Heap.lt_size e)) e
 exact h pins _ σ H xs _ Q I1 (by simpa using rv) hw
def tAsg (te:TE) (g:TG):TS:=fun D σ H=>te σ H fun x H1=>g x σ H1 D.nx
theorem ps_asg {tg e:Expr} {te:TE} {g:TG} (he:PE X e te) (hg:PG X tg g) (hs:swapsWithSole [tg] e pos.line X.env=pure false:=by rfl) (hw:swappedStores [tg] e X.env=pure none:=by rfl)
  (h1:(assignEach [tg] X.env).map (·.2)=[assign tg X.env]:=by rfl):PS X (.Assign [tg] e pos) (tAsg te g):=by
 intro pins s σ H D I h
 refine wpAny_Assign_stores (thn (he pins s σ H _ I h) fun v s1 ⟨x,H1,I1,r1,q1⟩=>?_) hs hw
 rw [h1]
 exact thn (hg pins s1 σ H1 x v _ I1 r1 q1) fun _ s2 q=>q
theorem ps_set {i:Nat} {x:Str} {e:Expr} {te:TE} {pos':Pos} (hN:X.N.Nodup) (hi:X.N[i]?=some x) (hx:Loc X.env.scope x) (he:PE X e te) (hs:swapsWith e (some (.Name x pos')) pos.line X.env=pure false:=by rfl) (hf:X.fn x=true ∨ X.env.scope.names.lookup x=some .local:=by first | exact .inl rfl | exact .inr rfl | assumption) :
  PS X (.Assign [.Name x pos'] e pos) (tAsg te (gName i)):=by
 intro pins s σ H D I h
 refine wpAny_Assign_Name (thn (he pins s σ H _ I h) fun v s1 ⟨y,H1,I1,r1,q1⟩=>?_) hs
 exact store_ok I1 hN hi hx r1 (fun s2 I2=>⟨_,H1,I2,q1⟩) hf
end
section
variable {X:Cx} {pos:Pos}
def tWhile (c:TT) (tb:TS):TS:=fun D σ H=>∃ W:Nat→St→Hp→Prop,(∃ m,W m σ H)∧∀ m σ H,W m σ H →
 c σ H fun b H1=>if b=true then ∃ N:St→Hp→Prop,(∀ σ' H',N σ' H'→∃ m',m' < m∧W m' σ' H')∧tb { D with nx:=N,ct:=N,bk:=D.nx } σ H1 else D.nx σ H1
theorem ps_while {c:Expr} {body:List Stmt} {tc:TT} {tb:TS} (hp:PassesOwn (model X.prog X.w) X.A X.env X.xe) (hc:PT X c tc) (hb:PSs X body tb):PS X (.While c body [] pos) (tWhile tc tb):=by
 intro pins s σ H D I h
 obtain ⟨W,⟨m0,w0⟩,turn⟩:=h
 refine wpAny_While (codeAny_whileLoop (fun n s'=>∃ σ' H',Inv X pins σ' H' s'∧W n σ' H') ?_ m0 ⟨σ,H,I,w0⟩)
 rintro n s1 ⟨σ1,H1,I1,w1⟩
 refine wpAny_passesOwn hp (thn (hc pins s1 σ1 H1 _ I1 (turn n σ1 H1 w1)) fun b s2 ⟨H2,I2,q2⟩=>?_)
 cases b with
 | true =>
  obtain ⟨N,hN,q2⟩:=q2
  rw [if_pos rfl]
  refine wpAny_passesOwn hp (thn (hb pins s2 σ1 H2 _ I2 q2) fun f s3 q3=>?_)
  cases f with
  | next =>
   obtain ⟨σ3,H3,I3,n3⟩:=q3
   obtain ⟨m',hm,w3⟩:=hN σ3 H3 n3
   exact ⟨m',hm,σ3,H3,I3,w3⟩
  | cont =>
   obtain ⟨σ3,H3,I3,n3⟩:=q3
   obtain ⟨m',hm,w3⟩:=hN σ3 H3 n3
   exact ⟨m',hm,σ3,H3,I3,w3⟩
  | brk=>exact q3
  | ret v=>exact q3
 | false =>
  rw [if_neg Bool.false_ne_true]
  exact wpAny_execs_nil ⟨σ1,H2,I2,q2⟩
end
structure It where
 go:Nat→Hp→Prop
 yld:Nat→Hp→V→Hp→Prop
 stop:Nat→Hp→Prop
def FpOk (X:Cx) (pins:List (Addr × Obj)) (H:Hp) (b:Addr):Prop :=
 H b=none∧b ≠ X.env.locals∧b ∉ X.fs∧(b ∈ X.ex ∨ X.s₀.heap.objs.size ≤ b)∧(∀ x c,X.env.cells.lookup x=some c→c ≠ b)∧∀ p ∈ X.pn ++ pins,p.1 ≠ b
theorem Inv.fpOk {X:Cx} {pins:List (Addr × Obj)} {σ:St} {H H':Hp} {s:Shared} {b:Addr} (I:Inv X pins σ H s) (hb:s.heap.objs.size ≤ b) (hn:H' b=none):FpOk X pins H' b:=by
 refine ⟨hn,Nat.ne_of_gt (Nat.lt_of_lt_of_le I.lt hb),I.nofs hb,.inr (Nat.le_trans I.sz hb),fun x c e z=>?_,fun p hp z=>?_⟩
 ·obtain ⟨v,q⟩:=I.cell x c e
  exact absurd (Nat.lt_of_lt_of_le q.lt (by rw [z]; exact hb)) (Nat.lt_irrefl _)
 ·exact absurd (Nat.lt_of_lt_of_le (Heap.lt_size (I.pin p hp).1) (by rw [z]; exact hb)) (Nat.lt_irrefl _)
structure Turn (P:Program) (w:World) (K:PySem.W.Frag) (tg:Expr) (J:It) (fp:List Addr) (it:Addr) (tn:Nat→Heap→Prop):Prop where
 mem:it ∈ fp
 obj:∀ i h,tn i h→∀ b ∈ fp,∃ o,h.get? b=some o∧∀ v,o.data ≠ .cell v
 keep:∀ i h h',tn i h→(∀ b ∈ fp,∀ o,h.get? b=some o→h'.get? b=some o)→tn i h'
 item:∀ (X:Cx),X.prog=P→X.w=w→X.K=K→X.calm=true→∀ (i:Nat) (pins:List (Addr × Obj)) (s:Shared) (σ:St) (H:Hp) (E:Value→Shared→Prop),Inv X pins σ H s→(∀ b ∈ fp,FpOk X pins H b)→tn i s.heap→J.go i H →
  wpAny (model P w) X.A (pyNext (.ref it)) (fun r s1=>∃ u,r=some u ∧
   wpAny (model P w) X.A (letOwnedTupleGo tg (.ref it) u) (fun _ s2=>∃ x H',Inv X pins σ H' s2∧RelV x u∧J.yld i H x H'∧tn (i + 1) s2.heap∧∀ b ∈ fp,H' b=none) E s1) E s
 done:∀ (X:Cx),X.prog=P→X.w=w→X.K=K→X.calm=true→∀ (i:Nat) (pins:List (Addr × Obj)) (s:Shared) (σ:St) (H:Hp) (E:Value→Shared→Prop),Inv X pins σ H s→(∀ b ∈ fp,FpOk X pins H b)→tn i s.heap→J.stop i H →
  wpAny (model P w) X.A (pyNext (.ref it)) (fun r s1=>r=none∧Inv X pins σ H s1) E s
 self:∀ (A:Around) (i:Nat) (s:Shared) (Q:Value→Shared→Prop) (E:Value→Shared→Prop),tn i s.heap→Q (.ref it) s→wpAny (model P w) A (pyIter (.ref it)) Q E s
abbrev TI:=St→Hp→(It→Hp→Prop)→Prop
def PIE (X:Cx) (pins:List (Addr × Obj)) (σ:St) (tg:Expr) (R:It→Hp→Prop) (itv:Value) (s2:Shared):Prop :=
 ∃ (it:Addr) (fp:List Addr) (tn:Nat→Heap→Prop) (J:It) (H':Hp),itv=.ref it∧Inv X pins σ H' s2∧Turn X.prog X.w X.K tg J fp it tn∧tn 0 s2.heap∧(∀ b ∈ fp,FpOk X pins H' b)∧R J H'
def PI (X:Cx) (tg iter:Expr) (wi:TI):Prop :=
 ∀ (pins:List (Addr × Obj)) (s:Shared) (σ:St) (H:Hp) (R:It→Hp→Prop),Inv X pins σ H s→wi σ H R →
  wpAny (model X.prog X.w) X.A (eval iter X.env) (fun v s1=>wpAny (model X.prog X.w) X.A (pyIter v) (PIE X pins σ tg R) X.xe s1) X.xe s
theorem go_of {M:Model} {A:Around} {E:Value→Shared→Prop} {s:Shared} {tg:Expr} {it:Addr} {u:Value} {o:Obj} {n:String} {vs:Array Value} {Q:Unit→Shared→Prop} (ho:s.heap.get? it=some o) (hc:o.cls=.type n) (hd:o.data=.fields vs)
  (hn:["enumerate","zip","dict_itemiterator","dict_reverseitemiterator","odict_iterator","itertools.zip_longest","itertools.pairwise"].contains n=false) (hQ:Q () s):wpAny M A (letOwnedTupleGo tg (.ref it) u) Q E s:=by
 unfold letOwnedTupleGo
 cases tg <;> first
  | exact wpAny_pure hQ
  | (cases u <;> first
    | exact wpAny_pure hQ
    | (refine wpAny_bind (wpAny_load ho ?_)
       rw [hc,hd]
       show wpAny M A (if (["enumerate","zip","dict_itemiterator","dict_reverseitemiterator","odict_iterator","itertools.zip_longest","itertools.pairwise"].contains n && vs[0]? == some (rawInt _))=true then _ else _) Q E s
       rw [if_neg (by intro h; rw [hn,Bool.false_and] at h; cases h)]
       exact wpAny_pure hQ))
def Itl (K:PySem.W.Frag) (a:Addr):It :=
 ⟨fun i H=>∃ xs x,SqL K H a xs∧xs[i]?=some x,fun i H x H'=>H'=H∧∀ xs,SqL K H a xs→xs[i]?=some x,fun i H=>∃ xs,SqL K H a xs∧xs.length ≤ i⟩
def Itr (lo:Int) (n:Nat):It:=⟨fun i _=>i < n,fun i H x H'=>H'=H∧x=.int (lo + i),fun i _=>n ≤ i⟩
theorem turn_list {P:Program} {w:World} {K:PySem.W.Frag} {tg:Expr} (a it:Addr):Turn P w K tg (Itl K a) [it] it (fun i h=>h.IsListIter it a i) where
 mem:=by simp
 obj:=fun i h st b hb=>by
  have e:b=it:=by simpa using hb
  subst e
  obtain ⟨o,e,c,d⟩:=st
  exact ⟨o,e,fun v z=>by rw [d] at z; cases z⟩
 keep:=fun i h h' st k=>st.at fun o e=>k it (by simp) o e
 item:=by
  intro X hP hw hK hc i pins s σ H E I hf st hg
  subst hP hw hK
  obtain ⟨xs,x,hq,hx⟩:=hg
  obtain ⟨its,rv,p,hz⟩:=I.list hq
  obtain ⟨u,hu,ru⟩:=rv.get hx
  obtain ⟨f0,f1,f2,f3,f4,f5⟩:=hf it (by simp)
  refine wpAny_pyNext_list_item st p.isList (x:=u) (by simpa using hu) fun h' st' sb=>?_
  have I1:Inv X pins σ H { s with heap:=h' }:=I.turned (t':=s.toks) (fun b o hb e=>(sb.2 b hb).trans e) f0 f1 f3 f4 f5
  obtain ⟨o,e,c,d⟩:=id st'
  exact ⟨u,rfl,go_of (s:={ s with heap:=h' }) e c d (by decide) ⟨x,H,I1,ru,⟨rfl,fun ys hy=>by rw [I.list_inj hy hq]; exact hx⟩,st',fun b hb=>(hf b hb).1⟩⟩
 done:=by
  intro X hP hw hK hc i pins s σ H E I hf st hg
  subst hP hw hK
  obtain ⟨xs,hq,hx⟩:=hg
  obtain ⟨its,rv,p,hz⟩:=I.list hq
  obtain ⟨f0,f1,f2,f3,f4,f5⟩:=hf it (by simp)
  have hl:=rv.length
  exact wpAny_pyNext_list_end (I.ok.hd hc) st p.isList (by simp; omega) fun h' eb=>⟨rfl,I.turned (t':=s.toks) (fun b o hb e=>eb b o hb e) f0 f1 f3 f4 f5⟩
 self:=fun _ _ _ _ _ st h=>wpAny_pyIter_listiter st h
theorem turn_range {P:Program} {w:World} {K:PySem.W.Frag} {tg:Expr} (it:Addr) (lo:Int) (n:Nat):Turn P w K tg (Itr lo n) [it] it (fun i h=>IsRangeIter h it (lo + (i:Nat) * 1) ((n:Int) - (i:Nat)) 1) where
 mem:=by simp
 obj:=fun i h st b hb=>by
  have e:b=it:=by simpa using hb
  subst e
  exact ⟨_,st,fun v z=>by
   have z':Data.fields _=Data.cell v:=z
   cases z'⟩
 keep:=fun i h h' st k=>k it (by simp) _ st
 item:=by
  intro X hP hw hK hc i pins s σ H E I hf st hg
  subst hP hw hK
  obtain ⟨f0,f1,f2,f3,f4,f5⟩:=hf it (by simp)
  have W:=Walks.range (prog:=X.prog) (w:=X.w) (I.ok.hd hc) it lo 1 n
  refine W.item i s _ _ hg st fun v h' tk hv st' kk=>?_
  obtain ⟨t,rfl⟩:=hv
  have I1:Inv X pins σ H { s with heap:=h',toks:=tk }:=I.turned (fun b o hb e=>kk b o (by simpa using hb) e) f0 f1 f3 f4 f5
  refine ⟨_,rfl,go_of (s:={ s with heap:=h',toks:=tk }) (n:="range_iterator") st' rfl rfl (by decide) ⟨.int (lo + i),H,I1,⟨t,?_⟩,⟨rfl,rfl⟩,st',fun b hb=>(hf b hb).1⟩⟩
  rw [Int.mul_one]
 done:=by
  intro X hP hw hK hc i pins s σ H E I hf st hg
  subst hP hw hK
  obtain ⟨f0,f1,f2,f3,f4,f5⟩:=hf it (by simp)
  exact wpAny_pyNext_range_end (I.ok.hd hc) st (by have:n ≤ i:=hg; omega) fun h' eb=>⟨rfl,I.turned (t':=s.toks) (fun b o hb e=>eb b o hb e) f0 f1 f3 f4 f5⟩
 self:=fun _ _ _ _ _ st h=>wpAny_pyIter_rangeiter st h
end L2
namespace L2
open PySem PySem.Spec PyProof.Rows
section
variable {X:Cx} {tg:Expr}
def iList (K:PySem.W.Frag) (tl:TE):TI:=fun σ H R=>tl σ H fun x H1=>∃ a,x=.ref a∧(∃ xs,SqL K H1 a xs)∧R (Itl K a) H1
theorem pi_list {l:Expr} {tl:TE} (hl:PE X l tl):PI X tg l (iList X.K tl):=by
 intro pins s σ H R I h
 refine thn (hl pins s σ H _ I h) fun v s1 ⟨x,H1,I1,r1,q1⟩=>?_
 obtain ⟨a,e,⟨xs,hq⟩,q⟩:=q1
 subst e
 cases r1
 obtain ⟨its,rv,p,hz⟩:=I1.list hq
 refine wpAny_pyIter_list p.isList ?_
 refine ⟨s1.heap.objs.size,[s1.heap.objs.size],_,_,H1,rfl,I1.kept (t':=s1.toks) fun b o e=>Heap.get?_push_of_some _ e,turn_list a _,⟨_,Heap.get?_push_size _ rfl,rfl,rfl⟩,fun b hb=>?_,q⟩
 have e:b=s1.heap.objs.size:=by simpa using hb
 subst e
 exact I1.fpOk (Nat.le_refl _) (I1.hok.fresh (Nat.le_refl _))
theorem range_it {pins:List (Addr × Obj)} {σ:St} {H:Hp} {s:Shared} {R:It→Hp→Prop} {E:Value→Shared→Prop} {lo hi:Int} {t u v:Tok} {tk:Nat} (I:Inv X pins σ H s) (h1:-(2 ^ 62) ≤ lo) (h2:lo < 2 ^ 62) (h3:-(2 ^ 62) ≤ hi) (h4:hi < 2 ^ 62)
  (q:R (Itr lo (hi - lo).toNat) H):wpAny (model X.prog X.w) X.A (pyIter (.ref s.heap.objs.size)) (PIE X pins σ tg R) E { s with heap:=s.heap.push { cls:=.type "range",data:=.fields #[.int lo t,.int hi u,.int 1 v] },toks:=tk }:=by
 refine wpAny_pyIter_range (IsRange.new ..) (small_one h1 h2 h3 h4) ?_
 have I1:Inv X pins σ H { s with heap:=s.heap.push { cls:=.type "range",data:=.fields #[.int lo t,.int hi u,.int 1 v] },toks:=tk }:=I.kept fun b o e=>Heap.get?_push_of_some _ e
 refine ⟨(s.heap.push { cls:=.type "range",data:=.fields #[.int lo t,.int hi u,.int 1 v] }).objs.size,[(s.heap.push { cls:=.type "range",data:=.fields #[.int lo t,.int hi u,.int 1 v] }).objs.size],_,_,H,rfl,
  I1.kept (t':=tk) fun b o e=>Heap.get?_push_of_some _ e,turn_range _ lo (hi - lo).toNat,?_,fun b hb=>?_,q⟩
 ·have e1:lo + ((0:Nat):Int) * 1=lo:=by simp
  have e2:(((hi - lo).toNat:Nat):Int) - ((0:Nat):Int)=Builtin.Range.rangeSize lo hi 1:=by rw [rangeSize_one]; split <;> omega
  show IsRangeIter _ _ (lo + ((0:Nat):Int) * 1) ((((hi - lo).toNat:Nat):Int) - ((0:Nat):Int)) 1
  rw [e1,e2]
  exact Heap.get?_push_size _ rfl
 ·have e:b=(s.heap.push { cls:=.type "range",data:=.fields #[.int lo t,.int hi u,.int 1 v] }).objs.size:=by simpa using hb
  subst e
  exact I1.fpOk (Nat.le_refl _) (I1.hok.fresh (Nat.le_refl _))
def iRng1 (ta:TA):TI:=fun σ H R=>ta σ H fun vs H1=>∃ j:Int,vs=[.int j]∧-(2 ^ 62) ≤ j∧j < 2 ^ 62∧R (Itr 0 j.toNat) H1
theorem pi_range1 {a:Expr} {ta:TA} {p pos:Pos} (hg:Gl X "range") (hm:X.mg "range"=none) (ha:PA X [a] ta) (hs:starEach [a] X.env=[(false,eval a X.env)]:=by rfl):PI X tg (.Call (.Name "range" p) [a] [] pos) (iRng1 ta):=by
 intro pins s σ H R I h
 refine Call_ (ld_blt I hg hm boot_range (PyProof.Rows.callWith_type1 (thn (ha pos pins s σ H _ I h) fun us s1 ⟨vs,H1,I1,r1,q1⟩=>?_) hs rfl))
 obtain ⟨j,e,q1,q2,q⟩:=q1
 subst e
 cases r1 with
 | cons r rr =>
  cases rr
  obtain ⟨t,rfl⟩:=r
  exact call_range_1 (range_it I1 (by omega) (by omega) q1 q2 (by simpa using q))
def tFor (wi:TI) (g:TG) (tb:TS):TS:=fun D σ H=>wi σ H fun J H1=>∃ W:Nat→Nat→St→Hp→Prop,(∃ m,W 0 m σ H1)∧∀ i m σ H,W i m σ H →
 (J.stop i H∧D.nx σ H) ∨ (J.go i H∧∃ N:St→Hp→Prop,(∀ σ' H',N σ' H'→∃ m',m' < m∧W (i + 1) m' σ' H')∧∀ x H',J.yld i H x H'→g x σ H' fun σ2 H2=>tb { D with nx:=N,ct:=N,bk:=D.nx } σ2 H2)
def pinsAt (fp:List Addr) (h:Heap):List (Addr × Obj):=fp.filterMap fun b=>(h.get? b).map fun o=>(b,o)
theorem mem_pinsAt {fp:List Addr} {h:Heap} {b:Addr} {o:Obj} (hb:b ∈ fp) (e:h.get? b=some o):(b,o) ∈ pinsAt fp h:=List.mem_filterMap.mpr ⟨b,hb,by rw [e]; rfl⟩
theorem of_pinsAt {fp:List Addr} {h:Heap} {p:Addr × Obj} (hp:p ∈ pinsAt fp h):p.1 ∈ fp∧h.get? p.1=some p.2:=by
 obtain ⟨b,hb,e⟩:=List.mem_filterMap.mp hp
 cases q:h.get? b with
 | none=>rw [q] at e; cases e
 | some o =>
  rw [q] at e
  have e':(b,o)=p:=Option.some.inj e
  subst e'
  exact ⟨hb,q⟩
theorem Inv.pinned {pins:List (Addr × Obj)} {σ:St} {H:Hp} {s:Shared} {fp:List Addr} (I:Inv X pins σ H s) (hf:∀ b ∈ fp,FpOk X pins H b) (ho:∀ b ∈ fp,∃ o,s.heap.get? b=some o∧∀ v,o.data ≠ .cell v):Inv X (pins ++ pinsAt fp s.heap) σ H s :=
 I.pins_of fun p hp=>(List.mem_append.mp hp).elim (fun z=>I.pin p (List.mem_append_right _ z)) fun z=>by
  obtain ⟨hb,e⟩:=of_pinsAt z
  obtain ⟨f0,f1,f2,_⟩:=hf p.1 hb
  obtain ⟨o,e',d⟩:=ho p.1 hb
  rw [e] at e'; cases e'
  exact ⟨e,f0,f1,f2,d⟩
theorem Inv.unpinned {pins pl:List (Addr × Obj)} {σ:St} {H:Hp} {s:Shared} (I:Inv X (pins ++ pl) σ H s):Inv X pins σ H s:=I.pins_of fun p hp=>I.pin p (List.mem_append_right _ (List.mem_append_left _ hp))
theorem ps_for {iter:Expr} {body:List Stmt} {wi:TI} {g:TG} {tb:TS} {pos:Pos} (hp:PassesOwn (model X.prog X.w) X.A X.env X.xe) (hc:X.calm=true) (hi:PI X tg iter wi) (hg:PG X tg g) (hb:PSs X body tb)
  (hs:∀ x,foldedSetIterable iter X.env x=pure x:=by intro _; rfl):PS X (.For tg iter body [] pos) (tFor wi g tb):=by
 intro pins s σ H D I h
 refine wpAny_For (thn (hi pins s σ H _ I h) fun v s1 h1=>thn h1 fun itv s2 h2=>?_) hs
 obtain ⟨it,fp,tn,J,H2,e,I2,T,st2,f2,W,⟨m0,w0⟩,turn⟩:=h2
 subst e
 -- what stays true of the iterator's objects through the loop
 have stat:∀ {H':Hp},(∀ b ∈ fp,H' b=none)→∀ b ∈ fp,FpOk X pins H' b:=fun hn b hb=>⟨hn b hb,(f2 b hb).2⟩
 refine codeAny_forLoop_any (fun n s'=>∃ i σ' H',Inv X pins σ' H' s'∧tn i s'.heap∧(∀ b ∈ fp,H' b=none)∧W i n σ' H') ?_ m0 ⟨0,σ,H2,I2,st2,fun b hb=>(f2 b hb).1,w0⟩
 rintro n s3 ⟨i,σ3,H3,I3,st3,fr3,w3⟩
 rcases turn i n σ3 H3 w3 with ⟨stop,qn⟩ | ⟨go,N,hN,step⟩
 ·refine wpAny_passesOwn hp (thn (T.done X rfl rfl rfl hc i pins s3 σ3 H3 X.xe I3 (stat fr3) st3 stop) fun r s4 ⟨hr,I4⟩=>?_)
  subst hr
  exact wpAny_execs_nil ⟨σ3,H3,I4,qn⟩
 ·refine wpAny_passesOwn hp (thn (T.item X rfl rfl rfl hc i pins s3 σ3 H3 X.xe I3 (stat fr3) st3 go) fun r s4 ⟨u,hr,h4⟩=>?_)
  subst hr
  refine wpAny_passesOwn hp (thn h4 fun _ s5 ⟨x,H5,I5,r5,y5,st5,fr5⟩=>?_)
  have I5':=I5.pinned (stat fr5) (T.obj _ _ st5)
  refine wpAny_passesOwn hp (thn (hg _ s5 σ3 H5 x u _ I5' r5 (step x H5 y5)) fun _ s6 ⟨σ6,H6,I6,q6⟩=>?_)
  refine wpAny_passesOwn hp (thn (hb _ s6 σ6 H6 _ I6 q6) fun f s7 q7=>?_)
  have again:∀ {σ7:St} {H7:Hp},Inv X (pins ++ pinsAt fp s5.heap) σ7 H7 s7→N σ7 H7→∃ m,m < n∧∃ i σ' H',Inv X pins σ' H' s7∧tn i s7.heap∧(∀ b ∈ fp,H' b=none)∧W i m σ' H':=fun {σ7 H7} I7 n7=>by
   obtain ⟨m',hm,w7⟩:=hN σ7 H7 n7
   refine ⟨m',hm,i + 1,σ7,H7,I7.unpinned,T.keep _ _ _ st5 fun b hb o e=>(I7.pin (b,o) (List.mem_append_right _ (List.mem_append_right _ (mem_pinsAt hb e)))).1,fun b hb=>?_,w7⟩
   obtain ⟨o,e,d⟩:=T.obj _ _ st5 b hb
   exact (I7.pin (b,o) (List.mem_append_right _ (List.mem_append_right _ (mem_pinsAt hb e)))).2.1
  cases f with
  | next=>obtain ⟨σ7,H7,I7,n7⟩:=q7; exact again I7 n7
  | cont=>obtain ⟨σ7,H7,I7,n7⟩:=q7; exact again I7 n7
  | brk=>obtain ⟨σ7,H7,I7,q7⟩:=q7; exact ⟨σ7,H7,I7.unpinned,q7⟩
  | ret v=>obtain ⟨x7,σ7,H7,I7,r7,q7⟩:=q7; exact ⟨x7,σ7,H7,I7.unpinned,r7,q7⟩
end
theorem for_list {K:PySem.W.Frag} {a:Addr} {xs:List V} {g:TG} {tb:TS} {D:Ends} {σ:St} {H:Hp} (Pv:Nat→St→Hp→Prop) (h0:Pv 0 σ H) (hl:∀ i σ H,i ≤ xs.length→Pv i σ H→SqL K H a xs)
  (hs:∀ i x σ H,xs[i]?=some x→Pv i σ H→g x σ H fun σ2 H2=>tb { D with nx:=Pv (i + 1),ct:=Pv (i + 1),bk:=D.nx } σ2 H2) (hd:∀ σ H,Pv xs.length σ H→D.nx σ H) :
  ∃ W:Nat→Nat→St→Hp→Prop,(∃ m,W 0 m σ H)∧∀ i m σ H,W i m σ H →
   ((Itl K a).stop i H∧D.nx σ H) ∨ ((Itl K a).go i H∧∃ N:St→Hp→Prop,(∀ σ' H',N σ' H'→∃ m',m' < m∧W (i + 1) m' σ' H')∧∀ x H',(Itl K a).yld i H x H'→g x σ H' fun σ2 H2=>tb { D with nx:=N,ct:=N,bk:=D.nx } σ2 H2):=by
 refine ⟨fun i m σ H=>m=xs.length - i∧i ≤ xs.length∧Pv i σ H,⟨xs.length,by simp,Nat.zero_le _,h0⟩,?_⟩
 rintro i m σ H ⟨rfl,hi,p⟩
 have q:=hl i σ H hi p
 by_cases hlt:i < xs.length
 ·refine .inr ⟨⟨xs,xs[i],q,by simp [hlt]⟩,Pv (i + 1),fun σ' H' p'=>⟨xs.length - (i + 1),by omega,rfl,hlt,p'⟩,fun x H' y=>?_⟩
  obtain ⟨e,y⟩:=y
  subst e
  exact hs i x σ _ (y xs q) p
 ·have e:i=xs.length:=by omega
  subst e
  exact .inl ⟨⟨xs,q,Nat.le_refl _⟩,hd σ H p⟩
theorem for_range {lo:Int} {n:Nat} {g:TG} {tb:TS} {D:Ends} {σ:St} {H:Hp} (Pv:Nat→St→Hp→Prop) (h0:Pv 0 σ H)
  (hs:∀ i σ H,i < n→Pv i σ H→g (.int (lo + i)) σ H fun σ2 H2=>tb { D with nx:=Pv (i + 1),ct:=Pv (i + 1),bk:=D.nx } σ2 H2) (hd:∀ σ H,Pv n σ H→D.nx σ H) :
  ∃ W:Nat→Nat→St→Hp→Prop,(∃ m,W 0 m σ H)∧∀ i m σ H,W i m σ H →
   ((Itr lo n).stop i H∧D.nx σ H) ∨ ((Itr lo n).go i H∧∃ N:St→Hp→Prop,(∀ σ' H',N σ' H'→∃ m',m' < m∧W (i + 1) m' σ' H')∧∀ x H',(Itr lo n).yld i H x H'→g x σ H' fun σ2 H2=>tb { D with nx:=N,ct:=N,bk:=D.nx } σ2 H2):=by
 refine ⟨fun i m σ H=>m=n - i∧i ≤ n∧Pv i σ H,⟨n,by simp,Nat.zero_le _,h0⟩,?_⟩
 rintro i m σ H ⟨rfl,hi,p⟩
 by_cases hlt:i < n
 ·refine .inr ⟨hlt,Pv (i + 1),fun σ' H' p'=>⟨n - (i + 1),by omega,rfl,hlt,p'⟩,fun x H' y=>?_⟩
  obtain ⟨e,y⟩:=y
  subst e y
  exact hs i σ _ hlt p
 ·have e:i=n:=by omega
  subst e
  exact .inl ⟨Nat.le_refl _,hd σ H p⟩
end L2
namespace L2
open PySem PySem.Spec PyProof.Rows
abbrev R2:=V→V→Hp→VK→Prop
def OpR (X:Cx) (f:Value→Value→Sem Value) (r:R2):Prop :=
 ∀ (pins:List (Addr × Obj)) (s:Shared) (σ:St) (H:Hp) (x y:V) (v u:Value) (Q:VK),Inv X pins σ H s→RelV x v→RelV y u→r x y H Q →
  wpAny (model X.prog X.w) X.A (f v u) (EP X pins σ Q) X.xe s
def UnR (X:Cx) (f:Value→Sem Value) (r:V→Hp→VK→Prop):Prop :=
 ∀ (pins:List (Addr × Obj)) (s:Shared) (σ:St) (H:Hp) (x:V) (v:Value) (Q:VK),Inv X pins σ H s→RelV x v→r x H Q →
  wpAny (model X.prog X.w) X.A (f v) (EP X pins σ Q) X.xe s
def CallR (X:Cx) (f:Value) (r:List V→Hp→VK→Prop):Prop :=
 ∀ (pins:List (Addr × Obj)) (s:Shared) (σ:St) (H:Hp) (xs:List V) (us:List Value) (Q:VK),Inv X pins σ H s→Vals xs us→r xs H Q →
  wpAny (model X.prog X.w) X.A (call f us) (EP X pins σ Q) X.xe s
def tOp (r:R2) (ta tb:TE):TE:=fun σ H Q=>ta σ H fun x H1=>tb σ H1 fun y H2=>r x y H2 Q
def tUn (r:V→Hp→VK→Prop) (ta:TE):TE:=fun σ H Q=>ta σ H fun x H1=>r x H1 Q
def rI (C:Int→Int→Prop) (g:Int→Int→V):R2:=fun x y H Q=>∃ i j,x=.int i∧y=.int j∧C i j∧Q (g i j) H
def rI0 (g:Int→Int→V):R2:=fun x y H Q=>∃ i j,x=.int i∧y=.int j∧Q (g i j) H
def rU (g:Int→V):V→Hp→VK→Prop:=fun x H Q=>∃ i,x=.int i∧Q (g i) H
section
variable {X:Cx} {a b c:Expr} {ta tb tc:TE} {pos:Pos}
theorem binT (ha:PE X a ta) (hb:PE X b tb) {pins:List (Addr × Obj)} {s:Shared} {σ:St} {H:Hp} {R:V→V→Hp→Prop} (I:Inv X pins σ H s)
  (h:ta σ H fun x H1=>tb σ H1 fun y H2=>R x y H2) {Q:Value→Shared→Prop} {f:Value→Value→Sem Value}
  (hf:∀ v u s2 x y H2,Inv X pins σ H2 s2→RelV x v→RelV y u→R x y H2→wpAny (model X.prog X.w) X.A (f v u) Q X.xe s2) :
  wpAny (model X.prog X.w) X.A (eval a X.env) (fun v s₁=>wpAny (model X.prog X.w) X.A (eval b X.env) (fun u s₂=>wpAny (model X.prog X.w) X.A (f v u) Q X.xe s₂) X.xe s₁) X.xe s:=by
 refine thn (ha pins s σ H _ I h) fun v s1 ⟨x,H1,I1,r1,q1⟩=>?_
 refine thn (hb pins s1 σ H1 _ I1 q1) fun u s2 ⟨y,H2,I2,r2,q2⟩=>?_
 exact hf v u s2 x y H2 I2 r1 r2 q2
theorem pe_op {op:Operator} {r:R2} (ho:OpR X (binaryOp op) r) (ha:PE X a ta) (hb:PE X b tb):PE X (.BinOp a op b pos) (tOp r ta tb):=by
 intro pins s σ H Q I h
 exact wpAny_BinOp (binT ha hb I h fun v u s2 x y H2 I2 rx ry q=>ho pins s2 σ H2 x y v u Q I2 rx ry q)
theorem pe_un {op:UnaryOp} {r:V→Hp→VK→Prop} (ho:UnR X (unaryOp op) r) (ha:PE X a ta):PE X (.UnaryOp op a pos) (tUn r ta):=by
 intro pins s σ H Q I h
 exact UnaryOp_ (thn (ha pins s σ H _ I h) fun v s1 ⟨x,H1,I1,r1,q1⟩=>ho pins s1 σ H1 x v Q I1 r1 q1)
theorem opI {f:Value→Value→Sem Value} {C:Int→Int→Prop} {g:Int→Int→Int}
  (rule:∀ (i j:Int) (t u:Tok) (s:Shared) (Q:Value→Shared→Prop) (E:Value→Shared→Prop),C i j→Q (.int (g i j) s.toks) { s with toks:=s.toks + 1 }→wpAny (model X.prog X.w) X.A (f (.int i t) (.int j u)) Q E s) :
  OpR X f (rI C fun i j=>.int (g i j)):=by
 intro pins s σ H x y v u Q I rx ry h
 obtain ⟨i,j,rfl,rfl,hc,q⟩:=h
 obtain ⟨t,rfl⟩:=rx
 obtain ⟨t',rfl⟩:=ry
 exact rule i j t t' s _ _ hc ⟨.int (g i j),H,I.tok _,⟨_,rfl⟩,q⟩
theorem opI0 {f:Value→Value→Sem Value} {g:Int→Int→Int}
  (rule:∀ (i j:Int) (t u:Tok) (s:Shared) (Q:Value→Shared→Prop) (E:Value→Shared→Prop),Q (.int (g i j) s.toks) { s with toks:=s.toks + 1 }→wpAny (model X.prog X.w) X.A (f (.int i t) (.int j u)) Q E s) :
  OpR X f (rI0 fun i j=>.int (g i j)):=by
 intro pins s σ H x y v u Q I rx ry h
 obtain ⟨i,j,rfl,rfl,q⟩:=h
 obtain ⟨t,rfl⟩:=rx
 obtain ⟨t',rfl⟩:=ry
 exact rule i j t t' s _ _ ⟨.int (g i j),H,I.tok _,⟨_,rfl⟩,q⟩
theorem opB0 {f:Value→Value→Sem Value} {g:Int→Int→Bool}
  (rule:∀ (i j:Int) (t u:Tok) (s:Shared) (Q:Value→Shared→Prop) (E:Value→Shared→Prop),Q (.bool (g i j)) s→wpAny (model X.prog X.w) X.A (f (.int i t) (.int j u)) Q E s) :
  OpR X f (rI0 fun i j=>.bl (g i j)):=by
 intro pins s σ H x y v u Q I rx ry h
 obtain ⟨i,j,rfl,rfl,q⟩:=h
 obtain ⟨t,rfl⟩:=rx
 obtain ⟨t',rfl⟩:=ry
 exact rule i j t t' s _ _ ⟨.bl (g i j),H,I,rfl,q⟩
def CDiv (i j:Int):Prop:=0 < j∧j < 1073741824
def CPow (i j:Int):Prop:=0 ≤ j∧j ≤ 1000000∧i.natAbs < 2 ^ 64
def CMul (i j:Int):Prop:=(-(2 ^ 64) < i∧i < 2 ^ 64) ∨ (-(2 ^ 64) < j∧j < 2 ^ 64)
theorem CMul.ok {i j:Int} (h:CMul i j):IntMulOk i j:=by
 rcases h with ⟨h1,h2⟩ | ⟨h1,h2⟩
 ·exact .of_left (intBits_le_64 h1 h2)
 ·exact .of_right (intBits_le_64 h1 h2)
theorem op_add:OpR X (binaryOp .Add) (rI0 fun i j=>.int (i + j)):=opI0 fun _ _ _ _ _ _ _ q=>add_int q
theorem op_sub:OpR X (binaryOp .Sub) (rI0 fun i j=>.int (i - j)):=opI0 fun _ _ _ _ _ _ _ q=>sub_int q
theorem op_mul:OpR X (binaryOp .Mult) (rI CMul fun i j=>.int (i * j)):=opI fun _ _ _ _ _ _ _ hc q=>mul_int q hc.ok
theorem op_fdiv:OpR X (binaryOp .FloorDiv) (rI CDiv fun i j=>.int (i / j)):=opI fun i j _ _ _ _ _ hc q=>by
 have h1:(0:Int) < j:=hc.1
 have h2:j < 1073741824:=hc.2
 exact floordiv_int (by omega) (by rw [Int.fdiv_eq_ediv_of_nonneg i (by omega)]; exact q) (.inl (PyProof.noPylong_small (by omega)))
theorem op_mod:OpR X (binaryOp .Mod) (rI (fun _ j=>0 < j) fun i j=>.int (i % j)):=opI fun i j _ _ _ _ _ hc q=>by
 have h1:(0:Int) < j:=hc
 exact mod_int' (by omega) (by rw [Int.fmod_eq_emod_of_nonneg i (by omega)]; exact q)
theorem op_pow:OpR X (binaryOp .Pow) (rI CPow fun i j=>.int (i ^ j.toNat)):=opI fun _ _ _ _ _ _ _ hc q=>pow_int_small hc.1 hc.2.1 hc.2.2 q
theorem unI {f:Value→Sem Value} {g:Int→Int}
  (rule:∀ (i:Int) (t:Tok) (s:Shared) (Q:Value→Shared→Prop) (E:Value→Shared→Prop),Q (.int (g i) s.toks) { s with toks:=s.toks + 1 }→wpAny (model X.prog X.w) X.A (f (.int i t)) Q E s) :
  UnR X f (rU fun i=>.int (g i)):=by
 intro pins s σ H x v Q I rx h
 obtain ⟨i,rfl,q⟩:=h
 obtain ⟨t,rfl⟩:=rx
 exact rule i t s _ _ ⟨.int (g i),H,I.tok _,⟨_,rfl⟩,q⟩
theorem un_neg:UnR X (unaryOp .USub) (rU fun i=>.int (-i)):=unI fun _ _ _ _ _ q=>neg_int q
end
def scal:V→V→Bool
 | .non,.non=>true | .non,.int _=>true | .int _,.non=>true | .non,.bl _=>true | .bl _,.non=>true | .non,.str _=>true | .str _,.non=>true
 | .int _,.int _=>true | .bl _,.bl _=>true | .str _,.str _=>true | .byt _,.byt _=>true
 | .int _,.str _=>true | .str _,.int _=>true | .bl _,.str _=>true | .str _,.bl _=>true
 | _,_=>false
def rEq:R2:=fun x y H Q=>scal x y=true∧Q (.bl (decide (x=y))) H
def rNe:R2:=fun x y H Q=>scal x y=true∧Q (.bl (!decide (x=y))) H
theorem dec_int {i j:Int}:decide (V.int i=V.int j)=(i == j):=by
 rw [Bool.eq_iff_iff]
 simp
theorem dec_bl {i j:Bool}:decide (V.bl i=V.bl j)=(i == j):=by
 rw [Bool.eq_iff_iff]
 simp
theorem dec_str {i j:Str}:decide (V.str i=V.str j)=(i == j):=by
 rw [Bool.eq_iff_iff]
 simp
theorem dec_byt {i j:Array UInt8}:decide (V.byt i=V.byt j)=(i.toList == j.toList):=by
 rw [Bool.eq_iff_iff]
 cases i
 cases j
 simp
section
variable {X:Cx} {a b c:Expr} {ta tb tc:TE} {pos:Pos}
theorem fin_bl {pins:List (Addr × Obj)} {σ:St} {H:Hp} {s:Shared} {Q:VK} {k k':Bool} (I:Inv X pins σ H s) (q:Q (.bl k) H) (e:k=k'):EP X pins σ Q (.bool k') s:=by
 subst e
 exact ⟨.bl k,H,I,rfl,q⟩
theorem op_eq:OpR X (compareOp .Eq) rEq:=by
 intro pins s σ H x y v u Q I rx ry h
 obtain ⟨hs,q⟩:=h
 cases x with
 | non =>
  cases rx
  cases y with
  | non=>cases ry; exact PySem.EqNone.eq_none_none (fin_bl I q (by simp))
  | bl j=>cases ry; exact PySem.EqNone.eq_none_bool (fin_bl I q (by simp))
  | int j=>obtain ⟨t',rfl⟩:=ry; exact PySem.EqNone.eq_none_int (fin_bl I q (by simp))
  | str j=>obtain ⟨t',rfl⟩:=ry; exact PySem.EqNone.eq_none_str (fin_bl I q (by simp))
  | _=>exact absurd (show false=true from hs) Bool.false_ne_true
 | bl i =>
  cases rx
  cases y with
  | non=>cases ry; exact PySem.EqNone.eq_bool_none (fin_bl I q (by simp))
  | bl j=>cases ry; exact eq_bool (fin_bl I q dec_bl)
  | str j=>obtain ⟨t',rfl⟩:=ry; exact PySem.EqMixed.eq_bool_str (fin_bl I q (by simp))
  | _=>exact absurd (show false=true from hs) Bool.false_ne_true
 | int i =>
  obtain ⟨t,rfl⟩:=rx
  cases y with
  | non=>cases ry; exact PySem.EqNone.eq_int_none (fin_bl I q (by simp))
  | int j=>obtain ⟨t',rfl⟩:=ry; exact eq_int (fin_bl I q dec_int)
  | str j=>obtain ⟨t',rfl⟩:=ry; exact PySem.EqMixed.eq_int_str (fin_bl I q (by simp))
  | _=>exact absurd (show false=true from hs) Bool.false_ne_true
 | str i =>
  obtain ⟨t,rfl⟩:=rx
  cases y with
  | non=>cases ry; exact PySem.EqNone.eq_str_none (fin_bl I q (by simp))
  | bl j=>cases ry; exact PySem.EqMixed.eq_str_bool (fin_bl I q (by simp))
  | int j=>obtain ⟨t',rfl⟩:=ry; exact PySem.EqMixed.eq_str_int (fin_bl I q (by simp))
  | str j=>obtain ⟨t',rfl⟩:=ry; exact eq_str (fin_bl I q dec_str)
  | _=>exact absurd (show false=true from hs) Bool.false_ne_true
 | byt i =>
  obtain ⟨t,rfl⟩:=rx
  cases y with
  | byt j=>obtain ⟨t',rfl⟩:=ry; exact PySem.W.eq_bytes (fin_bl I q dec_byt)
  | _=>exact absurd (show false=true from hs) Bool.false_ne_true
 | _=>cases y <;> exact absurd (show false=true from hs) Bool.false_ne_true
theorem op_ne:OpR X (compareOp .NotEq) rNe:=by
 intro pins s σ H x y v u Q I rx ry h
 obtain ⟨hs,q⟩:=h
 cases x with
 | non =>
  cases rx
  cases y with
  | non=>cases ry; exact PySem.EqNone.ne_none_none (fin_bl I q (by simp))
  | bl j=>cases ry; exact PySem.EqNone.ne_none_bool (fin_bl I q (by simp))
  | int j=>obtain ⟨t',rfl⟩:=ry; exact PySem.EqNone.ne_none_int (fin_bl I q (by simp))
  | str j=>obtain ⟨t',rfl⟩:=ry; exact PySem.EqNone.ne_none_str (fin_bl I q (by simp))
  | _=>exact absurd (show false=true from hs) Bool.false_ne_true
 | bl i =>
  cases rx
  cases y with
  | non=>cases ry; exact PySem.EqNone.ne_bool_none (fin_bl I q (by simp))
  | bl j=>cases ry; exact ne_bool (fin_bl I q (congrArg not dec_bl))
  | str j=>obtain ⟨t',rfl⟩:=ry; exact PySem.EqMixed.ne_bool_str (fin_bl I q (by simp))
  | _=>exact absurd (show false=true from hs) Bool.false_ne_true
 | int i =>
  obtain ⟨t,rfl⟩:=rx
  cases y with
  | non=>cases ry; exact PySem.EqNone.ne_int_none (fin_bl I q (by simp))
  | int j=>obtain ⟨t',rfl⟩:=ry; exact ne_int (fin_bl I q (congrArg not dec_int))
  | str j=>obtain ⟨t',rfl⟩:=ry; exact PySem.EqMixed.ne_int_str (fin_bl I q (by simp))
  | _=>exact absurd (show false=true from hs) Bool.false_ne_true
 | str i =>
  obtain ⟨t,rfl⟩:=rx
  cases y with
  | non=>cases ry; exact PySem.EqNone.ne_str_none (fin_bl I q (by simp))
  | bl j=>cases ry; exact PySem.EqMixed.ne_str_bool (fin_bl I q (by simp))
  | int j=>obtain ⟨t',rfl⟩:=ry; exact PySem.EqMixed.ne_str_int (fin_bl I q (by simp))
  | str j=>obtain ⟨t',rfl⟩:=ry; exact ne_str (fin_bl I q (congrArg not dec_str))
  | _=>exact absurd (show false=true from hs) Bool.false_ne_true
 | byt i =>
  obtain ⟨t,rfl⟩:=rx
  cases y with
  | byt j=>obtain ⟨t',rfl⟩:=ry; exact PySem.W.ne_bytes (fin_bl I q (congrArg not dec_byt))
  | _=>exact absurd (show false=true from hs) Bool.false_ne_true
 | _=>cases y <;> exact absurd (show false=true from hs) Bool.false_ne_true
theorem op_lt:OpR X (compareOp .Lt) (rI0 fun i j=>.bl (decide (i < j))):=opB0 fun _ _ _ _ _ _ _ q=>lt_int q
theorem op_le:OpR X (compareOp .LtE) (rI0 fun i j=>.bl (decide (i ≤ j))):=opB0 fun _ _ _ _ _ _ _ q=>le_int q
theorem op_gt:OpR X (compareOp .Gt) (rI0 fun i j=>.bl (decide (j < i))):=opB0 fun _ _ _ _ _ _ _ q=>gt_int q
theorem op_ge:OpR X (compareOp .GtE) (rI0 fun i j=>.bl (decide (j ≤ i))):=opB0 fun _ _ _ _ _ _ _ q=>ge_int q
theorem nomark (b:Expr) {op:CmpOp} (h:op ≠ .In:=by decide) (h2:op ≠ .NotIn:=by decide):behindInMarks op b=false:=by
 have e1:(op == CmpOp.In)=false:=by cases op <;> first | rfl | exact absurd rfl h
 have e2:(op == CmpOp.NotIn)=false:=by cases op <;> first | rfl | exact absurd rfl h2
 cases b <;> simp [behindInMarks,e1,e2]
theorem pe_cmpR {op:CmpOp} {r:R2} (ho:OpR X (compareOp op) r) (ha:PE X a ta) (hb:PE X b tb) (hm:behindInMarks op b=false):PE X (.Compare a [op] [b] pos) (tOp r ta tb):=by
 intro pins s σ H Q I h
 exact wpAny_Compare1 (binT ha hb I h fun v u s2 x y H2 I2 rx ry q=>ho pins s2 σ H2 x y v u Q I2 rx ry q) hm
def tTest (t:TE):TT:=fun σ H Q=>t σ H fun x H'=>∃ k,x=.bl k∧Q k H'
theorem pt_cmpR {op:CmpOp} {r:R2} (ho:OpR X (compareOp op) r) (ha:PE X a ta) (hb:PE X b tb) (hm:behindInMarks op b=false):PT X (.Compare a [op] [b] pos) (tTest (tOp r ta tb)):=by
 intro pins s σ H Q I h
 refine wpAny_isTrue_Compare1 (thn (ha pins s σ H _ I h) fun v s1 ⟨x,H1,I1,r1,q1⟩=>thn (hb pins s1 σ H1 _ I1 q1) fun u s2 ⟨y,H2,I2,r2,q2⟩ =>
  thn (ho pins s2 σ H2 x y v u _ I2 r1 r2 q2) fun c s3 ⟨z,H3,I3,r3,k,e,q3⟩=>?_) hm
 subst e
 cases r3
 exact wpAny_truthy_bool ⟨H3,I3,q3⟩
theorem line63:(sizeLine:Nat) < 2 ^ 63:=by rw [sizeLine_eq]; decide
theorem op_add_str:OpR X (binaryOp .Add) (fun x y H Q=>∃ i j,x=.str i∧y=.str j∧i.length + j.length ≤ sizeLine∧Q (.str (i ++ j)) H):=by
 intro pins s σ H x y v u Q I rx ry h
 obtain ⟨i,j,rfl,rfl,hz,q⟩:=h
 obtain ⟨t,rfl⟩:=rx
 obtain ⟨t',rfl⟩:=ry
 exact add_str (fun t' tk=>⟨.str (i ++ j),H,I.tok _,⟨_,rfl⟩,q⟩) hz
theorem vals1 {x:V} {us:List Value} (r:Vals [x] us):∃ u,us=[u]∧RelV x u:=by
 cases r with
 | cons r1 r2=>cases r2; exact ⟨_,rfl,r1⟩
theorem vals2 {x y:V} {us:List Value} (r:Vals [x,y] us):∃ u w',us=[u,w']∧RelV x u∧RelV y w':=by
 cases r with
 | cons r1 r2 =>
  cases r2 with
  | cons r3 r4=>cases r4; exact ⟨_,_,rfl,r1,r3⟩
theorem call_min2 (hc:X.calm=true):CallR X (.builtin "min") (fun xs H Q=>∃ i j,xs=[.int i,.int j]∧Q (.int (if j < i then j else i)) H):=by
 intro pins s σ H xs us Q I r h
 obtain ⟨i,j,rfl,q⟩:=h
 obtain ⟨u,w',rfl,⟨t,rfl⟩,⟨t',rfl⟩⟩:=vals2 r
 refine min_two_ints (I.ok.hd hc) fun h' tk k=>⟨_,H,I.kept k,?_,q⟩
 by_cases hj:j < i
 ·rw [if_pos hj,if_pos hj]; exact ⟨_,rfl⟩
 ·rw [if_neg hj,if_neg hj]; exact ⟨_,rfl⟩
end
end L2
namespace L2
open PySem PySem.Spec PyProof.Rows
structure ObjM (h:Heap) (x dx C:Addr) (mA:Str→Option Value):Prop where
 obj:h.get? x=some (PySem.W.instObj C dx)
 ns:h.Ns1 dx mA
 ne:dx ≠ x
theorem lookIn_ns {h:Heap} {dx:Addr} {mA:Str→Option Value} (n:h.Ns1 dx mA):∃ od,h.get? dx=some od∧∀ name,PySem.W.lookIn name od=some (mA name):=by
 obtain ⟨o,es,ep,ho,hd,hk,_,hm⟩:=n
 refine ⟨o,ho,fun name=>?_⟩
 have e:=hm name
 unfold nsFind findBy at e
 rw [← Array.find?_toList] at e
 unfold PySem.W.lookIn
 rw [hd]
 dsimp only
 split
 ·rename_i y q
  rw [q] at e
  exact congrArg some e
 ·rename_i q
  rw [q] at e
  have a:es.toList.any (·.refKey)=false:=by
   rw [List.any_eq_false]
   intro y hy
   obtain ⟨z,t,hkey⟩:=hk y (Array.mem_toList_iff.mp hy)
   simp [DictEntry.refKey,hkey]
  have a':¬ es.toList.any (·.refKey)=true:=by rw [a]; exact Bool.false_ne_true
  rw [if_neg a']
  exact congrArg some e
theorem ObjM.look {h:Heap} {x dx C:Addr} {mA:Str→Option Value} (I:ObjM h x dx C mA):∃ od,PySem.W.InstAt h x (PySem.W.instObj C dx) C (some od)∧∀ name,PySem.W.lookIn name od=some (mA name) :=
 let ⟨od,ho,hl⟩:=lookIn_ns I.ns
 ⟨od,⟨I.obj,rfl,rfl,ho⟩,hl⟩
section
variable {prog:Program} {w:World} {A:Around} {E:Value→Shared→Prop} {s:Shared} {K:PySem.W.Frag} {x dx C f:Addr} {mA:Str→Option Value} {name:Str} {v:Value}
theorem get_map {expr:Bool} {Q:Value→Shared→Prop} (X:K.In s.heap) (I:ObjM s.heap x dx C mA) (hg:PySem.W.plainGet K C name=true) (hh:PySem.W.hasDictIn K C=true)
  (ha:PySem.W.findIn K (.ref C) name=some none) (hv:mA name=some v) (hv':PySem.W.handedIn v=true) (h:Q v { s with toks:=s.toks + 1 }) :
  wpAny (model prog w) A (getAttr (.ref x) name expr) Q E s:=by
 obtain ⟨od,J,hl⟩:=I.look
 exact PySem.W.get_value X J (PySem.W.plainGet_of hg).1 (PySem.W.findObj_own hh ha rfl (by rw [hl,hv])) hv' h
theorem set_map {ns:List Str} {Q:Unit→Shared→Prop} (X:K.In s.heap) (I:ObjM s.heap x dx C mA)
  (hs:PySem.W.findIn K (.ref C) "__setattr__"=some (some (.builtin "object.__setattr__"))) (hp:PySem.W.plainOver K C=true) (ht:PySem.W.takerIn K C name=some none) (hh:PySem.W.hasDictIn K C=true)
  (hw:PySem.Within mA ns) (hsz:ns.length ≤ sizeLine)
  (h:∀ h',ObjM h' x dx C (fun y=>if y=name then some v else mA y)→Heap.SameBut dx s.heap h'→Q () { s with heap:=h',toks:=s.toks + 2 }) :
  wpAny (model prog w) A (setAttr (.ref x) name v) Q E s:=by
 obtain ⟨od,J,hl⟩:=I.look
 refine PySem.W.set_plain X J hs (PySem.W.osa_open (s:={ s with toks:=s.toks + 1 }) (r:=none) X J hp ht fun b=>?_)
 obtain ⟨cd,hc,hd'⟩:=PySem.W.any_some hh
 have hx:s.heap.get? x=some ⟨.ref C,some dx,.plain,#[]⟩:=I.obj
 refine wpAny_bind (wpAny_pure (wpAny_bind (wpAny_bind (wpAny_loadPart hx (wpAny_bind (PySem.W.Looks.here (s:={ s with toks:=s.toks + 1 }) (PySem.W.looks_clsIn X hc) ?_))))))
 rw [hd']
 refine wpAny_pure (a:=some dx) (wpAny_bind (wpAny_pure (wpAny_bind ?_)))
 refine wpAny_nsSet1 (s:={ s with toks:=s.toks + 1 }) I.ns fun h' hn2 hs2=>?_
 obtain ⟨oD,esD,epD,hoD,hdD,hcD⟩:=hn2.count (PySem.Within.cons name v hw)
 refine wpAny_bind (wpAny_lookBehind hoD (by rw [hdD]; exact pastItsLine_dict (Nat.le_trans hcD (by rw [List.length_cons]; omega))) ?_)
 exact wpAny_pure (h _ ⟨(hs2.2 _ (Ne.symm I.ne)).trans I.obj,hn2,I.ne⟩ hs2)
theorem make_map {R:Result→Shared→Prop} {vs:List Value} {kw:List (Str × Value)} (X:K.In s.heap) (hm:PySem.W.makesIn K C=true)
  (hi:PySem.W.findIn K (.ref C) "__init__"=some (some (.ref f))) (hf:PySem.W.typeIn K (.ref f)=some (.type "function"))
  (h:codeAny (model prog w) (A.under (.builtin "type.__call__" ⟨.ref C :: vs,kw⟩)) (.call (.ref f) ⟨.ref (s.heap.objs.size + 1) :: vs,kw⟩) (PySem.W.InitBack (s.heap.objs.size + 1) R)
   { s with heap:=(s.heap.push PySem.W.emptyDict).push (PySem.W.instObj C s.heap.objs.size) }) :
  codeAny (model prog w) A (.call (.ref C) ⟨vs,kw⟩) R s:=by
 obtain ⟨hh,g,d,t,os⟩:=s
 exact PySem.W.make_core (PySem.W.makes_of X hm) (PySem.W.looks_findIn X hi) (fun self=>PySem.W.bind_fn X self hf) (.inl rfl) h
end
def putF (f:Str) (v:V):List (Str × V)→List (Str × V)
 | []=>[(f,v)]
 | (g,x) :: r=>if g=f then (g,v) :: r else (g,x) :: putF f v r
theorem lookup_putF (f g:Str) (v:V):∀ fs:List (Str × V),(putF f v fs).lookup g=if g=f then some v else fs.lookup g
 | []=>by
  show List.lookup g [(f,v)]=_
  by_cases h:g=f
  ·have hb:(g == f)=true:=beq_iff_eq.mpr h
   simp only [List.lookup,hb,if_pos h]
  ·have hb:(g == f)=false:=beq_eq_false_iff_ne.mpr h
   simp only [List.lookup,hb,if_neg h]
 | (k,x) :: r=>by
  have ih:=lookup_putF f g v r
  rw [show putF f v ((k,x) :: r)=(if k=f then (k,v) :: r else (k,x) :: putF f v r) from rfl]
  by_cases hk:k=f
  ·rw [if_pos hk]
   by_cases h:g=k
   ·have hb:(g == k)=true:=beq_iff_eq.mpr h
    simp only [List.lookup,hb,if_pos (h.trans hk)]
   ·have hb:(g == k)=false:=beq_eq_false_iff_ne.mpr h
    simp only [List.lookup,hb,if_neg (fun e:g=f=>h (e.trans hk.symm))]
  ·rw [if_neg hk]
   by_cases h:g=k
   ·have hb:(g == k)=true:=beq_iff_eq.mpr h
    simp only [List.lookup,hb,if_neg (fun e:g=f=>hk (h.symm.trans e))]
   ·have hb:(g == k)=false:=beq_eq_false_iff_ne.mpr h
    simp only [List.lookup,hb]
    exact ih
theorem keys_putF (f:Str) (v:V):∀ fs:List (Str × V),f ∈ (putF f v fs).map (·.1)∧∀ g,g ∈ fs.map (·.1)→g ∈ (putF f v fs).map (·.1)
 | []=>⟨by simp [putF],fun g h=>by simp at h⟩
 | (k,x) :: r=>by
  obtain ⟨i1,i2⟩:=keys_putF f v r
  rw [show putF f v ((k,x) :: r)=(if k=f then (k,v) :: r else (k,x) :: putF f v r) from rfl]
  by_cases hk:k=f
  ·rw [if_pos hk]
   subst hk
   exact ⟨by simp,fun g h=>by simpa using h⟩
  ·rw [if_neg hk]
   refine ⟨?_,fun g h=>?_⟩
   ·rw [List.map_cons]
    exact List.mem_cons_of_mem _ i1
   ·rw [List.map_cons] at h ⊢
    rcases List.mem_cons.mp h with e | e
    ·exact List.mem_cons.mpr (.inl e)
    ·exact List.mem_cons_of_mem _ (i2 g e)
theorem length_putF (f:Str) (v:V):∀ fs:List (Str × V),(putF f v fs).length ≤ fs.length + 1
 | []=>by simp [putF]
 | (k,x) :: r=>by
  have ih:=length_putF f v r
  rw [show putF f v ((k,x) :: r)=(if k=f then (k,v) :: r else (k,x) :: putF f v r) from rfl]
  by_cases hk:k=f
  ·rw [if_pos hk,List.length_cons,List.length_cons]; omega
  ·rw [if_neg hk,List.length_cons,List.length_cons]; omega
theorem RelO.some_of {v:V} {o:Option Value} (r:RelO (some v) o):∃ u,o=some u∧RelV v u:=by
 cases o with
 | none=>exact (show False from r).elim
 | some u=>exact ⟨u,rfl,r⟩
theorem handed_of {v:V} {u:Value} (r:RelV v u):PySem.W.handedIn u=true:=by
 cases v with
 | non=>cases (show u=Value.none from r); rfl
 | bl b=>cases (show u=Value.bool b from r); rfl
 | int i=>obtain ⟨t,e⟩:=(show ∃ t,u=Value.int i t from r); cases e; rfl
 | str x=>obtain ⟨t,e⟩:=(show ∃ t,u=Value.str x t from r); cases e; rfl
 | byt b=>obtain ⟨t,e⟩:=(show ∃ t,u=Value.bytes b t from r); cases e; rfl
 | flt b=>obtain ⟨t,e⟩:=(show ∃ t,u=Value.float b t from r); cases e; rfl
 | ref a=>cases (show u=Value.ref a from r); rfl
 | ty n=>cases (show u=Value.type n from r); rfl
section
variable {P:Program} {w:World} {H H':Hp} {h h':Heap} {a C dx:Addr} {fs fs':List (Str × V)}
theorem ins_get (hok:HOk P w H h) (e:H a=some (.ins C dx fs)):∃ mA,ObjM h a dx C mA∧(∀ f,RelO (fs.lookup f) (mA f))∧PySem.Within mA (fs.map (·.1))∧fs.length ≤ 1000∧H dx=some (.own a):=by
 obtain ⟨d,z,ne,ob,mA,n,r,q⟩:=(show ObjOk P w H h a (.ins C dx fs) from hok a _ e)
 exact ⟨mA,⟨ob,n,ne⟩,r,q,z,d⟩
end
structure Cls (K:PySem.W.Frag) (C:Addr):Prop where
 pg:PySem.W.plainGet K C Str.empty=true
 hd:PySem.W.hasDictIn K C=true
 po:PySem.W.plainOver K C=true
 sa:PySem.W.findIn K (.ref C) "__setattr__"=some (some (.builtin "object.__setattr__"))
theorem Cls.get {K:PySem.W.Frag} {C:Addr} (c:Cls K C) (f:Str):PySem.W.plainGet K C f=true:=c.pg
def NoAttr (K:PySem.W.Frag) (C:Addr) (f:Str):Prop:=PySem.W.findIn K (.ref C) f=some none
theorem NoAttr.taker {K:PySem.W.Frag} {C:Addr} {f:Str} (n:NoAttr K C f):PySem.W.takerIn K C f=some none:=by
 unfold PySem.W.takerIn
 rw [show PySem.W.findIn K (.ref C) f=some none from n]
 rfl
section
variable {X:Cx} {pins:List (Addr × Obj)} {σ:St} {H:Hp} {s:Shared} {a C dx:Addr} {fs:List (Str × V)} {f:Str} {v:V} {A:Around} {E:Value→Shared→Prop}
theorem getattr_ok {b:Bool} {Q:Value→Shared→Prop} (I:Inv X pins σ H s) (e:H a=some (.ins C dx fs)) (c:Cls X.K C) (n:NoAttr X.K C f) (l:fs.lookup f=some v)
  (h:∀ u s',Inv X pins σ H s'→RelV v u→Q u s'):wpAny (model X.prog X.w) A (getAttr (.ref a) f b) Q E s:=by
 obtain ⟨mA,O,r,_,_,_⟩:=ins_get I.hok e
 obtain ⟨u,hu,ru⟩:=RelO.some_of (v:=v) (o:=mA f) (by rw [← l]; exact r f)
 exact get_map I.kIn O (c.get f) c.hd n hu (handed_of ru) (h u _ (I.tok _) ru)
theorem setattr_ok {y:V} {u:Value} {Q:Unit→Shared→Prop} (I:Inv X pins σ H s) (e:H a=some (.ins C dx fs)) (c:Cls X.K C) (n:NoAttr X.K C f) (hl:fs.length < 1000) (ry:RelV y u)
  (h:∀ s',Inv X pins σ (upd H a (.ins C dx (putF f y fs))) s'→Q () s'):wpAny (model X.prog X.w) A (setAttr (.ref a) f u) Q E s:=by
 obtain ⟨mA,O,r,wi,_,ho⟩:=ins_get I.hok e
 have hz:(fs.map (·.1)).length ≤ sizeLine:=by rw [List.length_map,sizeLine_eq]; omega
 refine set_map I.kIn O c.sa c.po n.taker c.hd wi hz fun h' O' sb=>h _ ?_
 have hd:∃ o,h'.get? dx=some o:=let ⟨o,_,_,e',_⟩:=O'.ns; ⟨o,e'⟩
 refine I.write (x:=a) (e:=dx) (by rw [e]; exact True.intro) (.inr ho) (fun b q hb z=>(sb.2 b hb).trans z) hd ?_
 refine ⟨by rw [upd_ne O.ne]; exact ho,?_,O.ne,O'.obj,_,O'.ns,fun g=>?_,fun g hg=>?_⟩
 ·have:=length_putF f y fs; omega
 ·show RelO ((putF f y fs).lookup g) (if g=f then some u else mA g)
  rw [lookup_putF]
  by_cases q:g=f
  ·rw [if_pos q,if_pos q]; exact ry
  ·rw [if_neg q,if_neg q]; exact r g
 ·by_cases q:g=f
  ·rw [q]; exact (keys_putF f y fs).1
  ·refine (keys_putF f y fs).2 g (wi g fun z=>hg ?_)
   show (if g=f then some u else mA g)=none
   rw [if_neg q]; exact z
theorem Inv.made (I:Inv X pins σ H s):Inv X pins σ (upd (upd H s.heap.objs.size (.own (s.heap.objs.size + 1))) (s.heap.objs.size + 1) (.ins C s.heap.objs.size []))
  { s with heap:=(s.heap.push PySem.W.emptyDict).push (PySem.W.instObj C s.heap.objs.size) }:=by
 have e1:(s.heap.push PySem.W.emptyDict).get? s.heap.objs.size=some PySem.W.emptyDict:=Heap.get?_push_size s.heap rfl
 have e2:((s.heap.push PySem.W.emptyDict).push (PySem.W.instObj C s.heap.objs.size)).get? (s.heap.objs.size + 1)=some (PySem.W.instObj C s.heap.objs.size):=by
  have:=Heap.get?_push_size (s.heap.push PySem.W.emptyDict) (o:=PySem.W.instObj C s.heap.objs.size) rfl
  rwa [Heap.size_push] at this
 have e3:(s.heap.push PySem.W.emptyDict).Ns s.heap.objs.size (fun _=>none):=⟨PySem.W.emptyDict,#[],_,e1,rfl,(fun e he=>absurd he (by simp)),fun _=>rfl⟩
 have I1:=I.laid (a:=s.heap.objs.size) (o:=.own (s.heap.objs.size + 1)) (h':=s.heap.push PySem.W.emptyDict) (t':=s.toks) (fun b u q=>Heap.get?_push_of_some _ q) (Nat.le_refl _) ⟨_,e1⟩
 refine I1.laid (a:=s.heap.objs.size + 1) (o:=.ins C s.heap.objs.size []) (t':=s.toks) (fun b u q=>Heap.get?_push_of_some _ q) (Nat.le_of_eq (Heap.size_push _ _)) ?_
 have ne:s.heap.objs.size ≠ s.heap.objs.size + 1:=Nat.ne_of_lt (Nat.lt_succ_self _)
 refine ⟨by rw [upd_ne ne,upd_same],Nat.zero_le _,ne,e2,fun _=>none,(Heap.Ns1.of_empty e3).at fun o q=>Heap.get?_push_of_some _ q,fun _=>True.intro,fun y hy=>absurd rfl hy⟩
theorem attr_of {prog:Program} {w:World} {env:Env} {e:Expr} {f:Str} {pos:Pos} {s:Shared} {Q:Value→Shared→Prop} (hb:attributeBase e f env (eval e env)=eval e env)
  (h:wpAny (model prog w) A (eval e env) (fun o s₁=>wpAny (model prog w) A (getAttr o f true) Q E s₁) E s):wpAny (model prog w) A (eval (.Attribute e f pos) env) Q E s :=
 Attribute_any_ h (by rw [arm_eval_Attribute,hb])
end
def tFld (K:PySem.W.Frag) (ta:TE) (f:Str):TE:=fun σ H Q=>ta σ H fun x H1=>∃ a C dx fs v,x=.ref a∧H1 a=some (.ins C dx fs)∧Cls K C∧NoAttr K C f∧fs.lookup f=some v∧Q v H1
def sFld (K:PySem.W.Frag) (ta tv:TE) (f:Str):TS:=fun D σ H=>tv σ H fun y H1=>ta σ H1 fun x H2=>∃ a C dx fs,x=.ref a∧H2 a=some (.ins C dx fs)∧Cls K C∧NoAttr K C f∧fs.length < 1000 ∧
 D.nx σ (upd H2 a (.ins C dx (putF f y fs)))
section
variable {X:Cx} {o e value:Expr} {f:Str} {pos pos' tpos:Pos} {ta tv:TE}
theorem pe_fld (he:PE X e ta) (hb:attributeBase e f X.env (eval e X.env)=eval e X.env):PE X (.Attribute e f pos) (tFld X.K ta f):=by
 intro pins s σ H Q I h
 refine attr_of hb (thn (he pins s σ H _ I h) fun u s1 ⟨x,H1,I1,rx,a,C,dx,fs,v,ex,ea,c,n,l,q⟩=>?_)
 subst ex
 obtain rfl:u=Value.ref a:=rx
 exact getattr_ok I1 ea c n l fun u' s2 I2 ru=>⟨v,H1,I2,ru,q⟩
theorem ps_fld (ha:PE X o ta) (hv:PE X value tv) (hs:swapsWith value (some (.Attribute o f pos')) pos.line X.env=pure false):PS X (.Assign [.Attribute o f pos'] value pos) (sFld X.K ta tv f):=by
 intro pins s σ H D I h
 refine plainObj_wpAny_Assign_Attribute (thn (hv pins s σ H _ I h) fun u s1 ⟨y,H1,I1,ry,q⟩=>thn (ha pins s1 σ H1 _ I1 q) fun ov s2 ⟨x,H2,I2,rx,a,C,dx,fs,ex,ea,c,n,l,q2⟩=>?_) hs
 subst ex
 obtain rfl:ov=Value.ref a:=rx
 exact setattr_ok I2 ea c n l ry fun s3 I3=>⟨σ,_,I3,q2⟩
end
section
variable {X:Cx} {pins:List (Addr × Obj)} {σ:St} {H:Hp} {s:Shared} {A:Around} {E:Value→Shared→Prop} {Q:Value→Shared→Prop} {c:Value} {b:Bool}
inductive TyOf (K:PySem.W.Frag) (H:Hp):V→Value→Prop where
 | non:TyOf K H .non (.type "NoneType")
 | bl (x:Bool):TyOf K H (.bl x) (.type "bool")
 | int (i:Int):TyOf K H (.int i) (.type "int")
 | str (x:Str):TyOf K H (.str x) (.type "str")
 | flt (x:UInt64):TyOf K H (.flt x) (.type "float")
 | lst {a:Addr} {xs:List V} (e:H a=some (.lst xs)):TyOf K H (.ref a) (.type "list")
 | frz {a:Addr} {o:Obj} {xs:List V} (e:H a=some (.frz o (.lst xs))):TyOf K H (.ref a) (.type "list")
 | tup {a:Addr} {xs:List V} (e:H a=some (.tup xs)):TyOf K H (.ref a) (.type "tuple")
 | dK {a:Addr} {kvs:List (Key × V)} (e:H a=some (.dK kvs)):TyOf K H (.ref a) (.type "dict")
 | dT {a:Addr} {kvs:List (List Key × V)} (e:H a=some (.dT kvs)):TyOf K H (.ref a) (.type "dict")
 | ins {a C dx:Addr} {fs:List (Str × V)} (e:H a=some (.ins C dx fs)) (cl:Cls K C) (ha:PySem.W.findIn K (.ref C) "__class__"=some (some (.builtin "object.__class__")))
   (hn:PySem.W.specialIn K (.builtin "object.__class__") "__get__"=some (some (.builtin "getset_descriptor.__get__"))) (htk:PySem.W.takesIn K (.builtin "object.__class__")=some true)
   (hm:PySem.W.mroIn K C (.type "object")=some true):TyOf K H (.ref a) (.ref C)
theorem isinst_ok {x:V} {u t:Value} (I:Inv X pins σ H s) (rx:RelV x u) (ty:TyOf X.K H x t) (e:PySem.W.kitOne X.K t c=some b) (h:∀ tk,Q (.bool b) { s with toks:=tk }) :
  wpAny (model X.prog X.w) A (call (.builtin "isinstance") [u,c]) Q E s:=by
 cases ty with
 | non=>cases (show u=Value.none from rx); exact PySem.W.kia_one PySem.W.kitx_none I.kIn True.intro e (fun z=>nomatch z) h
 | bl y=>cases (show u=Value.bool y from rx); exact PySem.W.kia_one PySem.W.kitx_bool I.kIn True.intro e (fun z=>nomatch z) h
 | int i=>obtain ⟨t,q⟩:=(show ∃ t,u=Value.int i t from rx); cases q; exact PySem.W.kia_one PySem.W.kitx_int I.kIn True.intro e (fun z=>nomatch z) h
 | str y=>obtain ⟨t,q⟩:=(show ∃ t,u=Value.str y t from rx); cases q; exact PySem.W.kia_one PySem.W.kitx_str I.kIn True.intro e (fun z=>nomatch z) h
 | flt y=>obtain ⟨t,q⟩:=(show ∃ t,u=Value.float y t from rx); cases q; exact PySem.W.kia_one PySem.W.kitx_float I.kIn True.intro e (fun z=>nomatch z) h
 | @lst a xs ea =>
  cases (show u=Value.ref a from rx)
  obtain ⟨_,_,n,_,h1⟩:=(show ObjOk X.prog X.w H s.heap a (.lst xs) from I.hok a _ ea)
  exact PySem.W.kia_one PySem.W.kitx_list I.kIn ⟨_,h1,rfl⟩ e (fun z=>nomatch z) h
 | @frz a ob xs ea =>
  cases (show u=Value.ref a from rx)
  obtain ⟨_,_,_,n,_,h1⟩:=(show ObjOk X.prog X.w H s.heap a (.frz ob (.lst xs)) from I.hok a _ ea)
  exact PySem.W.kia_one PySem.W.kitx_list I.kIn ⟨_,h1,rfl⟩ e (fun z=>nomatch z) h
 | @tup a xs ea =>
  cases (show u=Value.ref a from rx)
  obtain ⟨_,_,_,p⟩:=(show ObjOk X.prog X.w H s.heap a (.tup xs) from I.hok a _ ea)
  obtain ⟨o,h1,h2,_⟩:=p
  exact PySem.W.kia_one PySem.W.kitx_tuple I.kIn ⟨o,h1,h2⟩ e (fun z=>nomatch z) h
 | @dK a kvs ea =>
  cases (show u=Value.ref a from rx)
  obtain ⟨_,_,vs,_,p⟩:=(show ObjOk X.prog X.w H s.heap a (.dK kvs) from I.hok a _ ea)
  obtain ⟨o,es,ep,h1,h2,_⟩:=p
  exact PySem.W.kia_one PySem.W.kitx_dict I.kIn ⟨o,h1,h2.1⟩ e (fun z=>nomatch z) h
 | @dT a kvs ea =>
  cases (show u=Value.ref a from rx)
  obtain ⟨_,_,xs,_,o,es,ep,h1,h2,_⟩:=(show ObjOk X.prog X.w H s.heap a (.dT kvs) from I.hok a _ ea)
  exact PySem.W.kia_one PySem.W.kitx_dict I.kIn ⟨o,h1,h2.1⟩ e (fun z=>nomatch z) h
 | @ins a C dx fs ea cl ha hn htk hm =>
  cases (show u=Value.ref a from rx)
  obtain ⟨mA,O,_⟩:=ins_get I.hok ea
  obtain ⟨od,J,_⟩:=O.look
  exact PySem.W.kia_one (PySem.W.kitx_own (cl.get _) cl.hd ha hn htk hm) I.kIn J e (fun z=>nomatch z) h
end
end L2
namespace L2
open PySem PySem.Spec PyProof.Rows
structure Room (k:Nat) (A:Around):Prop where
 hd:A.handled=none
 dp:A.depth + 3 * k + 5 < recursionLimit
 un:A.units + 16 * k + 200 < cLine
theorem Room.mono {j k:Nat} {A:Around} (r:Room k A) (h:j ≤ k):Room j A:=⟨r.hd,by have:=r.dp; omega,by have:=r.un; omega⟩
theorem Room.deeper {k:Nat} {A:Around} (r:Room (k + 1) A) (env:Env):Room k (A.deeper env) :=
 ⟨r.hd,by have:=r.dp; show A.depth + 1 + 3 * k + 5 < _; omega,by have:=r.un; show A.units + 3 + 16 * k + 200 < _; omega⟩
theorem make_depth {A:Around} {C:Addr} {us:List Value} {kw:List (Str × Value)}:(A.under (.builtin "type.__call__" ⟨.ref C :: us,kw⟩)).depth=A.depth + 1:=by
 first | rfl | simp [Around.under,Code.weight,Code.isCreation,Code.isGuard,Code.isCaller,Code.frames,Code.isFrame,guardIds]
theorem make_units {A:Around} {C:Addr} {us:List Value} {kw:List (Str × Value)}:(A.under (.builtin "type.__call__" ⟨.ref C :: us,kw⟩)).units=A.units + 1:=by
 first | rfl | simp [Around.under,Code.cUnits,Code.frames,Code.isFrame]
theorem Room.make {k:Nat} {A:Around} (r:Room (k + 1) A) (C:Addr) (us:List Value) (kw:List (Str × Value)):Room k (A.under (.builtin "type.__call__" ⟨.ref C :: us,kw⟩)) :=
 ⟨r.hd,by have:=r.dp; rw [make_depth]; omega,by have:=r.un; rw [make_units]; omega⟩
theorem Room.depth {k:Nat} {A:Around} (r:Room k A):A.depth < recursionLimit:=by have:=r.dp; omega
theorem Room.units {k:Nat} {A:Around} (r:Room k A):A.units + 64 < cLine:=by have:=r.un; omega
def tNil:TA:=fun _ H Q=>Q [] H
def tCons (ta:TE) (tr:TA):TA:=fun σ H Q=>ta σ H fun x H1=>tr σ H1 fun xs H2=>Q (x :: xs) H2
section
variable {X:Cx} {e:Expr} {es:List Expr} {te:TE} {t:TA} {pos:Pos}
theorem pa_nil:PA X [] tNil:=fun _ _ _ _ H Q I h=>Calls.spliced_nil ⟨[],H,I,.nil,h⟩
theorem pa_cons (ha:PE X e te) (hr:PA X es t) (hs:starEach (e :: es) X.env=(false,eval e X.env) :: starEach es X.env:=by rfl):PA X (e :: es) (tCons te t):=by
 intro pos pins s σ H Q I h
 rw [hs]
 show wpAny _ _ (spliced ((false,eval e X.env) :: backTo pos (starEach es X.env))) _ _ s
 refine Calls.spliced_cons (thn (ha pins s σ H _ I h) fun u s1 ⟨x,H1,I1,r1,q1⟩=>?_)
 exact thn (hr pos pins s1 σ H1 _ I1 q1) fun us s2 ⟨xs,H2,I2,r2,q2⟩=>⟨x :: xs,H2,I2,.cons r1 r2,q2⟩
def tTup (t:TA):TE:=fun σ H Q=>t σ H fun xs H1=>xs.length ≤ sizeLine∧∀ p,H1 p=none→Q (.ref p) (upd H1 p (.tup xs))
def tLst (t:TA):TE:=fun σ H Q=>t σ H fun xs H1=>xs.length ≤ sizeLine∧∀ p,H1 p=none→Q (.ref p) (upd H1 p (.lst xs))
theorem pe_tup {x1} (h:PA X es t):PE X (.Tuple es x1 pos) (tTup t):=by
 intro pins s σ H Q I hq
 refine wpAny_Tuple_spliced (thn (h pos pins s σ H _ I hq) fun us s1 ⟨xs,H1,I1,r,z,q⟩=>⟨by rw [← r.length]; exact z,?_⟩)
 have hf:H1 s1.heap.objs.size=none:=I1.hok.fresh (Nat.le_refl _)
 refine ⟨.ref s1.heap.objs.size,upd H1 s1.heap.objs.size (.tup xs),I1.laid (t':=s1.toks) (fun b u e=>Heap.get?_push_of_some _ e) (Nat.le_refl _) ?_,rfl,q _ hf⟩
 exact ⟨z,us,r,⟨_,Heap.get?_push_size _ rfl,rfl,_,rfl⟩⟩
theorem pe_lst (h:PA X es t):PE X (.List es pos) (tLst t):=by
 intro pins s σ H Q I hq
 refine wpAny_List_spliced (thn (h pos pins s σ H _ I hq) fun us s1 ⟨xs,H1,I1,r,z,q⟩=>⟨by rw [← r.length]; exact z,?_⟩)
 have hf:H1 s1.heap.objs.size=none:=I1.hok.fresh (Nat.le_refl _)
 refine ⟨.ref s1.heap.objs.size,upd H1 s1.heap.objs.size (.lst xs),I1.laid (t':=s1.toks) (fun b u e=>Heap.get?_push_of_some _ e) (Nat.le_refl _) ?_,rfl,q _ hf⟩
 exact ⟨z,us,0,r,Heap.get?_push_size _ rfl⟩
end
abbrev Sp:=List V→Hp→VK→XK→Prop
abbrev CXT:=List Env→Hp→Shared→XK→Value→Shared→Prop
structure Env0 (P:Program) (w:World) (K:PySem.W.Frag) (mg:Str→Option Value) (base:Heap) (A:Around) (outer:List Env) (s:Shared) (H:Hp):Prop where
 frames:A.frames=some outer
 mod:Mod K mg base
 bs:∀ b o,base.get? b=some o→s.heap.get? b=some o∧H b=none
 bsz:base.objs.size ≤ s.heap.objs.size
 funs:s.heap.FunFrames base outer
 frf:∀ b ∈ frs outer,H b=none
 hok:HOk P w H s.heap
 bare:AllBare s.gens
def CE (outer:List Env) (P:Program) (w:World) (H:Hp) (s:Shared) (Q:VK) (u:Value) (s':Shared):Prop :=
 ∃ v H',s'.os=s.os∧AllBare s'.gens∧Un (frs outer) [] H H' s.heap s'.heap∧HOk P w H' s'.heap∧RelV v u∧Q v H'
def CR (CX:CXT) (outer:List Env) (P:Program) (w:World) (H:Hp) (s:Shared) (Q:VK) (E:XK) (r:Result) (s':Shared):Prop :=
 match r with
 | .ok (.ret u)=>CE outer P w H s Q u s'
 | .ok _=>False
 | .error e=>CX outer H s E e s'
structure FnOk (P:Program) (w:World) (K:PySem.W.Frag) (mg:Str→Option Value) (base:Heap) (CX:CXT) (k:Nat) (f:Addr) (fd:FuncData) (ps:List Str) (sp:Sp):Prop where
 len:∀ vs H Q E,sp vs H Q E→vs.length=ps.length
 run:∀ (A:Around) (outer:List Env) (s:Shared) (H:Hp) (args:Args) (us:List Value) (vs:List V) (Q:VK) (E:XK),Room k A→Env0 P w K mg base A outer s H→BindsTo s fd args (ps.zip us)→Vals vs us→sp vs H Q E →
  codeAny (model P w) A (.call (.ref f) args) (CR CX outer P w H s Q E) s
theorem Env0.make {P:Program} {w:World} {K:PySem.W.Frag} {mg:Str→Option Value} {base:Heap} {A:Around} {outer:List Env} {s:Shared} {H:Hp} (e:Env0 P w K mg base A outer s H) (C:Addr) (us:List Value) (kw:List (Str × Value)) :
  Env0 P w K mg base (A.under (.builtin "type.__call__" ⟨.ref C :: us,kw⟩)) outer s H:=⟨by first | exact e.frames | (simpa [Around.under,Code.envs,Code.isFrame,pushEnvs] using e.frames),e.mod,e.bs,e.bsz,e.funs,e.frf,e.hok,e.bare⟩
section
variable {X:Cx} {pins:List (Addr × Obj)} {σ:St} {H:Hp} {s s':Shared}
theorem Inv.env0 (I:Inv X pins σ H s):Env0 X.prog X.w X.K X.mg X.base X.A X.stack s H :=
 ⟨I.ok.frames,I.ok.mod,I.bs,Nat.le_trans I.ok.bsz I.sz,I.stack,I.stkFree,I.hok,I.bare⟩
theorem Inv.after {Q:VK} {u:Value} (I:Inv X pins σ H s) (h:CE X.stack X.prog X.w H s Q u s'):EP X pins σ Q u s':=by
 obtain ⟨v,H',os,bare,un,hok,r,q⟩:=h
 obtain ⟨hh,g,d,t,os'⟩:=s'
 obtain rfl:os'=s.os:=os
 exact ⟨v,H',I.call (h':=hh) (g':=g) (d':=d) (t':=t) (ch:=[]) un hok bare (fun b z=>absurd z (by simp)),r,q⟩
end
def tCall (sp:Sp) (dvs:List V) (E:XK) (t:TA):TE:=fun σ H Q=>t σ H fun vs H1=>sp (vs ++ dvs) H1 Q E
def tMake (C:Addr) (sp:Sp) (dvs:List V) (E:XK) (t:TA):TE:=fun σ H Q=>t σ H fun vs H1=>∀ x dx,H1 x=none→H1 dx=none→dx ≠ x →
 sp (.ref x :: (vs ++ dvs)) (upd (upd H1 dx (.own x)) x (.ins C dx [])) (fun v H2=>v=.non∧Q (.ref x) H2) E
def Binds (K:PySem.W.Frag) (fd:FuncData) (ps:List Str) (ds:List Value):Prop :=
 ∀ (s:Shared) (us:List Value),K.In s.heap→(us ++ ds).length=ps.length→BindsTo s fd ⟨us,[]⟩ (ps.zip (us ++ ds))
theorem Binds.all {K:PySem.W.Frag} {fd:FuncData} {ps:List Str} (h:∀ us:List Value,us.length=ps.length→bindArgs fd ⟨us,[]⟩=pure (ps.zip us)):Binds K fd ps []:=fun s us _ hl=>by
 rw [List.append_nil] at hl ⊢
 exact .of_eq (h us hl)
def Passes (CX:CXT) (X:Cx) (E:XK):Prop:=∀ (pins:List (Addr × Obj)) (σ:St) (H:Hp) (s:Shared) (e:Value) (s':Shared),Inv X pins σ H s→CX X.stack H s E e s'→X.xe e s'
section
variable {X:Cx} {CX:CXT} {k:Nat} {f C:Addr} {fd:FuncData} {ps:List Str} {sp:Sp} {dvs:List V} {ds:List Value} {E:XK} {x m:Str} {p pos apos:Pos} {e o:Expr} {es:List Expr} {ta:TE} {t:TA}
theorem run_fn {pins:List (Addr × Obj)} {σ:St} {H:Hp} {s:Shared} {Q:VK} {us:List Value} {vs:List V} (F:FnOk X.prog X.w X.K X.mg X.base CX k f fd ps sp) (hr:Room k X.A) (hb:Binds X.K fd ps ds) (hd:Vals dvs ds) (hx:Passes CX X E)
  (I:Inv X pins σ H s) (r:Vals vs us) (h:sp (vs ++ dvs) H Q E):wpAny (model X.prog X.w) X.A (call (.ref f) us) (EP X pins σ Q) X.xe s:=by
 have r2:Vals (vs ++ dvs) (us ++ ds):=r.append hd
 have hl:(us ++ ds).length=ps.length:=by rw [← r2.length]; exact F.len _ _ _ _ h
 refine wpAny_call (codeAny_mono (F.run X.A X.stack s H ⟨us,[]⟩ (us ++ ds) (vs ++ dvs) Q E hr I.env0 (hb s us I.kIn hl) r2 h) fun r s' hq=>?_)
 cases r with
 | error e=>exact hx pins σ H s e s' I hq
 | ok fl =>
  cases fl with
  | ret u=>exact I.after hq
  | next=>exact False.elim hq
  | brk=>exact False.elim hq
  | cont=>exact False.elim hq
theorem pe_call (F:FnOk X.prog X.w X.K X.mg X.base CX k f fd ps sp) (hr:Room k X.A) (hg:Gl X x) (hm:X.mg x=some (.ref f)) (hk:PySem.W.keepIn X.K (.ref f)=true) (hb:Binds X.K fd ps ds) (hd:Vals dvs ds) (hx:Passes CX X E)
  (ha:PA X (e :: es) t) (hdb:(x == ("__debug__":Str))=false:=by decide) (he:starEach (e :: es) X.env=(false,eval e X.env) :: starEach es X.env:=by rfl) (hpl:(backTo pos (starEach es X.env)).any (·.1)=false:=by rfl) :
  PE X (.Call (.Name x p) (e :: es) [] pos) (tCall sp dvs E t):=by
 intro pins s σ H Q I h
 refine wpAny_Call_Name_kw (ld_glob I hg hm ?_ hdb)
 refine PySem.W.callWith_K (h₀:=X.base) I.ok.mod.kin hk (thn (ha pos pins s σ H _ I h) fun us s1 ⟨vs,H1,I1,r,q⟩=>⟨I1.kIn,?_⟩) he hpl
 exact run_fn F hr hb hd hx I1 r q
structure Mk (K:PySem.W.Frag) (C f:Addr):Prop where
 makes:PySem.W.makesIn K C=true
 init:PySem.W.findIn K (.ref C) "__init__"=some (some (.ref f))
 fn:PySem.W.isFn K (.ref f)=true
 kp:PySem.W.keepIn K (.ref C)=true
theorem run_make {pins:List (Addr × Obj)} {σ:St} {H:Hp} {s:Shared} {Q:VK} {us:List Value} {vs:List V} (M:Mk X.K C f) (F:FnOk X.prog X.w X.K X.mg X.base CX k f fd ps sp) (hr:Room (k + 1) X.A) (hb:Binds X.K fd ps ds) (hd:Vals dvs ds)
  (hx:Passes CX X E) (I:Inv X pins σ H s) (r:Vals vs us)
  (h:∀ x dx,H x=none→H dx=none→dx ≠ x→sp (.ref x :: (vs ++ dvs)) (upd (upd H dx (.own x)) x (.ins C dx [])) (fun v H2=>v=.non∧Q (.ref x) H2) E) :
  wpAny (model X.prog X.w) X.A (call (.ref C) us) (EP X pins σ Q) X.xe s:=by
 have hq:=h (s.heap.objs.size + 1) s.heap.objs.size (I.hok.fresh (Nat.le_succ _)) (I.hok.fresh (Nat.le_refl _)) (Nat.ne_of_lt (Nat.lt_succ_self _))
 have I2:=Inv.made (C:=C) I
 have r2:Vals (V.ref (s.heap.objs.size + 1) :: (vs ++ dvs)) (Value.ref (s.heap.objs.size + 1) :: (us ++ ds)):=.cons rfl (r.append hd)
 have hl:(Value.ref (s.heap.objs.size + 1) :: us ++ ds).length=ps.length:=by
  have e:=r2.length
  rw [F.len _ _ _ _ hq] at e
  exact e.symm
 refine wpAny_call (make_map (f:=f) I.kIn M.makes M.init (beq_iff_eq.mp M.fn) (codeAny_mono (F.run _ X.stack _ _ ⟨Value.ref (s.heap.objs.size + 1) :: us,[]⟩ (Value.ref (s.heap.objs.size + 1) :: (us ++ ds)) _ _ E (hr.make C us [])
  (I2.env0.make C us []) (hb _ (Value.ref (s.heap.objs.size + 1) :: us) I2.kIn hl) r2 hq) fun r s' hq'=>?_))
 cases r with
 | error e=>exact hx pins σ _ _ e s' I2 hq'
 | ok fl =>
  cases fl with
  | ret u =>
   obtain ⟨v,H',I3,rv,ev,q3⟩:=I2.after hq'
   subst ev
   exact ⟨rv,⟨V.ref (s.heap.objs.size + 1),H',I3,rfl,q3⟩⟩
  | next=>exact False.elim hq'
  | brk=>exact False.elim hq'
  | cont=>exact False.elim hq'
theorem pe_make (M:Mk X.K C f) (F:FnOk X.prog X.w X.K X.mg X.base CX k f fd ps sp) (hr:Room (k + 1) X.A) (hg:Gl X x) (hm:X.mg x=some (.ref C)) (hb:Binds X.K fd ps ds) (hd:Vals dvs ds) (hx:Passes CX X E)
  (ha:PA X (e :: es) t) (hdb:(x == ("__debug__":Str))=false:=by decide) (he:starEach (e :: es) X.env=(false,eval e X.env) :: starEach es X.env:=by rfl) (hpl:(backTo pos (starEach es X.env)).any (·.1)=false:=by rfl) :
  PE X (.Call (.Name x p) (e :: es) [] pos) (tMake C sp dvs E t):=by
 intro pins s σ H Q I h
 refine wpAny_Call_Name_kw (ld_glob I hg hm ?_ hdb)
 refine PySem.W.callWith_K (h₀:=X.base) I.ok.mod.kin M.kp (thn (ha pos pins s σ H _ I h) fun us s1 ⟨vs,H1,I1,r,q⟩=>⟨I1.kIn,?_⟩) he hpl
 exact run_make M F hr hb hd hx I1 r q
end
section
variable {X:Cx} {CX:CXT} {k:Nat} {f C:Addr} {fd:FuncData} {ps ks:List Str} {sp:Sp} {E:XK} {x m:Str} {p pos apos kpos:Pos} {e o:Expr} {es:List Expr} {kws:List Keyword} {te ta:TE} {t tk:TA} {nm:Option Str}
variable {g:List Value→List Value→List Value} {gV:List V→List V→List V}
end
structure FnScope (N P:List Str) (sc:Scope):Prop where
 kind:sc.kind=.function
 co:sc.isCoroutine=false
 gen:sc.isGenerator=false
 nd:N.Nodup
 pre:N.take P.length=P
 par:∀ x ∈ P,sc.names.lookup x=some .local ∨ sc.names.lookup x=some .cell
 nofree:∀ y ∈ sc.names,y.2 ≠ .free
theorem bindL_out {kindOf:Str→Option NameKind} {x:Str}:∀ {binds:List (Str × Value)} {m:Str→Option Value},(∀ v,(x,v) ∉ binds)→bindL kindOf binds m x=m x
 | [],_,_=>rfl
 | (n,v) :: r,m,h=>by
  unfold bindL
  rw [bindL_out fun w hw=>h w (List.mem_cons_of_mem _ hw)]
  split
  ·have:x ≠ n:=by rintro rfl; exact h v List.mem_cons_self
   simp [this]
  ·rfl
theorem bindC_out {kindOf:Str→Option NameKind} {x:Str}:∀ {binds:List (Str × Value)} {m:Str→Option Value},(∀ v,(x,v) ∉ binds)→bindC kindOf binds m x=m x
 | [],_,_=>rfl
 | (n,v) :: r,m,h=>by
  unfold bindC
  rw [bindC_out fun w hw=>h w (List.mem_cons_of_mem _ hw)]
  split
  ·rfl
  ·have:x ≠ n:=by rintro rfl; exact h v List.mem_cons_self
   simp [this]
theorem bindL_get {kindOf:Str→Option NameKind} {x:Str} {v:Value}:∀ {P:List Str} {vs:List Value} {i:Nat} {m:Str→Option Value},P.Nodup→P[i]?=some x→vs[i]?=some v→kindOf x=some .local →
  bindL kindOf (P.zip vs) m x=some v
 | [],_,_,_,_,h,_,_=>by simp at h
 | _ :: _,[],_,_,_,_,h,_=>by simp at h
 | p :: P,w :: vs,0,m,nd,h1,h2,hk=>by
  simp at h1 h2; subst h1; subst h2
  show bindL kindOf ((p,w) :: P.zip vs) m p=_
  unfold bindL
  rw [bindL_out fun v hv=>(List.nodup_cons.mp nd).1 (List.of_mem_zip hv).1,if_pos hk]
  simp
 | p :: P,w :: vs,i + 1,m,nd,h1,h2,hk=>by
  show bindL kindOf ((p,w) :: P.zip vs) m x=_
  unfold bindL
  exact bindL_get (i:=i) (List.nodup_cons.mp nd).2 (by simpa using h1) (by simpa using h2) hk
theorem bindC_get {kindOf:Str→Option NameKind} {x:Str} {v:Value}:∀ {P:List Str} {vs:List Value} {i:Nat} {m:Str→Option Value},P.Nodup→P[i]?=some x→vs[i]?=some v→kindOf x ≠ some .local →
  bindC kindOf (P.zip vs) m x=some v
 | [],_,_,_,_,h,_,_=>by simp at h
 | _ :: _,[],_,_,_,_,h,_=>by simp at h
 | p :: P,w :: vs,0,m,nd,h1,h2,hk=>by
  simp at h1 h2; subst h1; subst h2
  show bindC kindOf ((p,w) :: P.zip vs) m p=_
  unfold bindC
  rw [bindC_out fun v hv=>(List.nodup_cons.mp nd).1 (List.of_mem_zip hv).1,if_neg hk]
  simp
 | p :: P,w :: vs,i + 1,m,nd,h1,h2,hk=>by
  show bindC kindOf ((p,w) :: P.zip vs) m x=_
  unfold bindC
  exact bindC_get (i:=i) (List.nodup_cons.mp nd).2 (by simpa using h1) (by simpa using h2) hk
def start (N:List Str) (vs:List V):St:=vs.map some ++ List.replicate (N.length - vs.length) none
def cxOf (CX:CXT) (P:Program) (w:World) (K:PySem.W.Frag) (mg:Str→Option Value) (base:Heap) (N:List Str) (qual:Str) (scope:Scope) (f:Addr) (cd:Value) (A:Around) (outer:List Env) (s:Shared) (H:Hp) (E:XK):Cx where
 prog:=P
 w:=w
 K:=K
 mg:=mg
 base:=base
 A:=A.deeper (envOfC qual scope s.heap.objs.size f cd)
 N:=N
 s₀:=s
 H₀:=H
 env:=envOfC qual scope s.heap.objs.size f cd
 outer:=outer
 stack:=envOfC qual scope s.heap.objs.size f cd :: outer
 ex:=[]
 calm:=true
 fn:=fun _=>true
 pn:=[]
 xe:=fun e s'=>wpAny (model P w) (A.deeper (envOfC qual scope s.heap.objs.size f cd)) (leaving (envOfC qual scope s.heap.objs.size f cd) e) (fun _ s''=>CX outer H s E e s'') (fun e' s''=>CX outer H s E e' s'') s'
theorem cell_has {sc:Scope} {n:Nat} {x:Str} (h:sc.names.lookup x=some .cell):∃ c,(cellsFrom n sc.names []).lookup x=some c:=by
 have q:=PySem.W.cellsFrom_some sc.names n [] (.inl h)
 exact Option.isSome_iff_exists.mp q
theorem inv_start {CX:CXT} {P:Program} {w:World} {K:PySem.W.Frag} {mg:Str→Option Value} {base:Heap} {N ps:List Str} {qual:Str} {scope:Scope} {f:Addr} {cd:Value} {A:Around} {outer:List Env} {s s1:Shared} {H:Hp} {E:XK} {us:List Value} {vs:List V}
  (S:FnScope N ps scope) (hd:A.handled=none) (e0:Env0 P w K mg base A outer s H) (hl:vs.length=ps.length) (r:Vals vs us)
  (x:InCallC s s.heap.objs.size (bindL (envOfC qual scope s.heap.objs.size f cd).kindOf (ps.zip us) fun _=>none) (cellsFrom (s.heap.objs.size + 1) scope.names []) (bindC (envOfC qual scope s.heap.objs.size f cd).kindOf (ps.zip us) fun _=>none) s1) :
  Inv (cxOf CX P w K mg base N qual scope f cd A outer s H E) [] (start N vs) H s1:=by
 have hpl:ps.length ≤ N.length:=by have:=congrArg List.length S.pre; rw [List.length_take] at this; omega
 obtain ⟨h1,tk,rfl,hk⟩:=x.done
 have noA:∀ b:Addr,b ∉ (cxOf CX P w K mg base N qual scope f cd A outer s H E).ex:=fun b z=>absurd (show b ∈ ([]:List Addr) from z) (by simp)
 refine ⟨⟨e0.mod,S.kind,rfl,rfl,Nat.le_refl _,fun y z c h1 h2=>?_,fun y hy=>?_,fun y c _ h=>?_,fun _=>hd,Around.frames_deeper e0.frames,.inr ⟨rfl,rfl⟩,fun b z=>absurd z (noA b),e0.bs,e0.bsz,fun b _ _=>noA b,fun b z=>absurd z (noA b),e0.funs,e0.frf⟩,
  rfl,e0.bare,Un.kept hk,⟨_,x.toInCall.ns,fun i y v h1 h2 h3=>?_⟩,fun y c h=>⟨_,x.cell y c h⟩,e0.hok.fresh (Nat.le_refl _),fun y c h=>?_,fun p hp=>absurd (show p ∈ ([]:List (Addr × Obj)) from hp) (by simp),e0.hok.kept hk,?_⟩
 ·exact name_of_addr x.apart (PySem.mem_of_lookup h1) (PySem.mem_of_lookup h2)
 ·have hy:scope.names.lookup y=some .cell ∨ scope.names.lookup y=some .free:=hy
  rcases hy with hy | hy
  ·exact cell_has hy
  ·exact absurd rfl (S.nofree _ (PySem.mem_of_lookup hy))
 ·exact Nat.le_of_lt (x.above y c (PySem.mem_of_lookup h))
 ·have hi:i < vs.length:=by
   unfold start at h2
   by_cases hi:i < vs.length
   ·exact hi
   ·rw [List.getElem?_append_right (by simpa using hi)] at h2
    rw [List.getElem?_replicate] at h2
    split at h2 <;> cases h2
  have ha:vs[i]?=some v:=by
   unfold start at h2
   rw [List.getElem?_append_left (by simpa using hi),List.getElem?_map] at h2
   cases e:vs[i]? with
   | none=>rw [e] at h2; cases h2
   | some a=>rw [e] at h2; cases h2; rfl
  obtain ⟨u,hu,rv⟩:=r.get ha
  have hp:ps[i]?=some y:=by
   rw [← S.pre,List.getElem?_take_of_lt (by omega)]; exact h1
  have ndP:ps.Nodup:=by rw [← S.pre]; exact S.nd.sublist (List.take_sublist _ _)
  refine ⟨u,rv,?_⟩
  rcases S.par y (List.mem_of_getElem? hp) with k | k
  ·exact .inl ⟨k,bindL_get ndP hp hu k⟩
  ·obtain ⟨c,e⟩:=cell_has (n:=s.heap.objs.size + 1) k
   refine .inr ⟨.inl k,c,e,?_⟩
   have q:=x.cell y c e
   rw [bindC_get ndP hp hu (by show scope.names.lookup y ≠ _; rw [k]; decide)] at q
   exact q
 ·exact e0.hok.fresh (Nat.le_of_lt (x.above y c (PySem.mem_of_lookup h)))
 ·unfold start
  show _=N.length
  rw [List.length_append,List.length_map,List.length_replicate]
  omega
theorem fn_of {CX:CXT} {P:Program} {w:World} {K:PySem.W.Frag} {mg:Str→Option Value} {base:Heap} {k:Nat} {f:Addr} {name qual:Str} {params:Arguments} {body:List Stmt} {scope:Scope} {dV kV doc pm cdv ct oc:Value} {an od:Option Addr}
  {osl:Array (Option Value)} {N ps:List Str} {sp:Sp} (lk:K.lookup f=some ⟨oc,od,.func (PySem.W.fnOf name qual params body scope dV kV doc pm an cdv ct),osl⟩) (hcd:PySem.W.codeIn K cdv qual=true) (S:FnScope N ps scope)
  (len:∀ vs H Q E,sp vs H Q E→vs.length=ps.length)
  (hbody:∀ (A:Around) (outer:List Env) (s:Shared) (H:Hp) (vs:List V) (Q:VK) (E:XK),Room k (A.deeper (envOfC qual scope s.heap.objs.size f cdv))→sp vs H Q E →
   ∃ t,PSs (cxOf CX P w K mg base N qual scope f cdv A outer s H E) body t∧t { nx:=fun _ H'=>Q .non H',rt:=Q } (start N vs) H) :
  FnOk P w K mg base CX (k + 1) f (PySem.W.fnOf name qual params body scope dV kV doc pm an cdv ct) ps sp:=by
 refine ⟨len,fun A outer s H args us vs Q E hr e0 hb r hsp=>?_⟩
 have hl:=len _ _ _ _ hsp
 have KX:K.In s.heap:=e0.mod.kin.keeps fun b o e=>(e0.bs b o e).1
 have lim:s.heap.NoLimit:=e0.mod.nolimit.keeps fun b o e=>(e0.bs b o e).1
 have hkind:∀ y ∈ ps.zip us,scope.names.lookup y.1=some .local ∨ (scope.names.lookup y.1=some .cell∧((cellsFrom (s.heap.objs.size + 1) scope.names []).lookup y.1).isSome=true):=fun ⟨n,v⟩ hy=>by
  rcases S.par n (List.of_mem_zip hy).1 with q | q
  ·exact .inl q
  ·exact .inr ⟨q,PySem.W.cellsFrom_some _ _ _ (.inl q)⟩
 refine codeAny_call_function hr.depth (KX _ _ lk) rfl S.co S.gen rfl (PySem.W.codeRec_of KX hcd) (hb _ _ _ _ ?_)
 refine wpAny_newFunctionEnv_cells S.kind hkind fun env he s1 x=>?_
 subst he
 refine ⟨lim.keeps x.toInCall.keep,codeAny_func ?_⟩
 obtain ⟨t,ht,hq⟩:=hbody A outer s H vs Q E (hr.deeper _) hsp
 have I:Inv (cxOf CX P w K mg base N qual scope f cdv A outer s H E) [] (start N vs) H s1:=inv_start S hr.hd e0 hl r x
 refine wpAny_mono (ht [] s1 (start N vs) H _ I hq) (fun fl s' hs=>?_) fun e s' hs=>hs
 have fin:∀ {σ':St} {H':Hp} {v:V} {u:Value},Inv (cxOf CX P w K mg base N qual scope f cdv A outer s H E) [] σ' H' s'→RelV v u→Q v H'→CE outer P w H s Q u s' :=
  fun {σ' H' v u} J rv q=>⟨v,H',J.os,J.bare,J.base,J.hok,rv,q⟩
 cases fl with
 | ret u =>
  obtain ⟨v,σ',H',J,rv,q⟩:=hs
  exact fin J rv q
 | next =>
  obtain ⟨σ',H',J,q⟩:=hs
  exact fin (v:=V.non) (u:=Value.none) J rfl q
 | brk =>
  obtain ⟨_,_,_,q⟩:=hs
  exact False.elim q
 | cont =>
  obtain ⟨_,_,_,q⟩:=hs
  exact False.elim q
end L2
namespace L2
open PySem PySem.Spec PyProof.Rows
section
variable {X:Cx} {x:Str} {p pos:Pos} {e:Expr} {es:List Expr} {t:TA} {id T:String} {r:List V→Hp→VK→Prop}
def tCB (r:List V→Hp→VK→Prop) (t:TA):TE:=fun σ H Q=>t σ H fun vs H1=>r vs H1 Q
theorem pe_callB (hc:CallR X (.builtin id) r) (hg:Gl X x) (hm:X.mg x=none) (hv:bootBuiltins x=some (.builtin id)) (ha:PA X (e :: es) t) (hn:x ≠ "__name__":=by decide) (hdb:(x == ("__debug__":Str))=false:=by decide)
  (he:starEach (e :: es) X.env=(false,eval e X.env) :: starEach es X.env:=by rfl) (hpl:(backTo pos (starEach es X.env)).any (·.1)=false:=by rfl):PE X (.Call (.Name x p) (e :: es) [] pos) (tCB r t):=by
 intro pins s σ H Q I h
 refine wpAny_Call_Name_kw (ld_blt I hg hm hv ?_ hn hdb)
 exact PyProof.Rows.callWith_builtin1 (thn (ha pos pins s σ H _ I h) fun us s1 ⟨vs,H1,I1,r1,q1⟩=>hc pins s1 σ H1 vs us Q I1 r1 q1) he hpl
theorem pe_callTy (hc:CallR X (.type T) r) (hg:Gl X x) (hm:X.mg x=none) (hv:bootBuiltins x=some (.type T)) (ha:PA X (e :: es) t) (hn:x ≠ "__name__":=by decide) (hdb:(x == ("__debug__":Str))=false:=by decide)
  (he:starEach (e :: es) X.env=(false,eval e X.env) :: starEach es X.env:=by rfl) (hpl:(backTo pos (starEach es X.env)).any (·.1)=false:=by rfl):PE X (.Call (.Name x p) (e :: es) [] pos) (tCB r t):=by
 intro pins s σ H Q I h
 refine wpAny_Call_Name_kw (ld_blt I hg hm hv ?_ hn hdb)
 exact PyProof.Rows.callWith_type1 (thn (ha pos pins s σ H _ I h) fun us s1 ⟨vs,H1,I1,r1,q1⟩=>hc pins s1 σ H1 vs us Q I1 r1 q1) he hpl
end
end L2
namespace HT
open PySem PyProof.Rows
section
open PySem.SeqAt
open PySem.AutoSeq1 (wpAny_loadPart')
open PySem.MeetsSeq PySem.MeetsSeq2 PySem.MeetsSeq3
end
section
variable {prog:Program} {w:World} {A:Around} {E:Value→Shared→Prop} {s:Shared}
def sIx (n d:Nat):Option Int→Nat
 | none=>d
 | some v=>if v < 0 then (v + (n:Int)).toNat else min v.toNat n
theorem sIx_none (n d:Nat):sIx n d none=d:=rfl
end
end HT
namespace L2
open PySem PySem.Spec PyProof.Rows
abbrev TO:=St→Hp→(Option Int→Hp→Prop)→Prop
def PO (X:Cx) (e:Option Expr) (t:TO):Prop :=
 ∀ (pins:List (Addr × Obj)) (s:Shared) (σ:St) (H:Hp) (Q:Option Int→Hp→Prop),Inv X pins σ H s→t σ H Q →
  wpAny (model X.prog X.w) X.A (evalPart e X.env) (fun u s'=>∃ o H',Inv X pins σ H' s'∧IsPart u o∧Q o H') X.xe s
def tNoPart:TO:=fun _ H Q=>Q none H
def tPart (t:TE):TO:=fun σ H Q=>t σ H fun x H1=>∃ i,x=.int i∧Q (some i) H1
theorem intsAre_of {ns:List Int}:∀ {us:List Value},Vals (ns.map V.int) us→IntsAre us ns:=by
 induction ns with
 | nil=>intro us r; rw [List.map_nil] at r; cases r; exact .nil
 | cons n ns ih =>
  intro us r
  rw [List.map_cons] at r
  cases r with
  | cons r1 r2 =>
   obtain ⟨t,e⟩:=r1
   subst e
   exact .cons n t (ih r2)
section
variable {X:Cx} {e:Expr} {te:TE} {lo hi:Option Expr} {tl th:TO} {pos p2:Pos}
theorem po_none:PO X none tNoPart:=by
 intro pins s σ H Q I h
 rw [evalPart_none]
 exact wpAny_pure ⟨none,H,I,.none,h⟩
theorem po_some (h:PE X e te):PO X (some e) (tPart te):=by
 intro pins s σ H Q I hw
 rw [evalPart_some]
 refine thn (h pins s σ H _ I hw) fun u s1 ⟨x,H1,I1,r1,q1⟩=>?_
 obtain ⟨i,rfl,q⟩:=q1
 obtain ⟨t,rfl⟩:=r1
 exact ⟨some i,H1,I1,.int i t,q⟩
def SlR (X:Cx) (r:V→Option Int→Option Int→Hp→VK→Prop):Prop :=
 ∀ (pins:List (Addr × Obj)) (s:Shared) (σ:St) (H:Hp) (x:V) (v vl vu:Value) (lo hi:Option Int) (sl:Addr) (Q:VK),Inv X pins σ H s→RelV x v→s.heap.IsSliceOf sl vl vu .none→IsPart vl lo→IsPart vu hi→r x lo hi H Q →
  ∃ T id,typeLookup (.type T) "__getitem__"=pure (some (.builtin id))∧s.TypeIs v T∧wpAny (model X.prog X.w) X.A (getItem v (.ref sl)) (EP X pins σ Q) X.xe s
def tSl (r:V→Option Int→Option Int→Hp→VK→Prop) (te:TE) (tl th:TO):TE:=fun σ H Q=>te σ H fun x H1=>tl σ H1 fun l H2=>th σ H2 fun u H3=>r x l u H3 Q
theorem pe_slice {r:V→Option Int→Option Int→Hp→VK→Prop} (hr:SlR X r) (he:PE X e te) (hl:PO X lo tl) (hu:PO X hi th):PE X (.Subscript e (.Slice lo hi none p2) pos) (tSl r te tl th):=by
 intro pins s σ H Q I h
 refine Subscript_ (thn (he pins s σ H _ I h) fun v s1 ⟨x,H1,I1,r1,q1⟩=>?_)
 refine wpAny_Slice (thn (hl pins s1 σ H1 _ I1 q1) fun vl s2 ⟨l,H2,I2,pl,q2⟩=>thn (hu pins s2 σ H2 _ I2 q2) fun vu s3 ⟨u,H3,I3,pu,q3⟩=>?_)
 rw [evalPart_none]
 refine wpAny_pure ?_
 have I4:Inv X pins σ H3 { s3 with heap:=s3.heap.push { cls:=.type "slice",data:=.fields #[vl,vu,.none] } }:=I3.kept (t':=s3.toks) fun b ob q=>Heap.get?_push_of_some _ q
 obtain ⟨T,id,hT,ht,hg⟩:=hr pins { s3 with heap:=s3.heap.push { cls:=.type "slice",data:=.fields #[vl,vu,.none] } } σ H3 x v vl vu l u s3.heap.objs.size Q I4 r1 (Heap.IsSliceOf.new ..) pl pu q3
 show wpAny (model X.prog X.w) X.A (subscriptTail e (.Slice lo hi none p2) v (.ref s3.heap.objs.size)) (EP X pins σ Q) X.xe { s3 with heap:=s3.heap.push { cls:=.type "slice",data:=.fields #[vl,vu,.none] } }
 exact tail_any (ops:=[.ref s3.heap.objs.size,v]) ht hT hg (by with_unfolding_all rfl)
def cutV (xs:List V) (lo hi:Option Int):List V:=(xs.drop (HT.sIx xs.length 0 lo)).take (HT.sIx xs.length xs.length hi - HT.sIx xs.length 0 lo)
theorem cutV_length (xs:List V) (lo hi:Option Int):(cutV xs lo hi).length ≤ xs.length:=by
 unfold cutV
 rw [List.length_take,List.length_drop]
 omega
end
end L2
namespace L2
open PySem PySem.Spec PyProof.Rows
def ixN (n:Nat) (i:Int):Option Nat:=if 0 ≤ i then (if i < n then some i.toNat else none) else if -(n:Int) ≤ i then some (i + n).toNat else none
def atI {α:Type} (xs:List α) (i:Int):Option α:=(ixN xs.length i).bind fun j=>xs[j]?
theorem ixN_seq {n:Nat} {i:Int} {j:Nat} (h:ixN n i=some j):seqIndex? i n=some j∧j < n∧-(n:Int) ≤ i∧i < n:=by
 unfold ixN at h
 by_cases h0:0 ≤ i
 ·rw [if_pos h0] at h
  by_cases h1:i < n
  ·rw [if_pos h1] at h
   have e:i.toNat=j:=Option.some.inj h
   exact ⟨by rw [seqIndex_of h0 h1,e],by omega,by omega,h1⟩
  ·rw [if_neg h1] at h; cases h
 ·rw [if_neg h0] at h
  by_cases h1:-(n:Int) ≤ i
  ·rw [if_pos h1] at h
   have e:(i + n).toNat=j:=Option.some.inj h
   exact ⟨by rw [seqIndex_neg (by omega) h1,e],by omega,h1,by omega⟩
  ·rw [if_neg h1] at h; cases h
theorem atI_get {α:Type} {xs:List α} {i:Int} {v:α} (h:atI xs i=some v):∃ j,seqIndex? i xs.length=some j∧xs[j]?=some v∧j < xs.length∧-(xs.length:Int) ≤ i∧i < xs.length:=by
 unfold atI at h
 cases e:ixN xs.length i with
 | none=>rw [e] at h; cases h
 | some j =>
  rw [e] at h
  obtain ⟨h1,h2,h3,h4⟩:=ixN_seq e
  exact ⟨j,h1,h,h2,h3,h4⟩
theorem atI_nat {α:Type} {xs:List α} {j:Nat} {v:α} (h:xs[j]?=some v):atI xs (j:Int)=some v:=by
 have hj:j < xs.length:=(List.getElem?_eq_some_iff.mp h).1
 have e:ixN xs.length (j:Int)=some j:=by
  unfold ixN
  rw [if_pos (by omega),if_pos (by omega)]; simp
 unfold atI; rw [e]; exact h
theorem atI_last {α:Type} (xs:List α) (v:α):atI (xs ++ [v]) (-1)=some v:=by
 have hl:(xs ++ [v]).length=xs.length + 1:=by simp
 have e:ixN (xs ++ [v]).length (-1)=some xs.length:=by
  unfold ixN
  rw [hl,if_neg (by decide),if_pos (by omega)]
  congr 1
  omega
 unfold atI
 rw [e]
 show (xs ++ [v])[xs.length]?=some v
 simp
def PlainIx (b:Expr):Prop:=∀ o i,subscripted b false o i=operate [o,i] (getItem o i)
def IxR (X:Cx) (r:R2):Prop :=
 ∀ (value slice:Expr) (pins:List (Addr × Obj)) (s:Shared) (σ:St) (H:Hp) (x y:V) (v u:Value) (Q:VK),Inv X pins σ H s→RelV x v→RelV y u→r x y H Q →
  subscripted slice false v u=operate [v,u] (getItem v u)→wpAny (model X.prog X.w) X.A (subscriptTail value slice v u) (EP X pins σ Q) X.xe s
def MtR (X:Cx) (id:String) (r:V→List V→Hp→VK→Prop):Prop :=
 ∀ (pins:List (Addr × Obj)) (s:Shared) (σ:St) (H:Hp) (x:V) (xs:List V) (v:Value) (us:List Value) (Q:VK),Inv X pins σ H s→RelV x v→Vals xs us→r x xs H Q →
  wpAny (model X.prog X.w) X.A (call (.builtin id) (v :: us)) (EP X pins σ Q) X.xe s
section
variable {X:Cx} {a b:Expr} {ta tb:TE} {pos:Pos}
theorem pe_ix {r:R2} (hr:IxR X r) (ha:PE X a ta) (hb:PE X b tb) (hs:PlainIx b):PE X (.Subscript a b pos) (tOp r ta tb):=by
 intro pins s σ H Q I h
 exact Subscript_ (binT ha hb I h fun v u s2 x y H2 I2 rx ry q=>hr a b pins s2 σ H2 x y v u Q I2 rx ry q (hs _ _))
def rIxL (K:PySem.W.Frag):R2:=fun x y H Q=>∃ p xs i v,x=.ref p∧y=.int i∧SqL K H p xs∧atI xs i=some v∧Q v H
def rIxT (K:PySem.W.Frag):R2:=fun x y H Q=>∃ p xs i v,x=.ref p∧y=.int i∧SqT K H p xs∧atI xs i=some v∧Q v H
def rIxS:R2:=fun x y H Q=>∃ z i c,x=.str z∧y=.int i∧z.length ≤ sizeLine∧atI z.cps.toList i=some c∧Q (.str ⟨#[c]⟩) H
theorem ix_list:IxR X (rIxL X.K):=by
 intro value slice pins s σ H x y v u Q I rx ry h hs
 obtain ⟨p,xs,i,z,rfl,rfl,hq,he,q⟩:=h
 cases rx
 obtain ⟨t,rfl⟩:=ry
 obtain ⟨its,r,pl,hz⟩:=I.list hq
 obtain ⟨j,h1,h2,h3,h4,h5⟩:=atI_get he
 obtain ⟨w,ew,rw'⟩:=r.get h2
 have hl:=r.length
 have hn:=line63
 have fin:EP X pins σ Q w s:=⟨z,H,I,rw',q⟩
 by_cases h0:0 ≤ i
 ·have hj:i.toNat=j:=by
   rw [seqIndex_of h0 h5] at h1
   exact Option.some.inj h1
  exact item_listR pl.isList h0 (by omega) (by rw [hj]; simpa using ew) fin hs
 ·have hj:(i + (its.toArray.size:Int)).toNat=j:=by
   rw [seqIndex_neg (by omega) h4] at h1
   rw [List.size_toArray,← hl]
   exact Option.some.inj h1
  exact subscriptTail_builtinR (x:=w) pl.isList.typeIs slot_list_getitem.lookup
   (wpAny_getItem_list_neg (Q:=fun r s'=>r=w∧EP X pins σ Q r s') pl.isList (by omega) (by rw [List.size_toArray] <;> omega) (by omega) (by rw [hj]; simpa using ew) ⟨rfl,fin⟩) hs
theorem ix_tup:IxR X (rIxT X.K):=by
 intro value slice pins s σ H x y v u Q I rx ry h hs
 obtain ⟨p,xs,i,z,rfl,rfl,hq,he,q⟩:=h
 cases rx
 obtain ⟨t,rfl⟩:=ry
 obtain ⟨its,r,pl,hz⟩:=I.tuple hq
 obtain ⟨j,h1,h2,h3,h4,h5⟩:=atI_get he
 obtain ⟨w,ew,rw'⟩:=r.get h2
 have hl:=r.length
 have hn:=line63
 have fin:EP X pins σ Q w s:=⟨z,H,I,rw',q⟩
 exact subscriptTail_builtinR (x:=w) pl.typeIs slot_tuple_getitem.lookup
  (getItem_tuple (j:=j) (Q:=fun r s'=>r=w∧EP X pins σ Q r s') pl (by omega) (by omega) (by rw [List.size_toArray,← hl]; exact h1) (by simpa using ew) ⟨rfl,fin⟩) hs
theorem ix_str:IxR X rIxS:=by
 intro value slice pins s σ H x y v u Q I rx ry h hs
 obtain ⟨z,i,c,rfl,rfl,hz,he,q⟩:=h
 obtain ⟨t,rfl⟩:=rx
 obtain ⟨t',rfl⟩:=ry
 obtain ⟨j,h1,h2,h3,h4,h5⟩:=atI_get he
 have hl:z.cps.toList.length=z.length:=by simp [Str.length]
 rw [hl] at h1 h4 h5
 have hn:=line63
 exact tail_any (typeIs_str s z t) slot_str_getitem.lookup (getItem_str (c:=c) (by
  have e1:decide (i < -(2 ^ 63:Int))=false:=decide_eq_false (by omega)
  have e2:decide (i ≥ 2 ^ 63)=false:=decide_eq_false (by omega)
  rw [e1,e2,Bool.or_false]) (by rw [h1]; simpa using h2) ⟨.str ⟨#[c]⟩,H,I.tok _,⟨_,rfl⟩,q⟩) hs
theorem slice_bounds (lo hi:Option Int) (n:Nat):(sliceBounds lo hi none n).1=((HT.sIx n 0 lo:Nat):Int)∧(sliceBounds lo hi none n).2.1=((HT.sIx n n hi:Nat):Int)∧(sliceBounds lo hi none n).2.2=1:=by
 refine ⟨?_,?_,rfl⟩
 ·cases lo with
  | none=>simp [sliceBounds,HT.sIx]
  | some i =>
   simp only [sliceBounds,HT.sIx,Option.getD_none,show (1:Int) > 0 by decide,if_true]
   by_cases h:i < 0
   ·simp only [h,if_true] <;> omega
   ·simp only [h,if_false] <;> omega
 ·cases hi with
  | none=>simp [sliceBounds,HT.sIx]
  | some i =>
   simp only [sliceBounds,HT.sIx,Option.getD_none,show (1:Int) > 0 by decide,if_true]
   by_cases h:i < 0
   ·simp only [h,if_true] <;> omega
   ·simp only [h,if_false] <;> omega
theorem slicePick_cut (its:List Value) (lo hi:Option Int):slicePick its.toArray lo hi none=((its.drop (HT.sIx its.length 0 lo)).take (HT.sIx its.length its.length hi - HT.sIx its.length 0 lo)).toArray:=by
 obtain ⟨h1,h2,h3⟩:=slice_bounds lo hi its.toArray.size
 unfold slicePick
 rw [h1,h2,h3]
 simp only [sliceRange_one,pick_run,List.size_toArray] <;> rfl
def rSlL (K:PySem.W.Frag):V→Option Int→Option Int→Hp→VK→Prop:=fun x lo hi H Q=>∃ a xs,x=.ref a∧SqL K H a xs∧∀ p,H p=none→Q (.ref p) (upd H p (.lst (cutV xs lo hi)))
theorem sl_list:SlR X (rSlL X.K):=by
 intro pins s σ H x v vl vu lo hi sl Q I rx hs pl pu h
 obtain ⟨a,xs,rfl,hx,q⟩:=h
 cases rx
 obtain ⟨its,r,ht,hz⟩:=I.list hx
 have hlen:=r.length
 refine ⟨"list",_,slot_list_getitem.lookup,ht.isList.typeIs,?_⟩
 refine wpAny_getItem_list_slice ht.isList hs pl pu .none (by simp) ?_ (by rw [List.size_toArray] <;> omega)
 rw [slicePick_cut,← hlen]
 refine ⟨.ref s.heap.objs.size,_,I.laid (t':=s.toks) (o:=.lst (cutV xs lo hi)) (fun b ob q=>Heap.get?_push_of_some _ q) (Nat.le_refl _) ?_,rfl,q _ (I.hok.fresh (Nat.le_refl _))⟩
 exact ⟨Nat.le_trans (cutV_length xs lo hi) hz,_,0,(r.drop (HT.sIx xs.length 0 lo)).take (HT.sIx xs.length xs.length hi - HT.sIx xs.length 0 lo),Heap.get?_push_size _ rfl⟩
def flatV:V→Bool
 | .non=>true
 | .bl _=>true
 | .int _=>true
 | .str _=>true
 | _=>false
def eqV:V→V→Bool
 | .non,.non=>true
 | .bl a,.bl b=>a == b
 | .bl a,.int b=>(if a then 1 else 0) == b
 | .int a,.bl b=>a == (if b then 1 else 0)
 | .int a,.int b=>a == b
 | .str a,.str b=>a == b
 | _,_=>false
theorem eqAt_V {A:Around} {s:Shared} {y x:V} {u v:Value} (ry:RelV y u) (rx:RelV x v) (fy:flatV y=true) (fx:flatV x=true):SeqAt.EqAt A s u v (eqV y x):=by
 cases y with
 | non =>
  cases ry
  cases x with
  | non=>cases rx; exact SeqAt.EqAt.same _
  | bl b=>cases rx; exact SeqAt.EqAt.none_bool b
  | int b=>obtain ⟨t,rfl⟩:=rx; exact SeqAt.EqAt.none_int b t
  | str b=>obtain ⟨t,rfl⟩:=rx; exact SeqAt.EqAt.none_str b t
  | _=>exact absurd (show false=true from fx) Bool.false_ne_true
 | bl a =>
  cases ry
  cases x with
  | non=>cases rx; exact SeqAt.EqAt.bool_none a
  | bl b=>cases rx; exact SeqAt.EqAt.bool_bool a b
  | int b=>obtain ⟨t,rfl⟩:=rx; exact SeqAt.EqAt.bool_int a b t
  | str b=>obtain ⟨t,rfl⟩:=rx; exact SeqAt.EqAt.bool_str a b t
  | _=>exact absurd (show false=true from fx) Bool.false_ne_true
 | int a =>
  obtain ⟨t',rfl⟩:=ry
  cases x with
  | non=>cases rx; exact SeqAt.EqAt.int_none a t'
  | bl b=>cases rx; exact SeqAt.EqAt.int_bool a t' b
  | int b=>obtain ⟨t,rfl⟩:=rx; exact SeqAt.EqAt.int_int a t' b t
  | str b=>obtain ⟨t,rfl⟩:=rx; exact SeqAt.EqAt.int_str a t' b t
  | _=>exact absurd (show false=true from fx) Bool.false_ne_true
 | str a =>
  obtain ⟨t',rfl⟩:=ry
  cases x with
  | non=>cases rx; exact SeqAt.EqAt.str_none a t'
  | bl b=>cases rx; exact SeqAt.EqAt.str_bool a t' b
  | int b=>obtain ⟨t,rfl⟩:=rx; exact SeqAt.EqAt.str_int a t' b t
  | str b=>obtain ⟨t,rfl⟩:=rx; exact SeqAt.EqAt.str_str a t' b t
  | _=>exact absurd (show false=true from fx) Bool.false_ne_true
 | _=>exact absurd (show false=true from fy) Bool.false_ne_true
def eqU (x:V) (u:Value):Bool:=match u with
 | .none=>eqV .non x
 | .bool b=>eqV (.bl b) x
 | .int i _=>eqV (.int i) x
 | .str z _=>eqV (.str z) x
 | _=>false
theorem eqU_of {x y:V} {u:Value} (r:RelV y u) (f:flatV y=true):eqU x u=eqV y x:=by
 cases y with
 | non=>cases r; rfl
 | bl b=>cases r; rfl
 | int i=>obtain ⟨t,rfl⟩:=r; rfl
 | str z=>obtain ⟨t,rfl⟩:=r; rfl
 | _=>exact absurd (show false=true from f) Bool.false_ne_true
theorem any_eqU {x:V}:∀ {xs:List V} {us:List Value},Vals xs us→xs.all flatV=true→us.any (eqU x)=xs.any fun y=>eqV y x
 | _,_,.nil,_=>rfl
 | y :: xs,u :: us,.cons r t,f=>by
  rw [List.all_cons,Bool.and_eq_true] at f
  rw [List.any_cons,List.any_cons,eqU_of r f.1,any_eqU t f.2]
theorem mem_eqAt {A:Around} {s:Shared} {x:V} {v:Value} (rx:RelV x v) (fx:flatV x=true):∀ {xs:List V} {us:List Value},Vals xs us→xs.all flatV=true→∀ u ∈ us,SeqAt.EqAt A s u v (eqU x u)
 | _,_,.nil,_=>fun u hu=>by cases hu
 | y :: xs,u :: us,.cons r t,f=>fun u' hu=>by
  rw [List.all_cons,Bool.and_eq_true] at f
  rcases List.mem_cons.mp hu with rfl | hu
  ·rw [eqU_of r f.1]; exact eqAt_V r rx f.1 fx
  ·exact mem_eqAt rx fx t f.2 u' hu
def inV (x:V) (xs:List V):Bool:=xs.any fun y=>eqV y x
def rIn (K:PySem.W.Frag) (neg:Bool):R2:=fun x y H Q=>∃ p xs,y=.ref p∧(SqL K H p xs ∨ SqT K H p xs)∧flatV x=true∧xs.all flatV=true∧Q (.bl (if neg then !inV x xs else inV x xs)) H
theorem op_in_seq:OpR X (compareOp .In) (rIn X.K false):=by
 intro pins s σ H x y v u Q I rx ry h
 obtain ⟨p,xs,rfl,hq,fx,fs,q⟩:=h
 cases ry
 rcases hq with hq | hq
 ·obtain ⟨its,r,pl,hz⟩:=I.list hq
  refine SeqAt.in_listAt (eqU x) pl.isList (fun w hw=>mem_eqAt rx fx r fs w (by simpa using hw)) ⟨.bl _,H,I,rfl,?_⟩
  rw [show its.toArray.any (eqU x)=its.any (eqU x) by simp,any_eqU r fs]
  exact q
 ·obtain ⟨its,r,pl,hz⟩:=I.tuple hq
  refine SeqAt.in_tupleAt (eqU x) pl (fun w hw=>mem_eqAt rx fx r fs w (by simpa using hw)) ⟨.bl _,H,I,rfl,?_⟩
  rw [show its.toArray.any (eqU x)=its.any (eqU x) by simp,any_eqU r fs]
  exact q
theorem call_len_seq:CallR X (.builtin "len") (fun xs H Q=>∃ p ys,xs=[.ref p]∧(SqL X.K H p ys ∨ SqT X.K H p ys)∧Q (.int ys.length) H):=by
 intro pins s σ H xs us Q I r h
 obtain ⟨p,ys,rfl,hq,q⟩:=h
 obtain ⟨u,rfl,rx⟩:=vals1 r
 cases rx
 have hn:=line63
 rcases hq with hq | hq
 ·obtain ⟨its,r',pl,hz⟩:=I.list hq
  have hlen:=r'.length
  exact Calls.call_len_list pl.isList (by simp only [List.size_toArray] <;> omega) ⟨.int ys.length,H,I.tok _,⟨s.toks + 1,by rw [List.size_toArray,hlen]⟩,q⟩
 ·obtain ⟨its,r',pl,hz⟩:=I.tuple hq
  have hlen:=r'.length
  exact len_tuple pl (by simp only [List.size_toArray] <;> omega) ⟨.int ys.length,H,I.tok _,⟨s.toks + 1,by rw [List.size_toArray,hlen]⟩,q⟩
theorem call_list_of:CallR X (.type "list") (fun xs H Q=>∃ p ys,xs=[.ref p]∧(SqL X.K H p ys ∨ SqT X.K H p ys)∧∀ l,H l=none→Q (.ref l) (upd H l (.lst ys))):=by
 intro pins s σ H xs us Q I r h
 obtain ⟨p,ys,rfl,hq,q⟩:=h
 obtain ⟨u,rfl,rx⟩:=vals1 r
 cases rx
 have fin:∀ (its:List Value),Vals ys its→ys.length ≤ sizeLine→∀ (h':Heap) (c':Nat),(∀ b o',s.heap.get? b=some o'→h'.get? b=some o') →
   h'.get? s.heap.objs.size=some { cls:=.type "list",dict:=none,data:=.seq its.toArray c',slots:=#[] }→EP X pins σ Q (.ref s.heap.objs.size) { s with heap:=h' }:=fun its r' hz h' c' kp e =>
  ⟨.ref s.heap.objs.size,_,I.laid (t':=s.toks) kp (Nat.le_refl _) (show ObjOk X.prog X.w _ h' _ (.lst ys) from ⟨hz,its,c',r',e⟩),rfl,q _ (I.hok.fresh (Nat.le_refl _))⟩
 rcases hq with hq | hq
 ·obtain ⟨its,r',pl,hz⟩:=I.list hq
  have hlen:=r'.length
  obtain ⟨o,ho,hc,n,hd⟩:=pl.isList
  exact call_list_seq p (.inl rfl) ho hc hd (fun h' c' kp e=>fin its r' hz h' c' kp e) (by simp only [List.size_toArray] <;> omega)
 ·obtain ⟨its,r',pl,hz⟩:=I.tuple hq
  have hlen:=r'.length
  obtain ⟨o,ho,hc,n,hd⟩:=pl
  exact call_list_seq p (.inr rfl) ho hc hd (fun h' c' kp e=>fin its r' hz h' c' kp e) (by simp only [List.size_toArray] <;> omega)
def tyV (K:PySem.W.Frag) (T:String) (x:V) (H:Hp):Prop:=match x with
 | .str _=>T="str"
 | .int _=>T="int"
 | .ref p=>(T="list"∧∃ xs,SqL K H p xs) ∨ (T="tuple"∧∃ o,K.lookup p=some o∧o.cls=.type "tuple"∧o.dict=none) ∨
   (T="dict"∧((∃ kvs,H p=some (.dK kvs)) ∨ ∃ kvs,H p=some (.dT kvs))) ∨ (T="set"∧∃ S n,H p=some (.set S n))
 | _=>False
theorem tyV_is {pins:List (Addr × Obj)} {σ:St} {H:Hp} {s:Shared} {T:String} {x:V} {v:Value} (I:Inv X pins σ H s) (r:RelV x v) (ty:tyV X.K T x H) :
  s.TypeIs v T∧∀ a,v=.ref a→∃ ob,s.heap.get? a=some ob∧ob.dict=none:=by
 cases x with
 | str z =>
  obtain ⟨t,rfl⟩:=r
  cases (show T="str" from ty)
  exact ⟨typeIs_str s z t,fun _ e=>nomatch e⟩
 | int i =>
  obtain ⟨t,rfl⟩:=r
  cases (show T="int" from ty)
  exact ⟨typeIs_int s i t,fun _ e=>nomatch e⟩
 | ref p =>
  cases r
  rcases ty with ⟨rfl,xs,hq⟩ | ⟨rfl,o,hk,hc,hd⟩ | ⟨rfl,hk⟩ | ⟨rfl,S,n,hk⟩
  ·obtain ⟨its,_,pl,_⟩:=I.list hq
   refine ⟨pl.isList.typeIs,fun a e=>?_⟩
   cases e
   obtain ⟨o,n,e,c,hd,_⟩:=pl
   exact ⟨o,e,hd⟩
  ·refine ⟨⟨o,I.kIn p o hk,hc⟩,fun a e=>?_⟩
   cases e
   exact ⟨o,I.kIn _ o hk,hd⟩
  ·have z:∃ o,s.heap.get? p=some o∧o.ExactDict:=by
    rcases hk with ⟨kvs,hk⟩ | ⟨kvs,hk⟩
    ·obtain ⟨_,_,_,_,o,_,_,e,ex,_⟩:=I.hok p _ hk
     exact ⟨o,e,ex⟩
    ·obtain ⟨_,_,_,_,o,_,_,e,ex,_⟩:=I.hok p _ hk
     exact ⟨o,e,ex⟩
   obtain ⟨o,e,ex⟩:=z
   refine ⟨⟨o,e,ex.1⟩,fun a e2=>?_⟩
   cases e2
   exact ⟨o,e,ex.2.1⟩
  ·obtain ⟨o,_,_,_,e,ex,_⟩:=I.hok p _ hk
   refine ⟨⟨o,e,ex.1⟩,fun a e2=>?_⟩
   cases e2
   exact ⟨o,e,ex.2.1⟩
 | _=>exact False.elim ty
def tBM (K:PySem.W.Frag) (T:String) (r:V→List V→Hp→VK→Prop) (to:TE) (t:TA):TE:=fun σ H Q=>to σ H fun x H1=>tyV K T x H1∧t σ H1 fun xs H2=>r x xs H2 Q
variable {o e:Expr} {es:List Expr} {to:TE} {t:TA} {name:Str} {apos cpos:Pos} {T id:String} {r:V→List V→Hp→VK→Prop}
theorem pe_bm (pa:PlainAttrs T) (slot:Slot T name id) (hty:typeOf (.builtin id)=pure (.type "method_descriptor")) (hm:MtR X id r) (ho:PE X o to) (ha:PA X (e :: es) t)
  (hbase:attributeBase o name X.env (eval o X.env)=eval o X.env:=by rfl)
  (hfew:((backTo cpos (starEach (e :: es) X.env)).all (fun x=>!x.1) && (backToKw cpos (keywordEach [] X.env)).all (fun x=>x.1.isSome)
   && decide ((e :: es).length + ([]:List Keyword).length + (if ([]:List Keyword).isEmpty then 0 else 1) < 30))=true:=by rfl)
  (hline:(apos.endLine == cpos.line)=true:=by rfl) (hs:starEach (e :: es) X.env=(false,eval e X.env) :: starEach es X.env:=by rfl) (hplain:(backTo cpos (starEach es X.env)).any (·.1)=false:=by rfl) :
  PE X (.Call (.Attribute o name apos) (e :: es) [] cpos) (tBM X.K T r to t):=by
 intro pins s σ H Q I h
 refine wpAny_Call_method_late hbase hfew hline rfl (thn (ho pins s σ H _ I h) fun v s1 ⟨x,H1,I1,r1,ty,q1⟩=>?_)
 obtain ⟨h1,h2⟩:=tyV_is I1 r1 ty
 refine ⟨T,id,pa,slot,hty,h1,h2,?_⟩
 have hA:=ha cpos pins s1 σ H1 _ I1 q1
 rw [hs] at hA ⊢
 refine Calls.callWith_builtin (by show (false || (backTo cpos (starEach es X.env)).any (·.1))=false; rw [hplain] <;> rfl) (Calls.evalArgs_plain ?_)
 exact thn hA fun us s2 ⟨vs,H2,I2,r2,q2⟩=>hm pins s2 σ H2 x vs v us Q I2 r1 r2 q2
end
end L2
namespace L2
open PySem PySem.Spec PyProof.Rows
def MtM (X:Cx) (id:String) (r:V→List V→Hp→VK→Prop):Prop :=
 ∀ (pins:List (Addr × Obj)) (s:Shared) (σ:St) (H:Hp) (x:V) (xs:List V) (v:Value) (us:List Value) (Q:VK),Inv X pins σ H s→RelV x v→Vals xs us→r x xs H Q →
  wpAny (model X.prog X.w) X.A (call (.builtin id) (v :: us)) (EP X pins σ Q) X.xe s
theorem Vals.one:∀ {x:V} {us:List Value},Vals [x] us→∃ u,us=[u]∧RelV x u
 | _,_,.cons r .nil=>⟨_,rfl,r⟩
section
variable {X:Cx} {pins:List (Addr × Obj)} {σ:St} {H:Hp} {s:Shared} {l b:Addr} {xs ys zs:List V}
theorem Inv.lset {its its':List Value} {n:Nat} {f:Array Value→Array Value} {t':Nat} (I:Inv X pins σ H s) (hH:H l=some (.lst xs))
  (e:s.heap.get? l=some { cls:=.type "list",data:=.seq its.toArray n }) (hf:f its.toArray=its'.toArray) (hv:Vals ys its') (hz:ys.length ≤ sizeLine) :
  Inv X pins σ (upd H l (.lst ys)) { s with heap:=s.heap.update l (Obj.mapSeq f),toks:=t' }:=by
 have q:=PySem.IsL.update e f
 rw [hf] at q
 refine I.write (x:=l) (e:=l) (by rw [hH]; exact trivial) (.inl rfl) (fun b' u hb hu=>(Heap.get?_update_other s.heap (Obj.mapSeq f) (Ne.symm hb)).trans hu) ⟨_,q⟩ ?_
 exact ⟨hz,its',_,hv,q⟩
theorem Inv.lnew {its:List Value} {t':Nat} (I:Inv X pins σ H s) (hv:Vals ys its) (hz:ys.length ≤ sizeLine) :
  Inv X pins σ (upd H s.heap.objs.size (.lst ys)) { s with heap:=s.heap.push { cls:=.type "list",data:=.seq its.toArray },toks:=t' } :=
 I.laid (fun _ _ q=>Heap.get?_push_of_some _ q) (Nat.le_refl _) ⟨hz,its,0,hv,Heap.get?_push_size _ rfl⟩
theorem Inv.fresh (I:Inv X pins σ H s):H s.heap.objs.size=none:=I.hok.fresh (Nat.le_refl _)
theorem Inv.lstM (I:Inv X pins σ H s) (hH:H l=some (.lst xs)):xs.length ≤ sizeLine∧∃ (its:List Value) (n:Nat),Vals xs its∧xs.length=its.length∧s.heap.get? l=some { cls:=.type "list",data:=.seq its.toArray n }:=by
 obtain ⟨z,its,n,r,e⟩:=I.hok l _ hH
 exact ⟨z,its,n,r,r.length,e⟩
end
section
variable {X:Cx}
def rAppend:V→List V→Hp→VK→Prop:=fun x vs H Q=>∃ l xs y,x=.ref l∧vs=[y]∧H l=some (.lst xs)∧xs.length < sizeLine∧Q .non (upd H l (.lst (xs ++ [y])))
theorem mt_append:MtM X "list.append" rAppend:=by
 intro pins s σ H x vs v us Q I rx rv h
 obtain ⟨l,xs,y,rfl,rfl,hH,hz,q⟩:=h
 cases rx
 obtain ⟨u,rfl,ru⟩:=rv.one
 obtain ⟨z,its,n,r,hl,e⟩:=I.lstM hH
 refine call_meets F.slot_list_append ⟨_,e,rfl⟩ F.entry_list_append (F.args_list_append_2 _ _) (PySem.list_append l its.toArray n u (by rw [List.size_toArray]; omega)) ⟨e,?_⟩
 refine ⟨.non,_,I.lset (its':=its ++ [u]) hH e (by simp) (r.append (.cons ru .nil)) ?_,rfl,q⟩
 rw [List.length_append,List.length_singleton]
 omega
def rCat:R2:=fun x y H Q=>∃ l b xs zs,x=.ref l∧y=.ref b∧H l=some (.lst xs)∧H b=some (.lst zs)∧xs.length + zs.length ≤ sizeLine∧∀ p,H p=none→Q (.ref p) (upd H p (.lst (xs ++ zs)))
theorem op_cat:OpR X (binaryOp .Add) rCat:=by
 intro pins s σ H x y v u Q I rx ry h
 obtain ⟨l,b,xs,zs,rfl,rfl,hH,hB,hz,q⟩:=h
 cases rx
 cases ry
 obtain ⟨z,its,n,r,hl,e⟩:=I.lstM hH
 obtain ⟨z2,its2,n2,r2,hl2,e2⟩:=I.lstM hB
 refine PySem.P.add_list e e2 ?_ (by rw [List.size_toArray,List.size_toArray]; omega)
 have ea:its.toArray ++ its2.toArray=(its ++ its2).toArray:=by simp
 rw [ea]
 exact ⟨.ref _,_,I.lnew (t':=s.toks) (r.append r2) (by rw [List.length_append]; omega),rfl,q _ I.fresh⟩
end
section
variable {prog:Program} {w:World} {A:Around} {E:Value→Shared→Prop} {s:Shared}
end
section
variable {X:Cx}
end
end L2
namespace Att
open PySem PySem.W PySem.Calls PyProof.Rows
theorem ints_of_wellAll {P:Params} {h:Heap}:∀ (ns:List Int) (vs:List Value),WellAll P h vs (ns.map WData.int)→IntsAre vs ns:=by
 intro ns
 induction ns with
 | nil =>
  intro vs w
  rw [List.map_nil] at w
  cases w
  exact .nil
 | cons n ns ih =>
  intro vs w
  rw [List.map_cons] at w
  cases w with
  | cons a b =>
   cases a
   exact .cons _ _ (ih _ b)
theorem script_of {l:OpenLaw} {n:Nat} (hn:l.most=some n) {P:Params} {h:Heap} {args:List WData} {vals:List Value}
  (hpre:l.row.toRowW.claim.pre args=true) (hwl:WellAll P h vals args) :
  ∃ a vs ns,vals=[Value.ref a]∧args=[WData.list (ns.map WData.int)]∧h.get? a=some { cls:=.type "list",data:=.seq vs.toArray }∧IntsAre vs ns∧ns.length ≤ n:=by
 have hsh:WShape.hasAll [] args [.list .int]=true:=(pre_splitW hpre).1
 have hc:l.pre.holds [] { args:=args }=true:=(pre_splitW hpre).2
 obtain ⟨d,r,rfl,h1,h2⟩:=hasAllW_cons hsh
 obtain rfl:=hasAllW_nil h2
 obtain ⟨xs,rfl,h3⟩:=hasW_list h1
 obtain ⟨ns,rfl⟩:=items_int h3
 have hlen:ns.length ≤ n:=by
  unfold OpenLaw.pre at hc
  have h4:(WTm.not (.lt (.lit (.int (n:Int))) (.len (.arg 0)))).holds [] { args:=[.list (ns.map .int)] }=true:=by
   have h4:=(holds_andW hc).1
   rw [hn] at h4
   exact h4
  have h5:=condW_of h4 (w_not (w_lt w_lit (w_len_list (w_arg rfl))))
  rw [List.length_map] at h5
  refine Nat.le_of_not_lt fun q=>?_
  have q':(n:Int) < ((ns.length:Nat):Int):=by omega
  first
   | (rw [decide_eq_true q'] at h5; exact absurd h5 (by decide))
   | (simp at h5; omega)
 cases hwl with
 | cons w1 w2 =>
  cases w2
  cases w1 with
  | list ho hall=>exact ⟨_,_,ns,rfl,rfl,ho,ints_of_wellAll ns _ hall,hlen⟩
theorem post_true (l:OpenLaw) (args:List WData):l.row.toRowW.claim.post args (.bool true) args=true :=
 postW_of (r:=l.row.toRowW) (X:=(true == true))
  (show WShape.has [] (.bool true) .bool=true by first | rfl | decide | simp [WShape.has,WShape.arms,WShape.armsAll])
  (show (WTm.eq .res (.lit (.bool true))).value [] { args:=args,res:=some (.bool true),after:=args }=some (.bool (true == true)) from w_eq_bool (w_res rfl) w_lit) rfl
theorem attach_call {l:OpenLaw} {n:Nat} {q:Program} {loose:List Str} {XP:(Str→Option Value)→Heap→Prop} {YP:World→Heap→Prop} {d:DefRec}
  (hn:l.most=some n) (hdf:d.params.defaults=[])
  (call:∀ (w:World) (s₀ s₁:Shared) (mg mb:Str→Option Value) (fa:Addr) (o:Obj) (pm cd doc:Value) (a:Addr) (vs:List Value) (ns:List Int),
   Ground q loose [] XP w s₀ mg mb s₁.heap→YP w s₁.heap →
   s₁.heap.get? fa=some o→o.data=.func (docDef d.name d.params d.body d.scope pm cd doc)→s₁.heap.CodeRec cd d.name→mg d.name=some (.ref fa) →
   s₁.heap.get? a=some { cls:=.type "list",data:=.seq vs.toArray }→IntsAre vs ns→ns.length ≤ n→s₁.gens=#[] →
   codeAny (model l.prog w) callerA (.call (.ref fa) ⟨[.ref a],[]⟩) (fun r s'=>r=.ok (.ret (.bool true))∧OldK s₁.heap s'.heap∧s'.os=s₁.os∧AllBare s'.gens) s₁) :
  WalkO q loose XP YP l.row.toRowW d [] (fun f vs=>PySem.call f vs):=by
 intro w s₀ s₁ mg mb G Y fa o pm cd doc dV kV ho hd hcd hD hmg hg args vals as hpre hlay hrd hwl hlo
 obtain rfl:dV=.none:=Dflts.none hD hdf
 obtain rfl:kV=.none:=Dflts.noKw hD
 obtain ⟨a,vs,ns,rfl,rfl,hobj,hints,hlen⟩:=script_of hn hpre hwl
 refine enter_call (codeAny_mono (call w s₀ s₁ mg mb fa o pm cd doc a vs ns G Y ho (fd_plain hd) hcd hmg hobj hints hlen hg) fun r s' hq=>?_)
 obtain ⟨rfl,h2,h3,h4⟩:=hq
 exact ⟨.inl ⟨.bool true,.bool true,[],rfl,fun _=>rfl,.bool true,post_true l _,fun _=>⟨List.Pairwise.nil,fun _ hm=>(nomatch hm)⟩⟩,h2,h3,h4⟩
section
variable {prog:Program} {w:World} {A:Around} {E:Value→Shared→Prop} {s:Shared} {K:Frag}
end
end Att
namespace L2
open PySem PySem.Spec PyProof.Rows
theorem vals_ints:∀ {vs:List Value} {ns:List Int},IntsAre vs ns→Vals (ns.map V.int) vs
 | _,_,.nil=>.nil
 | _,_,.cons n t h=>.cons ⟨t,rfl⟩ (vals_ints h)
end L2
namespace L2
open PySem PySem.Spec PyProof.Rows
end L2
namespace L2
open PySem PySem.Spec PyProof.Rows
def inClass (s:Stmt) (j:Nat):Stmt:=match s with
 | .ClassDef _ _ _ body _ _ _ _ _ _ _=>body.getD j (.Pass ⟨0,0,0,0⟩)
 | _=>.Pass ⟨0,0,0,0⟩
def defArgs (s:Stmt):Arguments:=match s with
 | .FunctionDef _ a _ _ _ _ _ _ _ _=>a
 | _=>{ posonlyargs:=[],args:=[],vararg:=none,kwonlyargs:=[],kw_defaults:=[],kwarg:=none,defaults:=[] }
def defBody (s:Stmt):List Stmt:=match s with
 | .FunctionDef _ _ b _ _ _ _ _ _ _=>b
 | _=>[]
def defScope (s:Stmt):Scope:=match s with
 | .FunctionDef _ _ _ _ _ _ sc _ _ _=>sc
 | _=>{ kind:=.function,names:=[],isGenerator:=false,isCoroutine:=false }
abbrev CX0:CXT:=fun _ _ _ _ _ _=>False
abbrev E0:XK:=fun _ _ _=>False
theorem pass0 {X:Cx}:Passes CX0 X E0:=fun _ _ _ _ _ _ _ h=>h.elim
structure Fun (K:PySem.W.Frag) (x qual:Str) (st:Stmt) (f:Addr) (fd:FuncData):Prop where
 ex:∃ (oc:Value) (od:Option Addr) (kV doc pm:Value) (an:Option Addr) (cdv ct:Value) (osl:Array (Option Value)),
  fd=PySem.W.fnOf x qual (defArgs st) (defBody st) (defScope st) .none kV doc pm an cdv ct∧K.lookup f=some ⟨oc,od,.func fd,osl⟩∧PySem.W.codeIn K cdv qual=true
 kp:PySem.W.keepIn K (.ref f)=true
section
variable {P:Program} {w:World} {K:PySem.W.Frag} {mg:Str→Option Value} {base:Heap}
theorem Fun.ok {x qual:Str} {st:Stmt} {f:Addr} {fd:FuncData} {N ps:List Str} {k:Nat} {sp:Sp} (F:Fun K x qual st f fd) (S:FnScope N ps (defScope st)) (len:∀ vs H Q E,sp vs H Q E→vs.length=ps.length)
  (hbody:∀ (cdv:Value) (A:Around) (outer:List Env) (s:Shared) (H:Hp) (vs:List V) (Q:VK) (E:XK),Room k (A.deeper (envOfC qual (defScope st) s.heap.objs.size f cdv))→sp vs H Q E →
   ∃ t,PSs (cxOf CX0 P w K mg base N qual (defScope st) f cdv A outer s H E).nox (defBody st) t∧t { nx:=fun _ H'=>Q .non H',rt:=Q } (start N vs) H):FnOk P w K mg base CX0 (k + 1) f fd ps sp:=by
 obtain ⟨oc,od,kV,doc,pm,an,cdv,ct,osl,rfl,lk,hcd⟩:=F.ex
 refine fn_of lk hcd S len fun A outer s H vs Q E hr hsp=>?_
 obtain ⟨t,h,q⟩:=hbody cdv A outer s H vs Q E hr hsp
 exact ⟨t,h.nox,q⟩
theorem Fun.binds {x qual:Str} {st:Stmt} {f:Addr} {fd:FuncData} {ps:List Str} (F:Fun K x qual st f fd)
  (h:∀ (kV doc pm:Value) (an:Option Addr) (cdv ct:Value) (us:List Value),us.length=ps.length→bindArgs (PySem.W.fnOf x qual (defArgs st) (defBody st) (defScope st) .none kV doc pm an cdv ct) ⟨us,[]⟩=pure (ps.zip us)):Binds K fd ps []:=by
 obtain ⟨oc,od,kV,doc,pm,an,cdv,ct,osl,rfl,lk,hcd⟩:=F.ex
 exact .all (h kV doc pm an cdv ct)
theorem fun_mk {x qual:Str} {st:Stmt} {f:Addr} {oc:Value} {od an:Option Addr} {osl:Array (Option Value)} {kV doc pm cdv ct:Value} (l:K.lookup f=some ⟨oc,od,.func (PySem.W.fnOf x qual (defArgs st) (defBody st) (defScope st) .none kV doc pm an cdv ct),osl⟩)
  (c:PySem.W.codeIn K cdv qual=true) (k:PySem.W.keepIn K (.ref f)=true):Fun K x qual st f (PySem.W.fnOf x qual (defArgs st) (defBody st) (defScope st) .none kV doc pm an cdv ct):=⟨⟨oc,od,kV,doc,pm,an,cdv,ct,osl,rfl,l,c⟩,k⟩
end
section
variable {X:Cx}
theorem pv (i:Nat) {x:Str} {pos:Pos} (hN:X.N[i]?=some x:=by rfl) (hv:Vis X.env.scope x:=by first | exact Or.inl rfl | exact Or.inr (Or.inl rfl) | exact Or.inr (Or.inr rfl)) (hd:(x == ("__debug__":Str))=false:=by decide)
  (hcd:(x == ("__classdict__":Str))=false:=by decide):PE X (.Name x pos) (tVar i):=pe_var hN hv hd hcd
end
theorem iteF {A B:Prop} (h:B):if false=true then A else B:=by
 rw [if_neg Bool.false_ne_true]
 exact h
theorem iteT {A B:Prop} (h:A):if true=true then A else B:=by
 rw [if_pos rfl]
 exact h
theorem ite2 {c A B:Prop} [Decidable c] (h1:c→A) (h2:¬ c→B):if c then A else B:=by
 by_cases h:c
 ·rw [if_pos h]
  exact h1 h
 ·rw [if_neg h]
  exact h2 h
def Same (H H':Hp):Prop:=∀ b o,H b=some o→H' b=some o
theorem Same.refl (H:Hp):Same H H:=fun _ _ h=>h
theorem Same.trans {H H1 H2:Hp} (a:Same H H1) (b:Same H1 H2):Same H H2:=fun c o h=>b c o (a c o h)
theorem Same.free {H H':Hp} (e:Same H H') {l:Addr} (h:H' l=Option.none):H l=Option.none:=by
 cases q:H l with
 | none=>rfl
 | some o =>
  rw [e l o q] at h
  cases h
theorem Same.seq {K:PySem.W.Frag} {H H':Hp} {a:Addr} {xs:List V} (e:Same H H') (h:SqL K H a xs):SqL K H' a xs:=by
 rcases h with (h | ⟨o,h⟩) | h
 ·exact .inl (.inl (e _ _ h))
 ·exact .inl (.inr ⟨o,e _ _ h⟩)
 ·exact .inr h
end L2
namespace L2
open PySem PySem.Spec PyProof.Rows
theorem rel_look {env:Env} {y:Str} {k:NameKind}:∀ {names:List (Str × NameKind)},
  (names.map fun (n,k)=>if (k == NameKind.free && env.scope.kind == .function && env.kindOf n == some .cell) then (n,NameKind.cell) else (n,k)).lookup y=some k →
   ∃ k0,names.lookup y=some k0∧(k=k0 ∨ (k0=.free∧k=.cell))
 | [],h=>by simp at h
 | (n,q) :: r,h=>by
  have ih:=@rel_look env y k r
  rw [List.map_cons] at h
  dsimp only at h
  cases hx:y == n with
  | true =>
   refine ⟨q,by simp [List.lookup_cons,hx],?_⟩
   by_cases hc:(q == NameKind.free && env.scope.kind == .function && env.kindOf n == some .cell)=true
   ·rw [if_pos hc] at h
    simp only [List.lookup_cons,hx] at h
    cases h
    have hq:(q == NameKind.free)=true:=by
     cases e:q == NameKind.free with
     | true=>rfl
     | false=>rw [e] at hc; simp at hc
    exact .inr ⟨by simpa using hq,rfl⟩
   ·rw [if_neg hc] at h
    simp only [List.lookup_cons,hx] at h
    cases h
    exact .inl rfl
  | false =>
   have h2:(r.map fun (n,k)=>if (k == NameKind.free && env.scope.kind == .function && env.kindOf n == some .cell) then (n,NameKind.cell) else (n,k)).lookup y=some k:=by
    by_cases hc:(q == NameKind.free && env.scope.kind == .function && env.kindOf n == some .cell)=true
    ·rw [if_pos hc] at h
     simpa only [List.lookup_cons,hx] using h
    ·rw [if_neg hc] at h
     simpa only [List.lookup_cons,hx] using h
   obtain ⟨k0,e,r'⟩:=ih h2
   exact ⟨k0,by simpa only [List.lookup_cons,hx] using e,r'⟩
theorem clos_go {env:Env}:∀ (names:List (Str × NameKind)) (acc:List (Str × Addr)),(∀ y ∈ names,y.2=.free→∃ c,env.cells.lookup y.1=some c)→(∀ y c,acc.lookup y=some c→env.cells.lookup y=some c) →
  ∃ cl,(forIn names acc fun (x:Str × NameKind) (r:List (Str × Addr))=>(if (x.2 == NameKind.free)=true then (do let c ← cellOf env x.1; pure (ForInStep.yield ((x.1,c) :: r))) else pure (ForInStep.yield r):Sem (ForInStep (List (Str × Addr)))))=(pure cl:Sem (List (Str × Addr))) ∧
   (∀ y c,cl.lookup y=some c→env.cells.lookup y=some c)∧(∀ y ∈ names,y.2=.free→∃ c,cl.lookup y.1=some c)∧∀ y c,acc.lookup y=some c→∃ c',cl.lookup y=some c'
 | [],acc,_,ha=>⟨acc,rfl,ha,(fun y hy=>absurd hy (by simp)),fun y c h=>⟨c,h⟩⟩
 | (n,k) :: r,acc,hn,ha=>by
  by_cases hk:k=NameKind.free
  ·obtain ⟨c,hc⟩:=hn (n,k) List.mem_cons_self hk
   have hacc:∀ y d,((n,c) :: acc).lookup y=some d→env.cells.lookup y=some d:=fun y d e=>by
    cases hx:y == n with
    | true =>
     simp only [List.lookup_cons,hx] at e
     cases e
     have:y=n:=by simpa using hx
     rw [this]
     exact hc
    | false =>
     simp only [List.lookup_cons,hx] at e
     exact ha y d e
   obtain ⟨cl,e,h1,h2,h3⟩:=clos_go r ((n,c) :: acc) (fun y hy=>hn y (List.mem_cons_of_mem _ hy)) hacc
   have hn3:∃ c',cl.lookup n=some c':=h3 n c (by simp)
   refine ⟨cl,?_,h1,fun y hy hf=>?_,fun y d hd=>?_⟩
   ·rw [List.forIn_cons]
    dsimp only
    rw [if_pos (by simp [hk])]
    have ec:cellOf env n=pure c:=by
     unfold cellOf
     rw [hc]
    rw [ec]
    simp only [pure_bind]
    exact e
   ·rcases List.mem_cons.mp hy with z | z
    ·subst z
     exact hn3
    ·exact h2 y z hf
   ·cases hx:y == n with
    | true =>
     have:y=n:=by simpa using hx
     rw [this]
     exact hn3
    | false=>exact h3 y d (by simpa only [List.lookup_cons,hx] using hd)
  ·obtain ⟨cl,e,h1,h2,h3⟩:=clos_go r acc (fun y hy=>hn y (List.mem_cons_of_mem _ hy)) ha
   refine ⟨cl,?_,h1,fun y hy hf=>?_,h3⟩
   ·rw [List.forIn_cons]
    dsimp only
    rw [if_neg (by simpa using hk),pure_bind]
    exact e
   ·rcases List.mem_cons.mp hy with z | z
    ·subst z
     exact absurd hf hk
    ·exact h2 y z hf
theorem clos_ok {env:Env} {scope:Scope} (hn:∀ y ∈ scope.names,y.2=.free→∃ c,env.cells.lookup y.1=some c) :
  ∃ cl,closureFor scope env=pure cl∧(∀ y c,cl.lookup y=some c→env.cells.lookup y=some c)∧∀ y ∈ scope.names,y.2=.free→∃ c,cl.lookup y.1=some c:=by
 obtain ⟨cl,e,h1,h2,_⟩:=clos_go (env:=env) scope.names [] hn (fun y c h=>by simp at h)
 refine ⟨cl,?_,h1,h2⟩
 unfold closureFor
 dsimp only
 have e2:∀ (f g:Str × NameKind→List (Str × Addr)→Sem (ForInStep (List (Str × Addr)))),(∀ x r,f x r=g x r)→(forIn scope.names [] f:Sem (List (Str × Addr)))=forIn scope.names [] g:=fun f g h=>by
  have:f=g:=by funext x r; exact h x r
  rw [this]
 rw [e2 _ _ (fun x r=>?_),e]
 ·rfl
 ·obtain ⟨n,k⟩:=x
  dsimp only
theorem comp_loop_go {prog:Program} {w:World} {A:Around} {R:Result→Shared→Prop} {s:Shared} {elt target iter:Expr} {ifs:List Expr} {scope:Scope} {pos:Pos} {it acc:Value} {env:Env} (J:Nat→Shared→Prop)
  (turn:∀ n s,J n s→wpAny (model prog w) A (pyNext it) (fun r s1=>match r with
   | none=>R (.ok .next) s1
   | some v=>wpAny (model prog w) A (letOwnedTupleGo target it v) (fun _ s1'=>wpAny (model prog w) A (assign target env v) (fun _ s2 =>
     wpAny (model prog w) A (forIn ifs true fun c r=>if r=true then do let ok ← isTrue c env (eval c env); pure (ForInStep.yield ok) else pure (ForInStep.yield r)) (fun ok s3 =>
      if ok=true then wpAny (model prog w) A (eval elt env) (fun x s4 =>
       wpAny (model prog w) A (call (.builtin "list.append") [acc,x]) (fun _ s5=>∃ m,m < n∧J m s5) (fun _ _=>False) s4) (fun _ _=>False) s3
      else ∃ m,m < n∧J m s3) (fun _ _=>False) s2) (fun _ _=>False) s1') (fun _ _=>False) s1) (fun _ _=>False) s)
  (n:Nat) (h:J n s):codeAny (model prog w) A (.compLoop (.ListComp elt [⟨target,iter,ifs,0⟩] scope pos) 0 it acc env) R s:=by
 have no:∀ {E:Value→Shared→Prop} (e:Value) (s:Shared),(fun (_:Value) (_:Shared)=>False) e s→E e s:=fun _ _ f=>f.elim
 refine codeAny_loop rfl J (fun n s hJ=>?_) n h
 show wpAny _ A ((compTurn (.ListComp elt [⟨target,iter,ifs,0⟩] scope pos) 0 it acc env).onRaise _) _ _ s
 refine wpAny_noted ?_
 rw [compTurn_list]
 refine wpAny_bind (wpAny_standAt (wpAny_bind (wpAny_mono (turn n s hJ) (fun r s1 h1=>?_) no)))
 cases r with
 | none=>exact wpAny_pure h1
 | some v =>
  refine wpAny_bind (wpAny_mono h1 (fun _ s1' h1'=>wpAny_bind (wpAny_mono h1' (fun _ s2 h2=>wpAny_bind (wpAny_mono h2 (fun ok s3 h3=>?_) no)) no)) no)
  cases ok with
  | false=>exact wpAny_pure ⟨rfl,h3⟩
  | true=>exact wpAny_bind (wpAny_bind (wpAny_mono h3 (fun x s4 h4=>wpAny_bind (wpAny_mono h4 (fun _ s5 h5=>wpAny_pure (wpAny_pure ⟨rfl,h5⟩)) no)) no))
abbrev Cx.comp (X:Cx) (x:Str) (scope:Scope) (cl:List (Str × Addr)) (C:Addr) (fp:List Addr) (s:Shared) (H:Hp):Cx :=
 { X with N:=x :: X.N,s₀:=s,H₀:=H,env:=compEnvC scope cl C X.env,outer:=X.stack,ex:=fp,fn:=fun _=>false,pn:=[],xe:=fun _ _=>False }
def capOk (scope:Scope) (env:Env) (y:Str):Bool:=match scope.names.lookup y with
 | none=>true
 | some .free=>env.kindOf y == some .cell || env.kindOf y == some .free
 | some _=>false
structure CompSc (X:Cx) (x:Str) (scope:Scope):Prop where
 kind:scope.kind=.function
 cell:∀ y ∈ scope.names,y.2 ≠ .cell
 names:∀ y ∈ scope.names,y.2=.local→scope.names.lookup y.1=some .local
 hx:scope.names.lookup x=some .local
 free:∀ y ∈ scope.names,y.2=.free→X.env.kindOf y.1=some .cell ∨ X.env.kindOf y.1=some .free
 cap:∀ y ∈ X.N,capOk scope X.env y=true
 nd:(x :: X.N).Nodup
theorem free_mem {scope:Scope} {y:Str} (h:scope.names.lookup y=some .free):(y,NameKind.free) ∈ scope.names:=PySem.mem_of_lookup h
theorem comp_inv {X:Cx} {x:Str} {scope:Scope} {cl:List (Str × Addr)} {fp:List Addr} {pins:List (Addr × Obj)} {σ:St} {H:Hp} {s:Shared} {h':Heap} {tk:Nat} {m:Str→Option Value} (S:CompSc X x scope) (I:Inv X pins σ H s)
  (hns:h'.Ns s.heap.objs.size m) (hk:∀ b o,s.heap.get? b=some o→h'.get? b=some o) (hf:∀ b ∈ fp,FpOk X pins H b) (ho:∀ b ∈ fp,∃ o,s.heap.get? b=some o)
  (hsub:∀ y c,cl.lookup y=some c→X.env.cells.lookup y=some c) (hall:∀ y ∈ scope.names,y.2=.free→∃ c,cl.lookup y.1=some c) :
  Inv (X.comp x scope cl s.heap.objs.size fp s H) (X.pn ++ pins) (none :: σ) H { s with heap:=h',toks:=tk }:=by
 refine ⟨⟨I.ok.mod,S.kind,I.ok.glob,I.ok.blt,Nat.le_refl _,fun y z c h1 h2=>I.ok.inj y z c (hsub y c h1) (hsub z c h2),fun y hy=>?_,fun y c hfn=>absurd hfn Bool.false_ne_true,I.ok.hd,I.ok.frames,.inl rfl,fun b hb=>⟨?_,fun y c e=>(hf b hb).2.2.2.2.1 y c (hsub y c e)⟩,
  I.bs,Nat.le_trans I.ok.bsz I.sz,fun b o e hb=>?_,fun b hb hs=>?_,I.stack,I.stkFree⟩,rfl,I.bare,Un.kept hk,⟨m,hns,fun i y v e1 e2 e3=>?_⟩,fun y c e=>?_,I.fresh,fun y c e=>I.freeC y c (hsub y c e),fun p hp=>?_,I.hok.kept hk,?_⟩
 ·have hy':∃ k,(k=NameKind.cell ∨ k=NameKind.free)∧(relabel scope X.env).names.lookup y=some k:=by
   rcases hy with z | z
   ·exact ⟨_,.inl rfl,z⟩
   ·exact ⟨_,.inr rfl,z⟩
  obtain ⟨k,hk',e⟩:=hy'
  obtain ⟨k0,e0,r⟩:=rel_look e
  have kf:k0=.free:=by
   rcases r with r | r
   ·subst r
    rcases hk' with z | z
    ·subst z
     exact absurd rfl (S.cell _ (PySem.mem_of_lookup e0))
    ·exact z
   ·exact r.1
  subst kf
  exact hall (y,.free) (free_mem e0) rfl
 ·obtain ⟨o,e⟩:=ho b hb
  exact Nat.ne_of_lt (Heap.lt_size e)
 ·rcases (hf b hb).2.2.2.1 with z | z
  ·exact I.ok.noex b o e z
  ·exact absurd (Nat.lt_of_lt_of_le (Heap.lt_size e) (Nat.le_trans I.ok.bsz z)) (Nat.lt_irrefl _)
 ·rcases List.mem_cons.mp (I.stkSub b hs) with z | z
  ·exact (hf b hb).2.1 z
  ·exact (hf b hb).2.2.1 z
 ·cases i with
  | zero=>simp at e2
  | succ i =>
   have e1':X.N[i]?=some y:=by simpa using e1
   have e2':σ[i]?=some (some v):=by simpa using e2
   have hc:=S.cap y (List.mem_of_getElem? e1')
   have hvis:∃ k,(relabel scope X.env).names.lookup y=some k:=by
    rcases e3 with z | z | z
    ·exact ⟨_,z⟩
    ·exact ⟨_,z⟩
    ·exact ⟨_,z⟩
   obtain ⟨k,ek⟩:=hvis
   obtain ⟨k0,e0,r⟩:=rel_look ek
   unfold capOk at hc
   rw [e0] at hc
   have kf:k0=.free:=by cases k0 <;> simp_all
   subst kf
   have hkk:X.env.kindOf y=some .cell ∨ X.env.kindOf y=some .free:=by simpa using hc
   obtain ⟨m0,hn0,hl0⟩:=I.loc
   obtain ⟨u,ru,l⟩:=hl0 i y v e1' e2' (.inr hkk)
   refine ⟨u,ru,.inr ?_⟩
   obtain ⟨c',hc'⟩:=hall (y,.free) (free_mem e0) rfl
   rcases l with ⟨z,_⟩ | ⟨_,c,ec,⟨o,ho',hd'⟩⟩
   ·rcases hkk with q | q <;> rw [z] at q <;> cases q
   ·have e4:=hsub y c' hc'
    rw [ec] at e4
    have e5:c=c':=Option.some.inj e4
    subst e5
    refine ⟨?_,c,hc',o,hk _ _ ho',hd'⟩
    rcases r with r | r
    ·subst r
     exact .inr ek
    ·obtain ⟨_,r⟩:=r
     subst r
     exact .inl ek
 ·obtain ⟨v,o,ho',hd'⟩:=I.cell y c (hsub y c e)
  exact ⟨v,o,hk _ _ ho',hd'⟩
 ·have hp':p ∈ X.pn ++ pins:=by simpa using hp
  obtain ⟨e,n,ne,nf,d⟩:=I.pin p hp'
  refine ⟨hk _ _ e,n,Nat.ne_of_lt (Heap.lt_size e),fun z=>?_,d⟩
  rcases List.mem_cons.mp (I.stkSub p.1 z) with q | q
  ·exact ne q
  ·exact nf q
 ·show σ.length + 1=X.N.length + 1
  rw [I.len]
def PTs (X:Cx) (ifs:List Expr) (t:TT):Prop :=
 ∀ (pins:List (Addr × Obj)) (s:Shared) (σ:St) (H:Hp) (Q:Bool→Hp→Prop),Inv X pins σ H s→t σ H Q →
  wpAny (model X.prog X.w) X.A (forIn ifs true fun c r=>if r=true then do let ok ← isTrue c X.env (eval c X.env); pure (ForInStep.yield ok) else pure (ForInStep.yield r)) (TP X pins σ Q) X.xe s
def ttAll:TT:=fun _ H Q=>Q true H
theorem pts_nil {X:Cx}:PTs X [] ttAll:=fun pins s σ H Q I h=>by
 rw [List.forIn_nil]
 exact wpAny_pure ⟨H,I,h⟩
theorem pts_one {X:Cx} {c:Expr} {t:TT} (hc:PT X c t):PTs X [c] t:=fun pins s σ H Q I h=>by
 rw [List.forIn_cons,if_pos rfl]
 refine wpAny_bind (wpAny_bind (thn (hc pins s σ H Q I h) fun ok s1 q=>wpAny_pure ?_))
 try dsimp only
 rw [List.forIn_nil]
 exact wpAny_pure q
def CompGo (J:It) (H1:Hp) (σ:St) (tt:TT) (te:TE) (Q:VK):Prop:=∀ D,H1 D=none→∃ W:Nat→Nat→Hp→Prop,(∃ m,W 0 m (upd H1 D (.lst [])))∧∀ i m H,W i m H →
 (J.stop i H∧Q (.ref D) H) ∨ (J.go i H∧∀ x H',J.yld i H x H'→tt (some x :: σ) H' fun b H2=>if b=true then te (some x :: σ) H2 fun y H3=>∃ ys,H3 D=some (.lst ys)∧ys.length < sizeLine∧∃ m',m' < m∧W (i + 1) m' (upd H3 D (.lst (ys ++ [y])))
  else ∃ m',m' < m∧W (i + 1) m' H2)
def tComp (wi:TI) (tt:TT) (te:TE):TE:=fun σ H Q=>wi σ H fun J H1=>CompGo J H1 σ tt te Q
section
variable {X:Cx} {x:Str} {px pos:Pos} {elt iter:Expr} {ifs:List Expr} {scope:Scope} {wi:TI} {tt:TT} {te:TE}
theorem comp_core {pins:List (Addr × Obj)} {σ:St} {H2:Hp} {s2:Shared} {it:Addr} {fp:List Addr} {tn:Nat→Heap→Prop} {J:It} {Q:VK} {cl:List (Str × Addr)} {E:Value→Shared→Prop} {RR:Value→Addr→Result→Shared→Prop}
  (S:CompSc X x scope) (hcal:X.calm=true) (hclos:(∀ y c,cl.lookup y=some c→X.env.cells.lookup y=some c)∧∀ y ∈ scope.names,y.2=.free→∃ c,cl.lookup y.1=some c)
  (ht:∀ cl C fp s H,PTs (X.comp x scope cl C fp s H) ifs tt) (he:∀ cl C fp s H,PE (X.comp x scope cl C fp s H) elt te)
  (I2:Inv X pins σ H2 s2) (T:Turn X.prog X.w X.K (.Name x px) J fp it tn) (st2:tn 0 s2.heap) (f2:∀ b ∈ fp,FpOk X pins H2 b)
  (q:CompGo J H2 σ tt te Q)
  (hRR:∀ D C s' H' m',Inv X pins σ H' s'→s'.heap.Ns C m'→FpOk X pins H' C→Q (.ref D) H'→RR (.ref D) C (.ok .next) s') :
  wpAny (model X.prog X.w) X.A (newList []) (fun acc s3=>wpAny (model X.prog X.w) X.A (newFunctionEnv scope X.env.globals cl [] X.env.qual none .none (some X.env)) (fun cenv s4 =>
   codeAny (model X.prog X.w) X.A (.compStart (.ListComp elt [⟨.Name x px,iter,ifs,0⟩] scope pos) 0 (.ref it) acc { cenv with scope:=relabel scope X.env }) (RR acc cenv.locals) s4) E s3) E s2:=by
 obtain ⟨hsub,hall⟩:=hclos
 refine wpAny_newObj_type (wpAny_newFunctionEnv S.cell (by intro y hy; simp at hy) (fun h1 hns hsb=>?_) S.kind)
 have I3:Inv X pins σ (upd H2 s2.heap.objs.size (.lst [])) { s2 with heap:=s2.heap.push { cls:=.type "list",data:=.seq ([]:List Value).toArray } }:=I2.lnew (t':=s2.toks) .nil (by simp)
 have hD:H2 s2.heap.objs.size=none:=I2.fresh
 obtain ⟨W,⟨m0,w0⟩,turn⟩:=q _ hD
 generalize hs3:({ s2 with heap:=s2.heap.push { cls:=.type "list",data:=.seq ([]:List Value).toArray } }:Shared)=s3 at I3
 have hs3':({ s2 with heap:=s2.heap.push { cls:=.type "list",dict:=none,data:=.seq ([]:List Value).toArray } }:Shared)=s3:=hs3
 dsimp only at hns hsb ⊢
 generalize hDD:s2.heap.objs.size=D at *
 have eh:s2.heap.push { cls:=.type "list",dict:=none,data:=.seq ([]:List Value).toArray }=s3.heap:=by rw [← hs3]
 rw [eh] at hns hsb
 have keep:∀ b o,s3.heap.get? b=some o→h1.get? b=some o:=fun b o e=>hsb.extBut b o (Nat.ne_of_lt (Heap.lt_size e)) (Heap.get?_push_of_some _ e)
 have objs:∀ b ∈ fp,∃ o,s3.heap.get? b=some o:=fun b hb=>by
  obtain ⟨o,e,_⟩:=T.obj _ _ st2 b hb
  rw [← eh]
  exact ⟨o,Heap.get?_push_of_some _ e⟩
 have f3:∀ b ∈ fp,FpOk X pins (upd H2 D (.lst [])) b:=fun b hb=>by
  obtain ⟨o,e,_⟩:=T.obj _ _ st2 b hb
  have ne:b ≠ D:=by rw [← hDD]; exact Nat.ne_of_lt (Heap.lt_size e)
  exact ⟨by rw [upd_ne ne]; exact (f2 b hb).1,(f2 b hb).2⟩
 have I4:Inv (X.comp x scope cl s3.heap.objs.size fp s3 (upd H2 D (.lst []))) (X.pn ++ pins) (none :: σ) (upd H2 D (.lst [])) { s3 with heap:=h1,toks:=s3.toks + ([]:List (Str × Value)).length }:=comp_inv S I3 hns keep f3 objs hsub hall
 have st4:tn 0 h1:=T.keep _ _ _ st2 fun b hb o e=>keep b o (by rw [← eh]; exact Heap.get?_push_of_some _ e)
 -- what stays true of the iterator's objects
 have stat:∀ {H':Hp},(∀ b ∈ fp,H' b=none)→∀ b ∈ fp,FpOk (X.comp x scope cl s3.heap.objs.size fp s3 (upd H2 D (.lst []))) (X.pn ++ pins) H' b:=fun hn b hb=>by
  refine ⟨hn b hb,(I4.ok.exf b hb).1,I4.ok.exfs b hb,.inl hb,(I4.ok.exf b hb).2,fun p hp=>(f3 b hb).2.2.2.2.2 p (by simpa using hp)⟩
 have loop:codeAny (model X.prog X.w) X.A (.compLoop (.ListComp elt [⟨.Name x px,iter,ifs,0⟩] scope pos) 0 (.ref it) (.ref D) (compEnvC scope cl s3.heap.objs.size X.env)) (RR (.ref D) s3.heap.objs.size) { s3 with heap:=h1,toks:=s3.toks + ([]:List (Str × Value)).length }:=by
  refine comp_loop_go (fun n s'=>∃ i o H',Inv (X.comp x scope cl s3.heap.objs.size fp s3 (upd H2 D (.lst []))) (X.pn ++ pins) (o :: σ) H' s'∧tn i s'.heap∧(∀ b ∈ fp,H' b=none)∧W i n H') ?_ m0
   ⟨0,none,_,I4,st4,fun b hb=>(f3 b hb).1,w0⟩
  rintro n s5 ⟨i,o,H5,I5,st5,fr5,w5⟩
  rcases turn i n H5 w5 with ⟨stop,qn⟩ | ⟨go,step⟩
  ·refine thn (T.done (X.comp x scope cl s3.heap.objs.size fp s3 (upd H2 D (.lst []))) rfl rfl rfl hcal i _ s5 _ H5 _ I5 (stat fr5) st5 stop) fun r s6 ⟨hr,I6⟩=>?_
   subst hr
   obtain ⟨m6,hn6,_⟩:=I6.loc
   have I7:Inv X pins σ H5 s6:=I3.call' (ch:=fp) I6.os I6.base I6.hok I6.bare fun b hb=>⟨(f3 b hb).2.2.2.1,(f3 b hb).2.1,(f3 b hb).2.2.2.2.1,(f3 b hb).2.2.2.2.2⟩
   exact hRR D s3.heap.objs.size s6 H5 m6 I7 hn6 (I3.fpOk (Nat.le_refl _) I6.free) qn
  ·refine thn (T.item (X.comp x scope cl s3.heap.objs.size fp s3 (upd H2 D (.lst []))) rfl rfl rfl hcal i _ s5 _ H5 _ I5 (stat fr5) st5 go) fun r s6 ⟨u,hr,h6⟩=>?_
   subst hr
   refine thn h6 fun _ s7 ⟨y,H7,I7,r7,y7,st7,fr7⟩=>?_
   have I7':=I7.pinned (stat fr7) (T.obj _ _ st7)
   have hxl:(relabel scope X.env).names.lookup x=some .local:=lookup_relabel_local S.hx
   refine thn (pg_name (X:=X.comp x scope cl s3.heap.objs.size fp s3 (upd H2 D (.lst []))) (i:=0) S.nd rfl (.inl hxl) (.inr hxl) _ s7 (o :: σ) H7 y u (fun σ' H'=>σ'=some y :: σ∧H'=H7) I7' r7 ⟨rfl,rfl⟩) fun _ s8 ⟨σ8,H8,I8,e8,e8'⟩=>?_
   subst e8 e8'
   refine thn (ht _ _ _ _ _ _ s8 _ H8 _ I8 (step y H8 y7)) fun ok s9 ⟨H9,I9,q9⟩=>?_
   have back:∀ {H':Hp} {s':Shared} {m':Nat},Inv (X.comp x scope cl s3.heap.objs.size fp s3 (upd H2 D (.lst []))) (X.pn ++ pins ++ pinsAt fp s7.heap) (some y :: σ) H' s'→m' < n→W (i + 1) m' H' →
     ∃ m,m < n∧∃ i o H',Inv (X.comp x scope cl s3.heap.objs.size fp s3 (upd H2 D (.lst []))) (X.pn ++ pins) (o :: σ) H' s'∧tn i s'.heap∧(∀ b ∈ fp,H' b=none)∧W i m H':=fun {H' s' m'} I' hm w'=>by
    have pin:∀ b o,b ∈ fp→s7.heap.get? b=some o→s'.heap.get? b=some o∧H' b=none:=fun b o hb e=>by
     have z:=I'.pin (b,o) (List.mem_append_right _ (List.mem_append_right _ (mem_pinsAt hb e)))
     exact ⟨z.1,z.2.1⟩
    refine ⟨m',hm,i + 1,some y,H',I'.unpinned,T.keep _ _ _ st7 fun b hb o e=>(pin b o hb e).1,fun b hb=>?_,w'⟩
    obtain ⟨o',e,_⟩:=T.obj _ _ st7 b hb
    exact (pin b o' hb e).2
   cases ok with
   | false =>
    rw [if_neg Bool.false_ne_true] at q9 ⊢
    obtain ⟨m',hm,w'⟩:=q9
    exact back I9 hm w'
   | true =>
    rw [if_pos rfl] at q9 ⊢
    refine thn (he _ _ _ _ _ _ s9 _ H9 _ I9 q9) fun v s10 ⟨z,H10,I10,r10,q10⟩=>?_
    obtain ⟨ys,e10,l10,m',hm,w'⟩:=q10
    refine thn (mt_append _ s10 _ H10 (.ref D) [z] (.ref D) [v] (fun _ H'=>H'=upd H10 D (.lst (ys ++ [z]))) I10 rfl (.cons r10 .nil) ⟨D,ys,z,rfl,rfl,e10,l10,rfl⟩) fun _ s11 ⟨_,H11,I11,_,e11⟩=>?_
    subst e11
    exact back I11 hm w'
 exact codeAny_compStart_list loop (T.self _ 0 _ _ _ st4 loop)
theorem pe_comp (S:CompSc X x scope) (hcal:X.calm=true) (hi:PI X (.Name x px) iter wi) (ht:∀ cl C fp s H,PTs (X.comp x scope cl C fp s H) ifs tt) (he:∀ cl C fp s H,PE (X.comp x scope cl C fp s H) elt te)
  (hs:∀ x,foldedSetIterable iter X.env x=pure x:=by intro _; rfl):PE X (.ListComp elt [⟨.Name x px,iter,ifs,0⟩] scope pos) (tComp wi tt te):=by
 intro pins s σ H Q I h
 obtain ⟨cl,hcl,hc⟩:=clos_ok (env:=X.env) (scope:=scope) fun y hy hf=>I.ok.has y.1 (S.free y hy hf)
 rw [eval_ListComp]
 refine wpAny_comprehension_free (use:=none) rfl hs hcl S.kind S.names (thn (hi pins s σ H _ I h) fun xv s1 h1=>thn h1 fun itv s2 h2=>?_)
 obtain ⟨it,fp,tn,J,H2,e,I2,T,st2,f2,q⟩:=h2
 subst e
 refine comp_core (RR:=fun acc C=>compPost (model X.prog X.w) X.A X.xe none (EP X pins σ Q) acc C) S hcal hc ht he I2 T st2 f2 q ?_
 intro D C s' H' m' I' hn F' hq
 exact ⟨m',hn,fun h' sb=>⟨.ref D,H',I'.turned (t':=s'.toks) (fun b o hb e=>(sb.2 b hb).trans e) F'.1 F'.2.1 F'.2.2.2.1 F'.2.2.2.2.1 F'.2.2.2.2.2,rfl,hq⟩⟩
theorem ps_setComp {i:Nat} {y:Str} {py spos:Pos} (S:CompSc X x scope) (hcal:X.calm=true) (hN:X.N.Nodup) (hiN:X.N[i]?=some y) (hy:Loc X.env.scope y) (hi:PI X (.Name x px) iter wi) (ht:∀ cl C fp s H,PTs (X.comp x scope cl C fp s H) ifs tt)
  (he:∀ cl C fp s H,PE (X.comp x scope cl C fp s H) elt te) (hsw:swapsWith (.ListComp elt [⟨.Name x px,iter,ifs,0⟩] scope pos) (some (.Name y py)) spos.line X.env=pure true)
  (hs:∀ x,foldedSetIterable iter X.env x=pure x:=by intro _; rfl) (hf:X.fn y=true ∨ X.env.scope.names.lookup y=some .local:=by first | exact .inl rfl | exact .inr rfl | assumption) :
  PS X (.Assign [.Name y py] (.ListComp elt [⟨.Name x px,iter,ifs,0⟩] scope pos) spos) (tAsg (tComp wi tt te) (gName i)):=by
 intro pins s σ H D0 I h
 obtain ⟨cl,hcl,hc⟩:=clos_ok (env:=X.env) (scope:=scope) fun y hy hf=>I.ok.has y.1 (S.free y hy hf)
 rw [exec_Assign_Name_used _ _ _ _ hsw]
 refine wpAny_bind (wpAny_standAt (wpAny_bind ?_))
 show wpAny _ _ (do let _ ← comprehension (.ListComp elt [⟨.Name x px,iter,ifs,0⟩] scope pos) scope X.env _ (newList []) false (eval iter X.env) (some (assign (.Name y py) X.env))) _ _ s
 refine wpAny_bind (thn (wpAny_comprehension_free (use:=some (assign (.Name y py) X.env)) (Q:=fun _ s'=>SP X pins D0 .next s') rfl hs hcl S.kind S.names (thn (hi pins s σ H _ I h) fun xv s1 h1=>thn h1 fun itv s2 h2=>?_)) fun _ s' hq=>wpAny_pure (wpAny_pure hq))
 obtain ⟨it,fp,tn,J,H2,e,I2,T,st2,f2,q⟩:=h2
 subst e
 refine comp_core (Q:=fun v H=>D0.nx (σ.set i (some v)) H) (RR:=fun acc C=>compPost (model X.prog X.w) X.A X.xe (some (assign (.Name y py) X.env)) (fun _ s'=>SP X pins D0 .next s') acc C) S hcal hc ht he I2 T st2 f2 q ?_
 intro D C s' H' m' I' hn F' hq
 show wpAny _ _ (assign (.Name y py) X.env (.ref D)) _ _ s'
 refine wpAny_assign_Name (store_ok2 (v:=.ref D) I' hN hiN hy rfl (fun s'' I'' ch=>?_) hf)
 obtain ⟨a,sb,ha⟩:=ch
 have ne:C ≠ a:=by
  rcases ha with z | z
  ·rw [z]; exact F'.2.1
  ·exact Ne.symm (F'.2.2.2.2.1 y a z)
 refine ⟨m',hn.sameBut sb ne,fun h' sb'=>⟨_,H',I''.turned (t':=s''.toks) (fun b o hb e=>(sb'.2 b hb).trans e) F'.1 F'.2.1 F'.2.2.2.1 F'.2.2.2.2.1 F'.2.2.2.2.2,hq⟩⟩
end
end L2
namespace L2
open PySem PySem.Spec PyProof.Rows
open AutoSeq1 (wpAny_loadPart')
section
variable {prog:Program} {w:World} {A:Around} {E:Value→Shared→Prop} {s:Shared}
end
section
variable {prog:Program} {w:World} {A:Around} {E:Value→Shared→Prop} {s:Shared}
end
end L2
namespace L2
open PySem PySem.Spec PyProof.Rows
section
variable {prog:Program} {w:World} {A:Around} {E:Value→Shared→Prop} {s:Shared}
end
end L2
namespace L2
open PySem PySem.Spec PyProof.Rows
section
variable {X:Cx} {pins:List (Addr × Obj)} {σ:St} {H:Hp} {s:Shared} {h':Heap}
theorem Inv.turnedNew {t':Nat} {ch:List Addr} {a:Addr} {o:HO} (I:Inv X pins σ H s) (k:∀ b u,b ∉ ch→s.heap.get? b=some u→h'.get? b=some u) (hch:∀ b ∈ ch,FpOk X pins H b)
  (hp:s.heap.objs.size ≤ a) (new:ObjOk X.prog X.w (upd H a o) h' a o):Inv X pins σ (upd H a o) { s with heap:=h',toks:=t' }:=by
 have hn:H a=none:=I.hok.fresh hp
 have nch:∀ b u,H b=some u→b ∉ ch:=fun b u e z=>by rw [(hch b z).1] at e; cases e
 refine I.step (g':=s.gens) (d':=s.drawn) (ch:=ch) (fun b hb=>⟨(hch b hb).2.2.2.1,(hch b hb).2.1,(hch b hb).2.2.2.2.1,(hch b hb).2.2.2.2.2⟩) (fun b o _ _ hc e _=>k b o hc e) (fun b o _ _ hc e _=>⟨o.slots,k b o hc e⟩)
  (fun b u hc e n=>by rw [upd_ne (Nat.ne_of_lt (Nat.lt_of_lt_of_le (Heap.lt_size e) hp))]; exact n) (fun b o hc e=>⟨o,k b o hc e⟩) (fun b xs e=>by rw [upd_ne (ne_of_none e hn)]; exact e) (fun b u xs e=>by rw [upd_ne (ne_of_none e hn)]; exact e)
  (fun b ps e=>⟨#[],by rw [upd_ne (ne_of_none e hn),e]; simp⟩) (fun m hm=>?_) (fun b u e=>?_) I.bare
 ·obtain ⟨ob,es,ep,ho,r⟩:=hm
  exact ⟨ob,es,ep,k _ ob (fun z=>(hch _ z).2.1 rfl) ho,r⟩
 ·by_cases hb:b=a
  ·subst hb
   rw [upd_same] at e
   cases e
   exact new
  ·rw [upd_ne hb] at e
   refine (I.hok b u e).stay (fun c v hc q=>k c v ?_ q) (fun c q=>by rw [upd_ne (ne_of_none q hn)]; exact q) fun c xs q=>by rw [upd_ne (ne_of_none q hn)]; exact q
   rcases hc with z | z
   ·rw [z]
    exact nch b u e
   ·exact nch c _ z
end
section
variable {M:Model} {A:Around} {E:Value→Shared→Prop} {s:Shared} {env:Env}
end
section
variable {X:Cx} {es:List Expr} {kk:Nat} {pt:Pos}
end
end L2
namespace L2
open PySem PySem.Spec PyProof.Rows
open AutoSeq1 (wpAny_loadPart')
section
variable {X:Cx}
def bothIf {α:Type} (p:α→α→Bool):Option α→Option α→Bool
 | some a,some b=>p a b
 | _,_=>true
theorem all_range {α:Type} (p:α→α→Bool):∀ (xs ys:List α),xs.length=ys.length→((List.range xs.length).all fun j=>bothIf p xs[j]? ys[j]?)=(xs.zip ys).all fun q=>p q.1 q.2
 | [],_,_=>by simp
 | x :: xs,[],h=>by simp at h
 | x :: xs,y :: ys,h=>by
  have ih:=all_range p xs ys (by simpa using h)
  rw [List.length_cons,List.range_succ_eq_map,List.all_cons,List.all_map,List.zip_cons_cons,List.all_cons,← ih]
  congr 1
def rInst (K:PySem.W.Frag):List V→Hp→VK→Prop:=fun xs H Q=>∃ x n t b,xs=[x,.ty n]∧TyOf K H x t∧PySem.W.kitOne K t (.type n)=some b∧Q (.bl b) H
theorem call_isinst:CallR X (.builtin "isinstance") (rInst X.K):=by
 intro pins s σ H xs us Q I r h
 obtain ⟨x,n,t,b,e1,ty,e2,q⟩:=h
 subst e1
 obtain ⟨u,v,e3,r1,r2⟩:=vals2 r
 subst e3
 obtain rfl:v=Value.type n:=r2
 exact isinst_ok I r1 ty e2 fun tk=>⟨.bl b,H,I.tok tk,rfl,q⟩
end
end L2
namespace L2
open PySem PySem.Spec PyProof.Rows
def compChk (fs:Scope) (N:List Str) (x:Str) (scope:Scope):Bool :=
 decide (scope.kind=.function) && scope.names.all (fun y=>decide (y.2 ≠ .cell)) && scope.names.all (fun y=>decide (y.2=.local→scope.names.lookup y.1=some .local)) && decide (scope.names.lookup x=some .local) &&
 scope.names.all (fun y=>decide (y.2=.free→fs.names.lookup y.1=some .cell ∨ fs.names.lookup y.1=some .free)) &&
 N.all (fun y=>match scope.names.lookup y with
  | none=>true
  | some .free=>decide (fs.names.lookup y=some .cell ∨ fs.names.lookup y=some .free)
  | some _=>false) && decide ((x :: N).Nodup)
theorem compSc_mk {X:Cx} {x:Str} {scope fs:Scope} {N:List Str} (hs:X.env.scope=fs) (hN:X.N=N) (c:compChk fs N x scope=true):CompSc X x scope:=by
 subst hs hN
 unfold compChk at c
 simp only [Bool.and_eq_true,List.all_eq_true,decide_eq_true_eq] at c
 obtain ⟨⟨⟨⟨⟨⟨c1,c2⟩,c3⟩,c4⟩,c5⟩,c6⟩,c7⟩:=c
 refine ⟨c1,c2,c3,c4,c5,fun y hy=>?_,c7⟩
 have q:=c6 y hy
 unfold capOk
 cases e:scope.names.lookup y with
 | none=>rfl
 | some k =>
  rw [e] at q
  cases k with
  | free =>
   have q2:X.env.scope.names.lookup y=some .cell ∨ X.env.scope.names.lookup y=some .free:=by simpa using q
   show (X.env.kindOf y == some .cell || X.env.kindOf y == some .free)=true
   have e2:X.env.kindOf y=X.env.scope.names.lookup y:=rfl
   rw [e2]
   rcases q2 with z | z <;> rw [z] <;> rfl
  | _=>simp at q
end L2
namespace L2
open PySem PySem.Spec PyProof.Rows
section
variable {X:Cx}
theorem eqs_at {A:Around} {s:Shared} {xs ys:List V} {us ws:List Value} (r:Vals xs us) (r2:Vals ys ws) (hl:xs.length=ys.length) (fx:xs.all flatV=true) (fy:ys.all flatV=true) (j:Nat) (h1:j < us.toArray.size) (h2:j < ws.toArray.size) :
  SeqAt.EqAt A s us.toArray[j] ws.toArray[j] (bothIf eqV xs[j]? ys[j]?):=by
 have l1:=r.length
 have l2:=r2.length
 rw [List.size_toArray] at h1 h2
 have g1:j < xs.length:=by omega
 have g2:j < ys.length:=by omega
 obtain ⟨w1,q1,p1⟩:=r.get (i:=j) (x:=xs[j]) (by simp [g1])
 obtain ⟨w2,q2,p2⟩:=r2.get (i:=j) (x:=ys[j]) (by simp [g2])
 have s1:us.toArray[j]=w1:=by
  rw [List.getElem?_eq_getElem h1] at q1
  simpa using q1
 have s2:ws.toArray[j]=w2:=by
  rw [List.getElem?_eq_getElem h2] at q2
  simpa using q2
 rw [s1,s2]
 simp only [List.getElem?_eq_getElem g1,List.getElem?_eq_getElem g2]
 exact eqAt_V p1 p2 (List.all_eq_true.mp fx _ (List.getElem_mem g1)) (List.all_eq_true.mp fy _ (List.getElem_mem g2))
def rNeL (K:PySem.W.Frag):R2:=fun x y H Q=>∃ a b xs ys,x=.ref a∧y=.ref b∧SqL K H a xs∧SqL K H b ys∧xs.length=ys.length∧xs.all flatV=true∧ys.all flatV=true∧Q (.bl (!(xs.zip ys).all fun p=>eqV p.1 p.2)) H
theorem op_neL (hu:X.A.units < cLine):OpR X (compareOp .NotEq) (rNeL X.K):=by
 intro pins s σ H x y v u Q I rx ry h
 obtain ⟨a,b,xs,ys,e1,e2,hA,hB,hl,fx,fy,q⟩:=h
 subst e1 e2
 obtain rfl:v=Value.ref a:=rx
 obtain rfl:u=Value.ref b:=ry
 obtain ⟨its,r,pl,hz⟩:=I.list hA
 obtain ⟨its2,r2,pl2,hz2⟩:=I.list hB
 have l1:=r.length
 have l2:=r2.length
 refine SeqAt.RcNeAt.lists (e:=fun j=>bothIf eqV xs[j]? ys[j]?) pl.isList pl2.isList (by rw [List.size_toArray,List.size_toArray]; omega) hu (fun j h1 h2=>eqs_at r r2 hl fx fy j h1 h2) _ _ _ _ ⟨.bl _,H,I,rfl,?_⟩
 rw [List.size_toArray,← l1,all_range eqV xs ys hl]
 exact q
end
section
variable {X:Cx} {K:PySem.W.Frag}
end
end L2
namespace L2
open PySem
section
variable {prog:Program} {w:World} {A:Around} {R:Result→Shared→Prop} {I Z:Addr} {fp wr:List Addr} {n:Nat} {P:Nat→Value→Prop} {St:Nat→Heap→Prop} {Ok:Heap→Prop}
end
section
variable {prog:Program} {w:World} {A:Around} {E:Value→Shared→Prop} {s:Shared}
end
end L2
namespace L2
open PySem PySem.Spec PyProof.Rows
theorem Vals.at {xs:List V} {us:List Value} {i:Nat} {u:Value} (r:Vals xs us) (h:us[i]?=some u):∃ x,xs[i]?=some x∧RelV x u:=by
 have hi:i < us.length:=(List.getElem?_eq_some_iff.mp h).1
 have hl:=r.length
 obtain ⟨w,q,p⟩:=r.get (i:=i) (x:=xs[i]) (by simp [show i < xs.length by omega])
 rw [h] at q
 cases q
 exact ⟨xs[i],by simp [show i < xs.length by omega],p⟩
theorem bl_at {bs:List Bool} {us:List Value} {i:Nat} {u:Value} (r:Vals (bs.map V.bl) us) (h:us[i]?=some u):∃ b,bs[i]?=some b∧u=.bool b:=by
 obtain ⟨x,hx,p⟩:=r.at h
 rw [List.getElem?_map] at hx
 cases e:bs[i]? with
 | none=>rw [e] at hx; cases hx
 | some b =>
  rw [e] at hx
  have q:V.bl b=x:=Option.some.inj hx
  subst q
  exact ⟨b,rfl,p⟩
theorem all_getD:∀ bs:List Bool,((List.range bs.length).all fun i=>(bs[i]?).getD true)=bs.all id
 | []=>rfl
 | b :: bs=>by
  have ih:=all_getD bs
  rw [List.length_cons,List.range_succ_eq_map,List.all_cons,List.all_map,List.all_cons,← ih]
  rfl
section
variable {X:Cx}
def rSumL (K:PySem.W.Frag):List V→Hp→VK→Prop:=fun xs H Q=>∃ (p:Addr) (ns:List Int),xs=[.ref p]∧SqL K H p (ns.map V.int)∧Q (.int ns.sum) H
theorem call_sumL (hc:X.calm=true):CallR X (.builtin "sum") (rSumL X.K):=by
 intro pins s σ H xs us Q I r h
 obtain ⟨p,ns,e1,hS,q⟩:=h
 subst e1
 obtain ⟨u,e2,ru⟩:=vals1 r
 subst e2
 obtain rfl:u=Value.ref p:=ru
 obtain ⟨its,rv,pl,hz⟩:=I.list hS
 have ia:=intsAre_of rv
 obtain ⟨zs,ez⟩:=ia.allInts.items
 have en:ns=zs.toList.map (·.1):=by rw [← ia.numsOf,← nums_intItems,← ez]
 have hL:=pl.isList
 rw [ez] at hL
 refine sum_intListG (I.ok.hd hc) hL fun h' tk t' hk=>?_
 have e2:preSum (numAt zs) zs.size=ns.sum:=by rw [preSum_eq,List.take_of_length_le (by simp),en]
 rw [e2]
 exact ⟨.int _,H,I.kept hk,⟨t',rfl⟩,q⟩
def rAllL (K:PySem.W.Frag):List V→Hp→VK→Prop:=fun xs H Q=>∃ (p:Addr) (bs:List Bool),xs=[.ref p]∧SqL K H p (bs.map V.bl)∧Q (.bl (bs.all id)) H
theorem call_allL (hc:X.calm=true):CallR X (.builtin "all") (rAllL X.K):=by
 intro pins s σ H xs us Q I r h
 obtain ⟨p,bs,e1,hS,q⟩:=h
 subst e1
 obtain ⟨u,e2,ru⟩:=vals1 r
 subst e2
 obtain rfl:u=Value.ref p:=ru
 obtain ⟨its,rv,pl,hz⟩:=I.list hS
 have hL:=pl.isList
 have lt:p < s.heap.objs.size:=by
  obtain ⟨_,e,_⟩:=hL
  exact Heap.lt_size e
 refine call_all_walk (wpAny_pyIter_list hL ?_)
 refine ⟨s.heap.objs.size,[s.heap.objs.size,p],[s.heap.objs.size],its.toArray.size,_,_,fun i=>(bs[i]?).getD true,rfl,Walks.list (A:=X.A.in1) (I.ok.hd hc) _ p (Nat.ne_of_lt lt) its.toArray,
  ⟨⟨_,Heap.get?_push_size _ rfl,rfl,rfl⟩,hL.push _⟩,fun i v s' Q' E' hP hQ=>?_,fun h' tk hk=>?_⟩
 ·obtain ⟨b,e,e3⟩:=bl_at rv (by simpa using hP)
  subst e3
  simp only [e,Option.getD_some] at hQ
  exact wpAny_truthy_bool hQ
 ·have e:((List.range its.toArray.size).all fun i=>(bs[i]?).getD true)=bs.all id:=by
   have hl:=rv.length
   rw [List.length_map] at hl
   rw [List.size_toArray,← hl,all_getD]
  rw [e]
  refine ⟨.bl _,H,I.kept (t':=tk) fun b o eb=>hk b o (fun hm=>?_) (Heap.get?_push_of_some _ eb),rfl,q⟩
  rw [List.mem_singleton.mp hm] at eb
  exact Nat.lt_irrefl _ (Heap.lt_size eb)
def rEqN (K:PySem.W.Frag) (neg:Bool):R2:=fun x y H Q=>∃ a b xs,x=.ref a∧y=.ref b∧SqL K H a xs∧SqL K H b []∧Q (.bl (if neg then !xs.isEmpty else xs.isEmpty)) H
theorem op_neN (hu:X.A.units < cLine):OpR X (compareOp .NotEq) (rEqN X.K true):=by
 intro pins s σ H x y v u Q I rx ry h
 obtain ⟨a,b,xs,e1,e2,hA,hB,q⟩:=h
 subst e1 e2
 obtain rfl:v=Value.ref a:=rx
 obtain rfl:u=Value.ref b:=ry
 obtain ⟨its,r,pl,hz⟩:=I.list hA
 obtain ⟨its2,r2,pl2,hz2⟩:=I.list hB
 have l1:=r.length
 have l2:=r2.length
 rw [List.length_nil] at l2
 cases xs with
 | nil =>
  rw [List.length_nil] at l1
  refine SeqAt.RcNeAt.lists (e:=fun _=>true) pl.isList pl2.isList (by rw [List.size_toArray,List.size_toArray]; omega) hu (fun j h1 h2=>by rw [List.size_toArray] at h1; omega) _ _ _ _ ⟨.bl false,H,I,?_,q⟩
  show Value.bool _=Value.bool false
  congr 1
  rw [show ((List.range its.toArray.size).all fun _=>true)=true from List.all_eq_true.mpr fun _ _=>rfl]
  rfl
 | cons x0 xs0 =>
  rw [List.length_cons] at l1
  refine SeqAt.RcNeAt.lists_lengths pl.isList pl2.isList ?_ hu _ _ _ _ ⟨.bl true,H,I,rfl,q⟩
  rw [List.size_toArray,List.size_toArray]
  simp
  omega
end
section
variable {X:Cx}
end
end L2
namespace L2
open PySem PySem.Spec PyProof.Rows
section
variable {κ:Type} [DecidableEq κ]
def valV (kvs:List (κ × V)) (k:κ):Option V:=(kvs.find? fun kv=>decide (kv.1=k)).map (·.2)
def putK (kvs:List (κ × V)) (k:κ) (v:V):List (κ × V) :=
 if (kvs.any fun kv=>decide (kv.1=k))=true then kvs.map (fun kv=>if kv.1=k then (kv.1,v) else kv) else kvs ++ [(k,v)]
theorem valV_pos {p:κ × V} {r:List (κ × V)} {k:κ} (e:p.1=k):valV (p :: r) k=some p.2:=by simp [valV,List.find?_cons,e]
theorem valV_neg {p:κ × V} {r:List (κ × V)} {k:κ} (e:¬ p.1=k):valV (p :: r) k=valV r k:=by simp [valV,List.find?_cons,e]
theorem valV_any (k:κ):∀ kvs:List (κ × V),(kvs.any fun kv=>decide (kv.1=k))=(valV kvs k).isSome
 | []=>rfl
 | p :: r=>by
  rw [List.any_cons]
  by_cases e:p.1=k
  ·simp only [valV_pos e,decide_eq_true e,Bool.true_or,Option.isSome_some]
  ·rw [valV_neg e,decide_eq_false e,Bool.false_or]; exact valV_any k r
theorem length_putK (kvs:List (κ × V)) (k:κ) (v:V):(putK kvs k v).length ≤ kvs.length + 1:=by
 unfold putK
 split
 ·rw [List.length_map]; omega
 ·rw [List.length_append,List.length_cons,List.length_nil]; omega
theorem putK_new {kvs:List (κ × V)} {k:κ} (v:V) (h:valV kvs k=none):putK kvs k v=kvs ++ [(k,v)]:=by
 unfold putK
 rw [valV_any,h]
 exact if_neg (by decide)
theorem RelO.isSome_eq {o:Option V} {u:Option Value} (r:RelO o u):o.isSome=u.isSome:=by
 cases o with
 | none=>cases u with
  | none=>rfl
  | some _=>exact (show False from r).elim
 | some _=>cases u with
  | none=>exact (show False from r).elim
  | some _=>rfl
theorem KV.val {kvs:List (κ × V)} {vs:List (κ × Value)} (r:KV kvs vs) (k:κ):RelO (valV kvs k) (valueAt vs k):=by
 unfold KV at r
 induction r with
 | nil=>exact True.intro
 | @cons p q ps qs h t ih =>
  obtain ⟨h1,h2⟩:=h
  by_cases e:p.1=k
  ·have e':q.1=k:=h1.symm.trans e
   have b:valueAt (q :: qs) k=some q.2:=by simp [valueAt,List.find?_cons,e']
   rw [valV_pos e,b]; exact h2
  ·have e':¬ q.1=k:=fun z=>e (h1.trans z)
   have b:valueAt (q :: qs) k=valueAt qs k:=by simp [valueAt,List.find?_cons,e']
   rw [valV_neg e,b]; exact ih
theorem KV.any {kvs:List (κ × V)} {vs:List (κ × Value)} (r:KV kvs vs) (k:κ):(kvs.any fun kv=>decide (kv.1=k))=vs.any fun kv=>decide (kv.1=k):=by
 unfold KV at r
 induction r with
 | nil=>rfl
 | cons h t ih=>rw [List.any_cons,List.any_cons,ih,h.1]
theorem KV.repl {kvs:List (κ × V)} {vs:List (κ × Value)} (r:KV kvs vs) (k:κ) {y:V} {u:Value} (ry:RelV y u) :
  KV (kvs.map fun kv=>if kv.1=k then (kv.1,y) else kv) (vs.map fun kv=>if kv.1=k then (kv.1,u) else kv):=by
 unfold KV at r ⊢
 induction r with
 | nil=>exact .nil
 | @cons p q ps qs h t ih =>
  rw [List.map_cons,List.map_cons]
  refine .cons ?_ ih
  obtain ⟨h1,h2⟩:=h
  by_cases e:p.1=k
  ·rw [if_pos e,if_pos (h1.symm.trans e)]; exact ⟨h1,ry⟩
  ·rw [if_neg e,if_neg (fun z=>e (h1.trans z))]; exact ⟨h1,h2⟩
theorem KV.put {kvs:List (κ × V)} {vs:List (κ × Value)} (r:KV kvs vs) (k:κ) {y:V} {u:Value} (ry:RelV y u):KV (putK kvs k y) (stored vs k u):=by
 unfold putK stored
 rw [r.any k]
 by_cases e:(vs.any fun kv=>decide (kv.1=k))=true
 ·rw [if_pos e,if_pos e]; exact r.repl k ry
 ·rw [if_neg e,if_neg e]; exact Paired.snoc r ⟨rfl,ry⟩
theorem KV.keys {kvs:List (κ × V)} {vs:List (κ × Value)} (r:KV kvs vs):kvs.map (·.1)=vs.map (·.1):=by
 unfold KV at r
 induction r with
 | nil=>rfl
 | cons h t ih=>rw [List.map_cons,List.map_cons,ih,h.1]
theorem KV.length {kvs:List (κ × V)} {vs:List (κ × Value)} (r:KV kvs vs):kvs.length=vs.length:=Paired.length r
end
theorem kV_is {P:Program} {w:World} {k:Key} {u:Value} (r:RelV (kV k) u):(mixKind P w).is k u=true:=by
 cases k with
 | inl i=>obtain ⟨t,e⟩:=(show ∃ t,u=Value.int i t from r); subst e; exact mixKind_int P w i t
 | inr x=>obtain ⟨t,e⟩:=(show ∃ t,u=Value.str x t from r); subst e; exact mixKind_str P w x t
theorem items_are {P:Program} {w:World}:∀ {ks:List Key} {us:List Value},Vals (ks.map kV) us→ItemsAre (mixKind P w) ks us
 | [],_,r=>by rw [List.map_nil] at r; cases r; exact .nil
 | k :: ks,_,r=>by
  rw [List.map_cons] at r
  cases r with
  | cons h t=>exact .cons (kV_is h) (items_are t)
abbrev KT (H:Hp):List (List Key × V)→List (List Key × Addr × Value)→Prop:=Paired fun p q=>p.1=q.1∧H q.2.1=some (.tup (p.1.map kV))∧RelV p.2 q.2.2
theorem KT.val {H:Hp} {kvs:List (List Key × V)} {xs:List (List Key × Addr × Value)} (r:KT H kvs xs) (k:List Key):RelO (valV kvs k) ((atKey xs k).map (·.2)):=by
 induction r with
 | nil=>exact True.intro
 | @cons p q ps qs h t ih =>
  obtain ⟨h1,_,h2⟩:=h
  by_cases e:p.1=k
  ·have e':q.1=k:=h1.symm.trans e
   have b:atKey (q :: qs) k=some q.2:=by simp [atKey,List.find?_cons,e']
   rw [valV_pos e,b]; exact h2
  ·have e':¬ q.1=k:=fun z=>e (h1.trans z)
   have b:atKey (q :: qs) k=atKey qs k:=by simp [atKey,List.find?_cons,e']
   rw [valV_neg e,b]; exact ih
theorem KT.repl {H:Hp} {kvs:List (List Key × V)} {xs:List (List Key × Addr × Value)} (r:KT H kvs xs) (k:List Key) {y:V} {u:Value} (ry:RelV y u) :
  KT H (kvs.map fun kv=>if kv.1=k then (kv.1,y) else kv) (xs.map (putAt k u)):=by
 induction r with
 | nil=>exact .nil
 | @cons p q ps qs h t ih =>
  rw [List.map_cons,List.map_cons]
  refine .cons ?_ ih
  obtain ⟨h1,h2,h3⟩:=h
  unfold putAt
  by_cases e:p.1=k
  ·rw [if_pos e,if_pos (h1.symm.trans e)]; exact ⟨h1,h2,ry⟩
  ·rw [if_neg e,if_neg (fun z=>e (h1.trans z))]; exact ⟨h1,h2,h3⟩
theorem KT.put {H:Hp} {kvs:List (List Key × V)} {xs:List (List Key × Addr × Value)} (r:KT H kvs xs) (k:List Key) {b:Addr} {y:V} {u:Value} (hb:H b=some (.tup (k.map kV))) (ry:RelV y u) :
  KT H (putK kvs k y) (storedH xs k b u):=by
 have e:(kvs.any fun kv=>decide (kv.1=k))=(atKey xs k).isSome:=by
  rw [valV_any,(r.val k).isSome_eq,Option.isSome_map]
 unfold putK storedH
 rw [e]
 by_cases q:(atKey xs k).isSome=true
 ·rw [if_pos q,if_pos q]; exact r.repl k ry
 ·rw [if_neg q,if_neg q]; exact Paired.snoc r ⟨rfl,hb,ry⟩
theorem KT.keeps {H H':Hp} {kvs:List (List Key × V)} {xs:List (List Key × Addr × Value)} (r:KT H kvs xs) (ht:∀ b ys,H b=some (.tup ys)→H' b=some (.tup ys)):KT H' kvs xs :=
 Paired.mapP r fun _ _ z=>⟨z.1,ht _ _ z.2.1,z.2.2⟩
section
variable {P:Program} {w:World} {H:Hp} {h:Heap} {a:Addr}
theorem rd_of {u:HO} (ok:HOk P w H h) (e:Rd H a u):ObjOk P w H h a u:=e.ok ok
theorem dk_rd {kvs:List (Key × V)} (ok:HOk P w H h) (e:Rd H a (.dK kvs)):kvs.length ≤ sizeLine∧(a == sysModules)=false∧∃ vs,KV kvs vs∧h.DictOf (mixKind P w) a vs :=
 show ObjOk P w H h a (.dK kvs) from rd_of ok e
theorem dk_of {kvs:List (Key × V)} (ok:HOk P w H h) (e:H a=some (.dK kvs)):kvs.length ≤ sizeLine∧(a == sysModules)=false∧∃ vs,KV kvs vs∧h.DictOf (mixKind P w) a vs:=dk_rd ok (.inl e)
theorem key_of {ks:List Key} (ok:HOk P w H h) (e:H a=some (.tup (ks.map kV))):(tupleKind (mixKind P w)).is h ks a:=by
 obtain ⟨_,its,r,o,h1,h2,n,h3⟩:=(show ObjOk P w H h a (.tup (ks.map kV)) from ok a _ e)
 exact ⟨o,its.toArray,n,h1,h2,h3,by simpa using items_are r⟩
theorem dt_rd {kvs:List (List Key × V)} (ok:HOk P w H h) (e:Rd H a (.dT kvs)):kvs.length ≤ sizeLine∧(a == sysModules)=false ∧
  ∃ xs,KT H kvs xs∧h.DictOfH (tupleKind (mixKind P w)) a xs:=by
 obtain ⟨z,y,xs,r,o,es,ep,h1,h2,h3,h4,h5⟩:=(show ObjOk P w H h a (.dT kvs) from rd_of ok e)
 refine ⟨z,y,xs,r,o,es,ep,h1,h2,h3,h4,fun x hx=>?_,h5⟩
 have all:∀ {l:List (List Key × V)} {m:List (List Key × Addr × Value)},KT H l m→∀ x ∈ m,(tupleKind (mixKind P w)).is h x.1 x.2.1:=by
  intro l m q
  induction q with
  | nil=>intro x hx; exact nomatch hx
  | @cons p q ps qs hq t ih =>
   intro x hx
   rcases List.mem_cons.mp hx with e | hx
   ·subst e
    exact key_of ok (by rw [← hq.1]; exact hq.2.1)
   ·exact ih x hx
 exact all r x hx
theorem dt_of {kvs:List (List Key × V)} (ok:HOk P w H h) (e:H a=some (.dT kvs)):kvs.length ≤ sizeLine∧(a == sysModules)=false ∧
  ∃ xs,KT H kvs xs∧h.DictOfH (tupleKind (mixKind P w)) a xs:=dt_rd ok (.inl e)
end
def DGet (H:Hp) (a:Addr) (y:V) (r:Option V):Prop :=
 (∃ kvs k,Rd H a (.dK kvs)∧y=kV k∧r=valV kvs k) ∨ ∃ kvs k b,Rd H a (.dT kvs)∧y=.ref b∧H b=some (.tup (k.map kV))∧r=valV kvs k
def DPut (H:Hp) (a:Addr) (y v:V) (H':Hp):Prop :=
 (∃ kvs k,H a=some (.dK kvs)∧y=kV k∧kvs.length < sizeLine∧H'=upd H a (.dK (putK kvs k v))) ∨
 ∃ kvs k b,H a=some (.dT kvs)∧y=.ref b∧H b=some (.tup (k.map kV))∧kvs.length < sizeLine∧H'=upd H a (.dT (putK kvs k v))
theorem DGet.k {H:Hp} {a:Addr} {kvs:List (Key × V)} {k:Key} (e:H a=some (.dK kvs)):DGet H a (kV k) (valV kvs k):=.inl ⟨kvs,k,.inl e,rfl,rfl⟩
theorem DPut.k {H:Hp} {a:Addr} {kvs:List (Key × V)} {k:Key} {v:V} (e:H a=some (.dK kvs)) (hl:kvs.length < sizeLine):DPut H a (kV k) v (upd H a (.dK (putK kvs k v))):=.inl ⟨kvs,k,e,rfl,hl,rfl⟩
section
variable {X:Cx} {pins:List (Addr × Obj)} {σ:St} {H:Hp} {s:Shared} {a:Addr} {y v:V} {u r:Value} {o:Option V} {A:Around} {E:Value→Shared→Prop}
theorem Inv.big (I:Inv X pins σ H s):sysModules < s.heap.objs.size:=by
 have h:mainGlobals < s.heap.objs.size:=(I.mod.glob.keeps I.bk).lt
 exact Nat.lt_trans (by decide) h
theorem d_getItem {Q:Value→Shared→Prop} (hu:A.units + 1 < cLine) (I:Inv X pins σ H s) (g:DGet H a y (some v)) (ry:RelV y u) (h:∀ w' s',Inv X pins σ H s'→RelV v w'→Q w' s') :
  wpAny (model X.prog X.w) A (getItem (.ref a) u) Q E s:=by
 rcases g with ⟨kvs,k,e,ey,l⟩ | ⟨kvs,k,b,e,ey,eb,l⟩
 ·subst ey
  obtain ⟨z,hd,vs,rel,dd⟩:=dk_rd I.hok e
  obtain ⟨w',hw,rw'⟩:=RelO.some_of (v:=v) (o:=valueAt vs k) (by rw [l]; exact rel.val k)
  exact wpAny_getItem_of (kV_is ry) dd.mapOf hw (h w' _ (I.tok _) rw')
 ·subst ey
  cases (show u=Value.ref b from ry)
  obtain ⟨z,hd,xs,rel,dd⟩:=dt_rd I.hok e
  obtain ⟨w',hw,rw'⟩:=RelO.some_of (v:=v) (o:=(atKey xs k).map (·.2)) (by rw [l]; exact rel.val k)
  obtain ⟨p,hp,hp2⟩:=Option.map_eq_some_iff.mp hw
  refine wpAny_getItem_heap (tupleKind_room_in1 hu) (key_of I.hok eb) dd hp ?_
  rw [hp2]
  exact h w' _ (I.tok _) rw'
theorem d_notIn {Q:Value→Shared→Prop} (hu:A.units + 1 < cLine) (I:Inv X pins σ H s) (g:DGet H a y o) (ry:RelV y u) (h:∀ s',Inv X pins σ H s'→Q (.bool (!o.isSome)) s') :
  wpAny (model X.prog X.w) A (compareOp .NotIn u (.ref a)) Q E s:=by
 rcases g with ⟨kvs,k,e,ey,l⟩ | ⟨kvs,k,b,e,ey,eb,l⟩
 ·subst ey
  obtain ⟨z,hd,vs,rel,dd⟩:=dk_rd I.hok e
  refine wpAny_notIn_of (kV_is ry) hd dd.mapOf ?_
  rw [← (rel.val k).isSome_eq,← l]
  exact h _ (I.tok _)
 ·subst ey
  cases (show u=Value.ref b from ry)
  obtain ⟨z,hd,xs,rel,dd⟩:=dt_rd I.hok e
  refine wpAny_notIn_heap (tupleKind_room_in1 hu) (key_of I.hok eb) hd dd ?_
  have q:=(rel.val k).isSome_eq
  rw [Option.isSome_map] at q
  rw [← q,← l]
  exact h _ (I.tok _)
theorem d_write {h':Heap} {t':Nat} {ob:HO} (I:Inv X pins σ H s) (mu:Mut (H a)) (hs:Heap.SameBut a s.heap h') (he:∃ q,h'.get? a=some q) (new:ObjOk X.prog X.w (upd H a ob) h' a ob) :
  Inv X pins σ (upd H a ob) { s with heap:=h',toks:=t' } :=
 I.write (x:=a) (e:=a) mu (.inl rfl) (fun b q hb z=>(hs.2 b hb).trans z) he new
theorem dk_new {P:Program} {w:World} {H':Hp} {h':Heap} {kvs:List (Key × V)} {vs:List (Key × Value)} (z:kvs.length ≤ sizeLine) (hd:(a == sysModules)=false) (rel:KV kvs vs) (dd:h'.DictOf (mixKind P w) a vs) :
  ObjOk P w H' h' a (.dK kvs):=⟨z,hd,vs,rel,dd⟩
theorem d_setItem {H':Hp} {Q:Unit→Shared→Prop} (hu:A.units + 1 < cLine) (I:Inv X pins σ H s) (g:DPut H a y v H') (ry:RelV y u) (rv:RelV v r) (h:∀ s',Inv X pins σ H' s'→Q () s') :
  wpAny (model X.prog X.w) A (setItem (.ref a) u r) Q E s:=by
 rcases g with ⟨kvs,k,e,ey,l,eH⟩ | ⟨kvs,k,b,e,ey,eb,l,eH⟩
 ·subst ey eH
  obtain ⟨z,hd,vs,rel,dd⟩:=dk_of I.hok e
  have hz:vs.length ≤ sizeLine:=by rw [← rel.length]; exact z
  have hl:(putK kvs k v).length ≤ sizeLine:=by have:=length_putK kvs k v; omega
  refine wpAny_setItem_pairs (hsz:=hz) (kV_is ry) dd fun h' dd' hs=>h _ ?_
  have he:∃ q,h'.get? a=some q:=let ⟨q,_,_,hq,_⟩:=dd'; ⟨q,hq⟩
  exact d_write I (by rw [e]; exact True.intro) hs he (dk_new hl hd (rel.put k rv) dd')
 ·subst ey eH
  cases (show u=Value.ref b from ry)
  obtain ⟨z,hd,xs,rel,dd⟩:=dt_of I.hok e
  have hz:xs.length ≤ sizeLine:=by rw [← Paired.length rel]; exact z
  have hl:(putK kvs k v).length ≤ sizeLine:=by have:=length_putK kvs k v; omega
  refine wpAny_setItem_heap (hsz:=hz) (tupleKind_room_in1 hu) (key_of I.hok eb) dd fun h' dd' hs=>h _ ?_
  obtain ⟨q,es,ep,hq,h2,h3,h4,_,h5⟩:=dd'
  refine d_write I (by rw [e]; exact True.intro) hs ⟨q,hq⟩ ⟨hl,hd,_,(rel.put k eb rv).keeps fun c ys ec=>?_,q,es,ep,hq,h2,h3,h4,h5⟩
  rw [upd_ne (ne_of ec e (fun z=>nomatch z))]
  exact ec
end
section
variable {X:Cx} {pins:List (Addr × Obj)} {σ:St} {H:Hp} {s:Shared} {a:Addr} {kvs:List (Key × V)} {k:Key} {u:Value} {A:Around} {E:Value→Shared→Prop}
end
def NoSl (i:Expr):Prop:=∀ ov iv,subscripted i false ov iv=operate [ov,iv] (getItem ov iv)
theorem subD_of {prog:Program} {w:World} {A:Around} {E:Value→Shared→Prop} {s:Shared} {env:Env} {value slice:Expr} {pos:Pos} {T id:String} {Q:Value→Shared→Prop}
  (hl:typeLookup (.type T) "__getitem__"=pure (some (.builtin id))) (hs:NoSl slice)
  (h:wpAny (model prog w) A (eval value env) (fun o s₁=>wpAny (model prog w) A (eval slice env) (fun i s₂=>s₂.TypeIs o T∧wpAny (model prog w) A (getItem o i) Q E s₂) E s₁) E s) :
  wpAny (model prog w) A (eval (.Subscript value slice pos) env) Q E s:=by
 refine Subscript_ (wpAny_mono h (fun o s₁ h₁=>wpAny_mono h₁ (fun i s₂ h₂=>?_) fun _ _ x=>x) fun _ _ x=>x)
 obtain ⟨hT,h₂⟩:=h₂
 unfold subscriptTail
 refine wpAny_bind ?_
 rw [getitemInPython_of_ne hT.not_modules]
 refine wpAny_bind (wpAny_specialOf hT hl ?_)
 have fin:wpAny (model prog w) A (subscripted slice false o i) (fun r s₃=>wpAny (model prog w) A (letTemporaryGo value o r >>= fun _=>pure r) Q E s₃) E s₂:=by
  rw [hs o i]
  exact wpAny_operating (wpAny_mono h₂ (fun r s₃ h₃=>wpAny_bind (wpAny_letTemporaryGo (wpAny_pure h₃))) fun _ _ x=>x)
 first
  | exact wpAny_pure (wpAny_bind fin)
  | exact wpAny_bind (wpAny_pure (wpAny_bind fin))
  | exact wpAny_bind fin
theorem dict_typeIs {X:Cx} {pins:List (Addr × Obj)} {σ:St} {H:Hp} {s:Shared} {a:Addr} {y:V} {o:Option V} (I:Inv X pins σ H s) (g:DGet H a y o):s.TypeIs (.ref a) "dict":=by
 rcases g with ⟨kvs,k,e,_,_⟩ | ⟨kvs,k,b,e,_,_,_⟩
 ·obtain ⟨_,_,vs,_,dd⟩:=dk_rd I.hok e
  exact dd.typeIs
 ·obtain ⟨_,_,xs,_,dd⟩:=dt_rd I.hok e
  exact dd.typeIs
def tDGet (td ty:TE):TE:=fun σ H Q=>td σ H fun x H1=>ty σ H1 fun y H2=>∃ a v,x=.ref a∧DGet H2 a y (some v)∧Q v H2
def tDNotIn (ty td:TE):TE:=fun σ H Q=>ty σ H fun y H1=>td σ H1 fun x H2=>∃ a o,x=.ref a∧DGet H2 a y o∧Q (.bl (!o.isSome)) H2
def sDPut (td ty tv:TE):TS:=fun D σ H=>tv σ H fun v H1=>td σ H1 fun x H2=>ty σ H2 fun y H3=>∃ a H4,x=.ref a∧DPut H3 a y v H4∧D.nx σ H4
section
variable {X:Cx} {o i e value:Expr} {pos pos' tpos:Pos} {td ty tv:TE}
theorem pe_dget (hu:X.A.units + 1 < cLine) (ho:PE X o td) (hi:PE X i ty) (hs:NoSl i):PE X (.Subscript o i pos) (tDGet td ty):=by
 intro pins s σ H Q I h
 refine subD_of PySem.F.slot_dict_getitem.lookup hs (thn (ho pins s σ H _ I h) fun u s1 ⟨x,H1,I1,rx,q1⟩=>thn (hi pins s1 σ H1 _ I1 q1) fun iv s2 ⟨y,H2,I2,ry,a,v,ex,g,q2⟩=>?_)
 subst ex
 obtain rfl:u=Value.ref a:=rx
 exact ⟨dict_typeIs I2 g,d_getItem hu I2 g ry fun w' s3 I3 rw'=>⟨v,H2,I3,rw',q2⟩⟩
theorem pc_dnotin (hu:X.A.units + 1 < cLine) (hi:PE X i ty) (ho:PE X o td):PC X .NotIn i o (tDNotIn ty td):=by
 intro pins s σ H Q I h
 refine thn (hi pins s σ H _ I h) fun iv s1 ⟨y,H1,I1,ry,q1⟩=>thn (ho pins s1 σ H1 _ I1 q1) fun u s2 ⟨x,H2,I2,rx,a,ov,ex,g,q2⟩=>?_
 subst ex
 obtain rfl:u=Value.ref a:=rx
 exact d_notIn hu I2 g ry fun s3 I3=>⟨.bl (!ov.isSome),H2,I3,rfl,q2⟩
theorem ps_dput (hu:X.A.units + 1 < cLine) (ho:PE X o td) (hi:PE X i ty) (hv:PE X value tv) (hs:swapsWith value (some (.Subscript o i pos')) pos.line X.env=pure false) :
  PS X (.Assign [.Subscript o i pos'] value pos) (sDPut td ty tv):=by
 intro pins s σ H D I h
 refine wpAny_Assign_Subscript (thn (hv pins s σ H _ I h) fun r s1 ⟨v,H1,I1,rv,q1⟩=>thn (ho pins s1 σ H1 _ I1 q1) fun u s2 ⟨x,H2,I2,rx,q2⟩=>thn (hi pins s2 σ H2 _ I2 q2) fun iv s3 ⟨y,H3,I3,ry,a,H4,ex,g,q3⟩=>?_) hs
 subst ex
 obtain rfl:u=Value.ref a:=rx
 exact d_setItem hu I3 g ry rv fun s4 I4=>⟨σ,H4,I4,q3⟩
end
theorem dk_empty {P:Program} {w:World} {H:Hp} (h:Heap) (hb:sysModules < h.objs.size):ObjOk P w H (h.push { cls:=.type "dict",data:=.dict #[] }) h.objs.size (.dK []) :=
 ⟨Nat.zero_le _,beq_eq_false_iff_ne.mpr (Ne.symm (Nat.ne_of_lt hb)),[],.nil,Heap.DictOf.new h⟩
def tDNewK:TE:=fun _ H Q=>∀ p,H p=none→Q (.ref p) (upd H p (.dK []))
section
variable {X:Cx} {pos:Pos}
theorem pe_dnewK:PE X (.Dict [] [] pos) tDNewK:=fun pins s σ H Q I h =>
 wpAny_Dict_empty ⟨.ref s.heap.objs.size,_,I.laid (a:=s.heap.objs.size) (o:=.dK []) (t':=s.toks) (fun _ _ q=>Heap.get?_push_of_some _ q) (Nat.le_refl _) (dk_empty s.heap I.big),rfl,h _ (I.hok.fresh (Nat.le_refl _))⟩
end
def IsD (H:Hp) (a:Addr):Prop:=(∃ kvs,Rd H a (.dK kvs)) ∨ ∃ kvs,Rd H a (.dT kvs)
theorem isD_at {X:Cx} {pins:List (Addr × Obj)} {σ:St} {H:Hp} {s:Shared} {a:Addr} (I:Inv X pins σ H s) (d:IsD H a) :
  s.TypeIs (.ref a) "dict"∧(∀ b,Value.ref a=.ref b→∃ ob,s.heap.get? b=some ob∧ob.dict=none)∧(a == sysModules)=false:=by
 rcases d with ⟨kvs,e⟩ | ⟨kvs,e⟩
 ·obtain ⟨_,hd,vs,_,dd⟩:=dk_rd I.hok e
  refine ⟨dd.typeIs,fun b q=>?_,hd⟩
  cases q
  obtain ⟨ob,_,_,h1,h2,_⟩:=dd
  exact ⟨ob,h1,h2.2.1⟩
 ·obtain ⟨_,hd,xs,_,dd⟩:=dt_rd I.hok e
  refine ⟨dd.typeIs,fun b q=>?_,hd⟩
  cases q
  obtain ⟨ob,_,_,h1,h2,_⟩:=dd
  exact ⟨ob,h1,h2.2.1⟩
section
variable {X:Cx} {pins:List (Addr × Obj)} {σ:St} {H:Hp} {s:Shared} {a:Addr} {y d:V} {u r:Value} {o:Option V} {A:Around} {E:Value→Shared→Prop}
end
section
variable {X:Cx} {o e f:Expr} {apos cpos:Pos} {td ty tx:TE}
end
section
variable {X:Cx} {pins:List (Addr × Obj)} {σ:St} {H:Hp} {s:Shared} {a:Addr} {kvs:List (Key × V)} {A:Around} {E:Value→Shared→Prop}
theorem d_copyOf {Q:Value→Shared→Prop} (I:Inv X pins σ H s) (e:Rd H a (.dK kvs)) (h:∀ p s',H p=none→Inv X pins σ (upd H p (.dK kvs)) s'→Q (.ref p) s'):wpAny (model X.prog X.w) A (call (.type "dict") [.ref a]) Q E s:=by
 obtain ⟨z,hd,vs,rel,dd⟩:=dk_rd I.hok e
 refine kt_call_dict hd dd (by rw [← rel.length]; exact z) fun h' dd' hs=>?_
 refine h _ _ (I.hok.fresh (Nat.le_refl _)) (I.laid (a:=s.heap.objs.size) (o:=.dK kvs) (t':=s.toks) (fun b q hq=>?_) (Nat.le_refl _) (dk_new z (beq_eq_false_iff_ne.mpr (Ne.symm (Nat.ne_of_lt I.big))) rel dd'))
 exact (hs.2 b (Nat.ne_of_lt (Heap.lt_size hq))).trans (Heap.get?_push_of_some _ hq)
end
section
variable {X:Cx} {pins:List (Addr × Obj)} {σ:St} {H:Hp} {s:Shared} {a:Addr} {y:V} {u:Value} {A:Around} {E:Value→Shared→Prop}
end
end L2
namespace S2
open PySem L2
theorem Same.put {H H2:Hp} {l:Addr} {o:HO} (s:Same H H2) (hn:H l=none):Same H (upd H2 l o):=fun b u e=>by
 rw [upd_ne (ne_of_none e hn)]
 exact s b u e
theorem get_lt {α:Type} {l:List α} {i:Nat} {x:α} (h:l[i]?=some x):i < l.length:=(List.getElem?_eq_some_iff.mp h).1
theorem small {n:Nat} (h:n ≤ 100000):n < sizeLine:=Nat.lt_of_le_of_lt h (by decide)
theorem smallE {n:Nat} (h:n ≤ 100000):n ≤ sizeLine:=Nat.le_of_lt (small h)
def spCell (K:PySem.W.Frag):Sp:=fun vs H Q _=>∃ (a:Addr) (k:Nat) (ns:List Int),vs=[.ref a,.int k]∧SqL K H a (ns.map V.int)∧ns.length ≤ 63∧∀ z:Int,Q (.int z) H
theorem snoc_at {H:Hp} {l:Addr} {ns:List Int} {x:Int}:(upd H l (.lst (ns.map V.int ++ [V.int x]))) l=some (.lst ((ns ++ [x]).map V.int)):=by
 rw [upd_same,List.map_append]
 rfl
theorem snoc_len {α:Type} {ns:List α} {x:α}:(ns ++ [x]).length=ns.length + 1:=by rw [List.length_append]; rfl
theorem iteB {A B:Prop} {c:Bool} (h:c=true) (a:A):if c=true then A else B:=by rw [if_pos h]; exact a
theorem iteC {A B:Prop} {c:Bool} (h:c=false) (b:B):if c=true then A else B:=by rw [if_neg (by rw [h]; exact Bool.false_ne_true)]; exact b
theorem while_out {c:TT} {tb:TS} {D:Ends} {σ:St} {H:Hp} (W:Nat→St→Hp→Prop) {m0:Nat} (h0:W m0 σ H) (out:∀ m σ H,W m σ H→D.nx σ H)
  (turn:∀ R:St→Hp→Prop,(∀ m σ H,W m σ H→R σ H)→∀ m σ H,W m σ H→c σ H fun b H1=>if b=true then ∃ N:St→Hp→Prop,(∀ σ' H',N σ' H'→∃ m',m' < m∧W m' σ' H')∧tb { D with nx:=N,ct:=N,bk:=D.nx } σ H1 else R σ H1):tWhile c tb D σ H :=
 ⟨W,⟨m0,h0⟩,turn D.nx out⟩
theorem nat_of {z:Int} {n:Nat} (h0:0 ≤ z) (h1:z < (n:Int)):∃ i:Nat,z=(i:Int)∧i < n:=⟨z.toNat,by omega,by omega⟩
end S2
namespace L2
open PySem PySem.Spec PyProof.Rows
inductive EqD (K:PySem.W.Frag) (H:Hp):Nat→V→V→Bool→Prop
 | flat {n:Nat} {x y:V} (fx:flatV x=true) (fy:flatV y=true):EqD K H n x y (eqV x y)
 | same {n:Nat} {a:Addr}:EqD K H n (.ref a) (.ref a) true
 | lst {n:Nat} {a b:Addr} {xs ys:List V} (ne:a ≠ b) (hA:SqL K H a xs) (hB:SqL K H b ys) (hl:xs.length=ys.length) (e:Nat→Bool)
   (he:∀ (j:Nat) (x y:V),xs[j]?=some x→ys[j]?=some y→EqD K H n x y (e j)):EqD K H (n + 1) (.ref a) (.ref b) ((List.range xs.length).all e)
 | tup {n:Nat} {a b:Addr} {xs ys:List V} (ne:a ≠ b) (hA:SqT K H a xs) (hB:SqT K H b ys) (hl:xs.length=ys.length) (e:Nat→Bool)
   (he:∀ (j:Nat) (x y:V),xs[j]?=some x→ys[j]?=some y→EqD K H n x y (e j)):EqD K H (n + 1) (.ref a) (.ref b) ((List.range xs.length).all e)
theorem all_true_range (n:Nat):((List.range n).all fun _=>true)=true:=List.all_eq_true.mpr fun _ _=>rfl
theorem EqD.tupT {K:PySem.W.Frag} {H:Hp} {n:Nat} {a b:Addr} {xs ys:List V} (hA:SqT K H a xs) (hB:SqT K H b ys) (hl:xs.length=ys.length) (he:∀ (j:Nat) (x y:V),xs[j]?=some x→ys[j]?=some y→EqD K H n x y true):EqD K H (n + 1) (.ref a) (.ref b) true:=by
 by_cases ne:a=b
 ·subst ne
  exact .same
 ·have:=EqD.tup ne hA hB hl (fun _=>true) he
  rw [all_true_range] at this
  exact this
theorem EqD.lstT {K:PySem.W.Frag} {H:Hp} {n:Nat} {a b:Addr} {xs ys:List V} (hA:SqL K H a xs) (hB:SqL K H b ys) (hl:xs.length=ys.length) (he:∀ (j:Nat) (x y:V),xs[j]?=some x→ys[j]?=some y→EqD K H n x y true):EqD K H (n + 1) (.ref a) (.ref b) true:=by
 by_cases ne:a=b
 ·subst ne
  exact .same
 ·have:=EqD.lst ne hA hB hl (fun _=>true) he
  rw [all_true_range] at this
  exact this
theorem eqV_same:∀ {x:V},flatV x=true→eqV x x=true
 | .non,_=>rfl
 | .bl b,_=>by show (b == b)=true; simp
 | .int i,_=>by show (i == i)=true; simp
 | .str z,_=>by show (z == z)=true; simp
 | .ref _,h=>nomatch (show false=true from h)
theorem EqD.refl {K:PySem.W.Frag} {H:Hp} {n:Nat} {x:V} (h:flatV x=true):EqD K H n x x true:=by
 have:=EqD.flat (K:=K) (H:=H) (n:=n) h h
 rw [eqV_same h] at this
 exact this
section
variable {X:Cx}
theorem vals_at {xs:List V} {us:List Value} (r:Vals xs us) (j:Nat) (h1:j < us.toArray.size):∃ x,xs[j]?=some x∧RelV x us.toArray[j]:=by
 have l1:=r.length
 rw [List.size_toArray] at h1
 have g1:j < xs.length:=by omega
 obtain ⟨w1,q1,p1⟩:=r.get (i:=j) (x:=xs[j]) (by simp [g1])
 have s1:us.toArray[j]=w1:=by
  rw [List.getElem?_eq_getElem h1] at q1
  simpa using q1
 exact ⟨xs[j],by simp [g1],by rw [s1]; exact p1⟩
theorem eqD_at {pins:List (Addr × Obj)} {σ:St} {H:Hp} {s:Shared} (I:Inv X pins σ H s) {n:Nat} {x y:V} {b:Bool} (h:EqD X.K H n x y b) :
  ∀ {A:Around} {u v:Value},A.units + n < cLine→RelV x u→RelV y v→SeqAt.EqAt A s u v b:=by
 induction h with
 | flat fx fy=>intro A u v _ rx ry; exact eqAt_V rx ry fx fy
 | @same n a =>
  intro A u v _ rx ry
  obtain rfl:u=Value.ref a:=rx
  obtain rfl:v=Value.ref a:=ry
  exact SeqAt.EqAt.same _
 | @lst n a b xs ys ne hA hB hl e he ih =>
  intro A u v hu rx ry
  obtain rfl:u=Value.ref a:=rx
  obtain rfl:v=Value.ref b:=ry
  obtain ⟨its,r,pl,hz⟩:=I.list hA
  obtain ⟨its2,r2,pl2,hz2⟩:=I.list hB
  have l1:=r.length
  have l2:=r2.length
  have rc:=SeqAt.RcAt.lists (A:=A) (s:=s) (e:=e) pl.isList pl2.isList (by rw [List.size_toArray,List.size_toArray]; omega) (by omega) (fun j h1 h2=>by
   obtain ⟨x,ex,rx⟩:=vals_at r j h1
   obtain ⟨y,ey,ry⟩:=vals_at r2 j h2
   exact ih j x y ex ey (show A.units + 1 + n < cLine by omega) rx ry)
  rw [List.size_toArray,← l1] at rc
  exact SeqAt.EqAt.of_refs ne rc
 | @tup n a b xs ys ne hA hB hl e he ih =>
  intro A u v hu rx ry
  obtain rfl:u=Value.ref a:=rx
  obtain rfl:v=Value.ref b:=ry
  obtain ⟨its,r,pl,hz⟩:=I.tuple hA
  obtain ⟨its2,r2,pl2,hz2⟩:=I.tuple hB
  have l1:=r.length
  have l2:=r2.length
  have rc:=SeqAt.RcAt.tuples (A:=A) (s:=s) (e:=e) pl pl2 (by omega) (fun j h1 h2=>by
   obtain ⟨x,ex,rx⟩:=vals_at r j h1
   obtain ⟨y,ey,ry⟩:=vals_at r2 j h2
   exact ih j x y ex ey (show A.units + 1 + n < cLine by omega) rx ry)
  have e1:min its.toArray.size its2.toArray.size=xs.length:=by rw [List.size_toArray,List.size_toArray]; omega
  have e2:(its.toArray.size == its2.toArray.size)=true:=by rw [List.size_toArray,List.size_toArray]; exact beq_iff_eq.mpr (by omega)
  rw [e1,e2,Bool.and_true] at rc
  exact SeqAt.EqAt.of_refs ne rc
end
end L2
namespace L2
open PySem PySem.Spec PyProof.Rows
abbrev Cx.compN (X:Cx) (N':List Str) (scope:Scope) (cl:List (Str × Addr)) (C:Addr) (fp:List Addr) (s:Shared) (H:Hp):Cx :=
 { X with N:=N',s₀:=s,H₀:=H,env:=compEnvC scope cl C X.env,outer:=X.stack,ex:=fp,fn:=fun _=>false,pn:=[],xe:=fun _ _=>False }
structure CompScN (X:Cx) (k:Nat) (N':List Str) (scope:Scope):Prop where
 kind:scope.kind=.function
 cell:∀ y ∈ scope.names,y.2 ≠ .cell
 names:∀ y ∈ scope.names,y.2=.local→scope.names.lookup y.1=some .local
 free:∀ y ∈ scope.names,y.2=.free→X.env.kindOf y.1=some .cell ∨ X.env.kindOf y.1=some .free
 len:N'.length=k + X.N.length
 cap:∀ i y,N'[k + i]?=some y→(X.N[i]?=some y∧capOk scope X.env y=true) ∨ scope.names.lookup y=none
theorem compN_inv {X:Cx} {k:Nat} {N':List Str} {scope:Scope} {cl:List (Str × Addr)} {fp:List Addr} {pins:List (Addr × Obj)} {σ:St} {H:Hp} {s:Shared} {h':Heap} {tk:Nat} {m:Str→Option Value} (S:CompScN X k N' scope) (I:Inv X pins σ H s)
  (hns:h'.Ns s.heap.objs.size m) (hk:∀ b o,s.heap.get? b=some o→h'.get? b=some o) (hf:∀ b ∈ fp,FpOk X pins H b) (ho:∀ b ∈ fp,∃ o,s.heap.get? b=some o)
  (hsub:∀ y c,cl.lookup y=some c→X.env.cells.lookup y=some c) (hall:∀ y ∈ scope.names,y.2=.free→∃ c,cl.lookup y.1=some c) :
  Inv (X.compN N' scope cl s.heap.objs.size fp s H) (X.pn ++ pins) (List.replicate k none ++ σ) H { s with heap:=h',toks:=tk }:=by
 refine ⟨⟨I.ok.mod,S.kind,I.ok.glob,I.ok.blt,Nat.le_refl _,fun y z c h1 h2=>I.ok.inj y z c (hsub y c h1) (hsub z c h2),fun y hy=>?_,fun y c hfn=>absurd hfn Bool.false_ne_true,I.ok.hd,I.ok.frames,.inl rfl,fun b hb=>⟨?_,fun y c e=>(hf b hb).2.2.2.2.1 y c (hsub y c e)⟩,
  I.bs,Nat.le_trans I.ok.bsz I.sz,fun b o e hb=>?_,fun b hb hs=>?_,I.stack,I.stkFree⟩,rfl,I.bare,Un.kept hk,⟨m,hns,fun i y v e1 e2 e3=>?_⟩,fun y c e=>?_,I.fresh,fun y c e=>I.freeC y c (hsub y c e),fun p hp=>?_,I.hok.kept hk,?_⟩
 ·have hy':∃ k,(k=NameKind.cell ∨ k=NameKind.free)∧(relabel scope X.env).names.lookup y=some k:=by
   rcases hy with z | z
   ·exact ⟨_,.inl rfl,z⟩
   ·exact ⟨_,.inr rfl,z⟩
  obtain ⟨k,hk',e⟩:=hy'
  obtain ⟨k0,e0,r⟩:=rel_look e
  have kf:k0=.free:=by
   rcases r with r | r
   ·subst r
    rcases hk' with z | z
    ·subst z
     exact absurd rfl (S.cell _ (PySem.mem_of_lookup e0))
    ·exact z
   ·exact r.1
  subst kf
  exact hall (y,.free) (free_mem e0) rfl
 ·obtain ⟨o,e⟩:=ho b hb
  exact Nat.ne_of_lt (Heap.lt_size e)
 ·rcases (hf b hb).2.2.2.1 with z | z
  ·exact I.ok.noex b o e z
  ·exact absurd (Nat.lt_of_lt_of_le (Heap.lt_size e) (Nat.le_trans I.ok.bsz z)) (Nat.lt_irrefl _)
 ·rcases List.mem_cons.mp (I.stkSub b hs) with z | z
  ·exact (hf b hb).2.1 z
  ·exact (hf b hb).2.2.1 z
 ·have e1q:N'[i]?=some y:=e1
  by_cases hik:i < k
  ·rw [List.getElem?_append_left (by simpa using hik),List.getElem?_replicate] at e2
   rw [if_pos hik] at e2
   cases e2
  obtain ⟨i,rfl⟩:∃ d,i=k + d:=⟨i - k,by omega⟩
  have e2':σ[i]?=some (some v):=by
   rw [List.getElem?_append_right (by simp)] at e2
   simpa using e2
  have hvis:∃ k,(relabel scope X.env).names.lookup y=some k:=by
   rcases e3 with z | z | z
   ·exact ⟨_,z⟩
   ·exact ⟨_,z⟩
   ·exact ⟨_,z⟩
  obtain ⟨k,ek⟩:=hvis
  obtain ⟨k0,e0,r⟩:=rel_look ek
  rcases S.cap i y e1q with ⟨e1',hc⟩ | z0
  case inr=>rw [z0] at e0; cases e0
  unfold capOk at hc
  rw [e0] at hc
  have kf:k0=.free:=by cases k0 <;> simp_all
  subst kf
  have hkk:X.env.kindOf y=some .cell ∨ X.env.kindOf y=some .free:=by simpa using hc
  obtain ⟨m0,hn0,hl0⟩:=I.loc
  obtain ⟨u,ru,l⟩:=hl0 i y v e1' e2' (.inr hkk)
  refine ⟨u,ru,.inr ?_⟩
  obtain ⟨c',hc'⟩:=hall (y,.free) (free_mem e0) rfl
  rcases l with ⟨z,_⟩ | ⟨_,c,ec,⟨o,ho',hd'⟩⟩
  ·rcases hkk with q | q <;> rw [z] at q <;> cases q
  ·have e4:=hsub y c' hc'
   rw [ec] at e4
   have e5:c=c':=Option.some.inj e4
   subst e5
   refine ⟨?_,c,hc',o,hk _ _ ho',hd'⟩
   rcases r with r | r
   ·subst r
    exact .inr ek
   ·obtain ⟨_,r⟩:=r
    subst r
    exact .inl ek
 ·obtain ⟨v,o,ho',hd'⟩:=I.cell y c (hsub y c e)
  exact ⟨v,o,hk _ _ ho',hd'⟩
 ·have hp':p ∈ X.pn ++ pins:=by simpa using hp
  obtain ⟨e,n,ne,nf,d⟩:=I.pin p hp'
  refine ⟨hk _ _ e,n,Nat.ne_of_lt (Heap.lt_size e),fun z=>?_,d⟩
  rcases List.mem_cons.mp (I.stkSub p.1 z) with q | q
  ·exact ne q
  ·exact nf q
 ·show (List.replicate k none ++ σ).length=N'.length
  rw [S.len,List.length_append,List.length_replicate,I.len]
def CompGoN (J:It) (H1:Hp) (k:Nat) (σ:St) (g:TG) (tt:TT) (te:TE) (Q:VK):Prop:=∀ D,H1 D=none→∃ W:Nat→Nat→Hp→Prop,(∃ m,W 0 m (upd H1 D (.lst [])))∧∀ i m H,W i m H →
 (J.stop i H∧Q (.ref D) H) ∨ (J.go i H∧∀ x H' ρ,ρ.length=k→J.yld i H x H'→g x (ρ ++ σ) H' fun σ2 H2=>(∃ ρ2:St,ρ2.length=k∧σ2=ρ2 ++ σ)∧tt σ2 H2 fun b H3=>if b=true then te σ2 H3 fun y H4=>∃ ys,H4 D=some (.lst ys)∧ys.length < sizeLine∧∃ m',m' < m∧W (i + 1) m' (upd H4 D (.lst (ys ++ [y])))
  else ∃ m',m' < m∧W (i + 1) m' H3)
def tCompN (wi:TI) (k:Nat) (g:TG) (tt:TT) (te:TE):TE:=fun σ H Q=>wi σ H fun J H1=>CompGoN J H1 k σ g tt te Q
section
variable {X:Cx} {k:Nat} {N':List Str} {tg:Expr} {pos:Pos} {elt iter:Expr} {ifs:List Expr} {scope:Scope} {wi:TI} {g:TG} {tt:TT} {te:TE}
theorem compN_core {pins:List (Addr × Obj)} {σ:St} {H2:Hp} {s2:Shared} {it:Addr} {fp:List Addr} {tn:Nat→Heap→Prop} {J:It} {Q:VK} {cl:List (Str × Addr)} {E:Value→Shared→Prop} {RR:Value→Addr→Result→Shared→Prop}
  (S:CompScN X k N' scope) (hcal:X.calm=true) (hclos:(∀ y c,cl.lookup y=some c→X.env.cells.lookup y=some c)∧∀ y ∈ scope.names,y.2=.free→∃ c,cl.lookup y.1=some c)
  (hg:∀ cl C fp s H,PG (X.compN N' scope cl C fp s H) tg g) (ht:∀ cl C fp s H,PTs (X.compN N' scope cl C fp s H) ifs tt) (he:∀ cl C fp s H,PE (X.compN N' scope cl C fp s H) elt te)
  (I2:Inv X pins σ H2 s2) (T:Turn X.prog X.w X.K tg J fp it tn) (st2:tn 0 s2.heap) (f2:∀ b ∈ fp,FpOk X pins H2 b)
  (q:CompGoN J H2 k σ g tt te Q)
  (hRR:∀ D C s' H' m',Inv X pins σ H' s'→s'.heap.Ns C m'→FpOk X pins H' C→Q (.ref D) H'→RR (.ref D) C (.ok .next) s') :
  wpAny (model X.prog X.w) X.A (newList []) (fun acc s3=>wpAny (model X.prog X.w) X.A (newFunctionEnv scope X.env.globals cl [] X.env.qual none .none (some X.env)) (fun cenv s4 =>
   codeAny (model X.prog X.w) X.A (.compStart (.ListComp elt [⟨tg,iter,ifs,0⟩] scope pos) 0 (.ref it) acc { cenv with scope:=relabel scope X.env }) (RR acc cenv.locals) s4) E s3) E s2:=by
 obtain ⟨hsub,hall⟩:=hclos
 refine wpAny_newObj_type (wpAny_newFunctionEnv S.cell (by intro y hy; simp at hy) (fun h1 hns hsb=>?_) S.kind)
 have I3:Inv X pins σ (upd H2 s2.heap.objs.size (.lst [])) { s2 with heap:=s2.heap.push { cls:=.type "list",data:=.seq ([]:List Value).toArray } }:=I2.lnew (t':=s2.toks) .nil (by simp)
 have hD:H2 s2.heap.objs.size=none:=I2.fresh
 obtain ⟨W,⟨m0,w0⟩,turn⟩:=q _ hD
 generalize hs3:({ s2 with heap:=s2.heap.push { cls:=.type "list",data:=.seq ([]:List Value).toArray } }:Shared)=s3 at I3
 have hs3':({ s2 with heap:=s2.heap.push { cls:=.type "list",dict:=none,data:=.seq ([]:List Value).toArray } }:Shared)=s3:=hs3
 dsimp only at hns hsb ⊢
 generalize hDD:s2.heap.objs.size=D at *
 have eh:s2.heap.push { cls:=.type "list",dict:=none,data:=.seq ([]:List Value).toArray }=s3.heap:=by rw [← hs3]
 rw [eh] at hns hsb
 have keep:∀ b o,s3.heap.get? b=some o→h1.get? b=some o:=fun b o e=>hsb.extBut b o (Nat.ne_of_lt (Heap.lt_size e)) (Heap.get?_push_of_some _ e)
 have objs:∀ b ∈ fp,∃ o,s3.heap.get? b=some o:=fun b hb=>by
  obtain ⟨o,e,_⟩:=T.obj _ _ st2 b hb
  rw [← eh]
  exact ⟨o,Heap.get?_push_of_some _ e⟩
 have f3:∀ b ∈ fp,FpOk X pins (upd H2 D (.lst [])) b:=fun b hb=>by
  obtain ⟨o,e,_⟩:=T.obj _ _ st2 b hb
  have ne:b ≠ D:=by rw [← hDD]; exact Nat.ne_of_lt (Heap.lt_size e)
  exact ⟨by rw [upd_ne ne]; exact (f2 b hb).1,(f2 b hb).2⟩
 have I4:Inv (X.compN N' scope cl s3.heap.objs.size fp s3 (upd H2 D (.lst []))) (X.pn ++ pins) (List.replicate k none ++ σ) (upd H2 D (.lst [])) { s3 with heap:=h1,toks:=s3.toks + ([]:List (Str × Value)).length }:=compN_inv S I3 hns keep f3 objs hsub hall
 have st4:tn 0 h1:=T.keep _ _ _ st2 fun b hb o e=>keep b o (by rw [← eh]; exact Heap.get?_push_of_some _ e)
 -- what stays true of the iterator's objects
 have stat:∀ {H':Hp},(∀ b ∈ fp,H' b=none)→∀ b ∈ fp,FpOk (X.compN N' scope cl s3.heap.objs.size fp s3 (upd H2 D (.lst []))) (X.pn ++ pins) H' b:=fun hn b hb=>by
  refine ⟨hn b hb,(I4.ok.exf b hb).1,I4.ok.exfs b hb,.inl hb,(I4.ok.exf b hb).2,fun p hp=>(f3 b hb).2.2.2.2.2 p (by simpa using hp)⟩
 have loop:codeAny (model X.prog X.w) X.A (.compLoop (.ListComp elt [⟨tg,iter,ifs,0⟩] scope pos) 0 (.ref it) (.ref D) (compEnvC scope cl s3.heap.objs.size X.env)) (RR (.ref D) s3.heap.objs.size) { s3 with heap:=h1,toks:=s3.toks + ([]:List (Str × Value)).length }:=by
  refine comp_loop_go (fun n s'=>∃ i ρ H',Inv (X.compN N' scope cl s3.heap.objs.size fp s3 (upd H2 D (.lst []))) (X.pn ++ pins) (ρ ++ σ) H' s'∧ρ.length=k∧tn i s'.heap∧(∀ b ∈ fp,H' b=none)∧W i n H') ?_ m0
   ⟨0,_,_,I4,by simp,st4,fun b hb=>(f3 b hb).1,w0⟩
  rintro n s5 ⟨i,ρ,H5,I5,lρ,st5,fr5,w5⟩
  rcases turn i n H5 w5 with ⟨stop,qn⟩ | ⟨go,step⟩
  ·refine thn (T.done (X.compN N' scope cl s3.heap.objs.size fp s3 (upd H2 D (.lst []))) rfl rfl rfl hcal i _ s5 _ H5 _ I5 (stat fr5) st5 stop) fun r s6 ⟨hr,I6⟩=>?_
   subst hr
   obtain ⟨m6,hn6,_⟩:=I6.loc
   have I7:Inv X pins σ H5 s6:=I3.call' (ch:=fp) I6.os I6.base I6.hok I6.bare fun b hb=>⟨(f3 b hb).2.2.2.1,(f3 b hb).2.1,(f3 b hb).2.2.2.2.1,(f3 b hb).2.2.2.2.2⟩
   exact hRR D s3.heap.objs.size s6 H5 m6 I7 hn6 (I3.fpOk (Nat.le_refl _) I6.free) qn
  ·refine thn (T.item (X.compN N' scope cl s3.heap.objs.size fp s3 (upd H2 D (.lst []))) rfl rfl rfl hcal i _ s5 _ H5 _ I5 (stat fr5) st5 go) fun r s6 ⟨u,hr,h6⟩=>?_
   subst hr
   refine thn h6 fun _ s7 ⟨y,H7,I7,r7,y7,st7,fr7⟩=>?_
   have I7':=I7.pinned (stat fr7) (T.obj _ _ st7)
   refine thn (hg _ _ _ _ _ _ s7 (ρ ++ σ) H7 y u _ I7' r7 (step y H7 ρ lρ y7)) fun _ s8 ⟨σ8,H8,I8,⟨ρ2,l2,e8⟩,q8⟩=>?_
   subst e8
   refine thn (ht _ _ _ _ _ _ s8 _ H8 _ I8 q8) fun ok s9 ⟨H9,I9,q9⟩=>?_
   have back:∀ {H':Hp} {s':Shared} {m':Nat},Inv (X.compN N' scope cl s3.heap.objs.size fp s3 (upd H2 D (.lst []))) (X.pn ++ pins ++ pinsAt fp s7.heap) (ρ2 ++ σ) H' s'→m' < n→W (i + 1) m' H' →
     ∃ m,m < n∧∃ i ρ H',Inv (X.compN N' scope cl s3.heap.objs.size fp s3 (upd H2 D (.lst []))) (X.pn ++ pins) (ρ ++ σ) H' s'∧ρ.length=k∧tn i s'.heap∧(∀ b ∈ fp,H' b=none)∧W i m H':=fun {H' s' m'} I' hm w'=>by
    have pin:∀ b o,b ∈ fp→s7.heap.get? b=some o→s'.heap.get? b=some o∧H' b=none:=fun b o hb e=>by
     have z:=I'.pin (b,o) (List.mem_append_right _ (List.mem_append_right _ (mem_pinsAt hb e)))
     exact ⟨z.1,z.2.1⟩
    refine ⟨m',hm,i + 1,ρ2,H',I'.unpinned,l2,T.keep _ _ _ st7 fun b hb o e=>(pin b o hb e).1,fun b hb=>?_,w'⟩
    obtain ⟨o',e,_⟩:=T.obj _ _ st7 b hb
    exact (pin b o' hb e).2
   cases ok with
   | false =>
    rw [if_neg Bool.false_ne_true] at q9 ⊢
    obtain ⟨m',hm,w'⟩:=q9
    exact back I9 hm w'
   | true =>
    rw [if_pos rfl] at q9 ⊢
    refine thn (he _ _ _ _ _ _ s9 _ H9 _ I9 q9) fun v s10 ⟨z,H10,I10,r10,q10⟩=>?_
    obtain ⟨ys,e10,l10,m',hm,w'⟩:=q10
    refine thn (mt_append _ s10 _ H10 (.ref D) [z] (.ref D) [v] (fun _ H'=>H'=upd H10 D (.lst (ys ++ [z]))) I10 rfl (.cons r10 .nil) ⟨D,ys,z,rfl,rfl,e10,l10,rfl⟩) fun _ s11 ⟨_,H11,I11,_,e11⟩=>?_
    subst e11
    exact back I11 hm w'
 exact codeAny_compStart_list loop (T.self _ 0 _ _ _ st4 loop)
theorem pe_compN (S:CompScN X k N' scope) (hcal:X.calm=true) (hi:PI X tg iter wi) (hg:∀ cl C fp s H,PG (X.compN N' scope cl C fp s H) tg g) (ht:∀ cl C fp s H,PTs (X.compN N' scope cl C fp s H) ifs tt) (he:∀ cl C fp s H,PE (X.compN N' scope cl C fp s H) elt te)
  (hs:∀ x,foldedSetIterable iter X.env x=pure x:=by intro _; rfl):PE X (.ListComp elt [⟨tg,iter,ifs,0⟩] scope pos) (tCompN wi k g tt te):=by
 intro pins s σ H Q I h
 obtain ⟨cl,hcl,hc⟩:=clos_ok (env:=X.env) (scope:=scope) fun y hy hf=>I.ok.has y.1 (S.free y hy hf)
 rw [eval_ListComp]
 refine wpAny_comprehension_free (use:=none) rfl hs hcl S.kind S.names (thn (hi pins s σ H _ I h) fun xv s1 h1=>thn h1 fun itv s2 h2=>?_)
 obtain ⟨it,fp,tn,J,H2,e,I2,T,st2,f2,q⟩:=h2
 subst e
 refine compN_core (RR:=fun acc C=>compPost (model X.prog X.w) X.A X.xe none (EP X pins σ Q) acc C) S hcal hc hg ht he I2 T st2 f2 q ?_
 intro D C s' H' m' I' hn F' hq
 exact ⟨m',hn,fun h' sb=>⟨.ref D,H',I'.turned (t':=s'.toks) (fun b o hb e=>(sb.2 b hb).trans e) F'.1 F'.2.1 F'.2.2.2.1 F'.2.2.2.2.1 F'.2.2.2.2.2,rfl,hq⟩⟩
end
def compChkN (fs:Scope) (N:List Str) (k:Nat) (N':List Str) (scope:Scope):Bool :=
 decide (scope.kind=.function) && scope.names.all (fun y=>decide (y.2 ≠ .cell)) && scope.names.all (fun y=>decide (y.2=.local→scope.names.lookup y.1=some .local)) &&
 scope.names.all (fun y=>decide (y.2=.free→fs.names.lookup y.1=some .cell ∨ fs.names.lookup y.1=some .free)) && decide (N'.length=k + N.length) &&
 (List.range N.length).all (fun i=>match N'[k + i]?,N[i]? with
  | some y,some z=>(match scope.names.lookup y with
   | none=>true
   | some .free=>decide (y=z) && decide (fs.names.lookup y=some .cell ∨ fs.names.lookup y=some .free)
   | some _=>false)
  | _,_=>false)
theorem compScN_mk {X:Cx} {k:Nat} {N':List Str} {scope fs:Scope} {N:List Str} (hs:X.env.scope=fs) (hN:X.N=N) (c:compChkN fs N k N' scope=true):CompScN X k N' scope:=by
 subst hs hN
 unfold compChkN at c
 simp only [Bool.and_eq_true,List.all_eq_true,decide_eq_true_eq] at c
 obtain ⟨⟨⟨⟨⟨c1,c2⟩,c3⟩,c4⟩,c5⟩,c6⟩:=c
 refine ⟨c1,c2,c3,c4,c5,fun i y hy=>?_⟩
 have hi:k + i < N'.length:=(List.getElem?_eq_some_iff.mp hy).1
 have hi2:i < X.N.length:=by omega
 have q:=c6 i (List.mem_range.mpr hi2)
 rw [hy,List.getElem?_eq_getElem hi2] at q
 dsimp only at q
 unfold capOk
 cases e:scope.names.lookup y with
 | none=>exact .inr rfl
 | some kd =>
  rw [e] at q
  cases kd with
  | free =>
   have q2:y=X.N[i]∧(X.env.scope.names.lookup y=some .cell ∨ X.env.scope.names.lookup y=some .free):=by simpa using q
   refine .inl ⟨by rw [List.getElem?_eq_getElem hi2,q2.1],?_⟩
   show (X.env.kindOf y == some .cell || X.env.kindOf y == some .free)=true
   have e2:X.env.kindOf y=X.env.scope.names.lookup y:=rfl
   rw [e2]
   rcases q2.2 with z | z <;> rw [z] <;> rfl
  | _=>simp at q
end L2
namespace L2
open PySem PySem.Spec PyProof.Rows
section
variable {X:Cx} {pins:List (Addr × Obj)} {σ:St} {H:Hp} {s:Shared} {h':Heap}
theorem Inv.turnedL {t':Nat} {ch:List Addr} (I:Inv X pins σ H s) (k:∀ b u,b ∉ ch→s.heap.get? b=some u→h'.get? b=some u) (hch:∀ b ∈ ch,FpOk X pins H b):Inv X pins σ H { s with heap:=h',toks:=t' }:=by
 have nch:∀ b u,H b=some u→b ∉ ch:=fun b u e z=>by rw [(hch b z).1] at e; cases e
 refine I.step (g':=s.gens) (d':=s.drawn) (ch:=ch) (fun b hb=>⟨(hch b hb).2.2.2.1,(hch b hb).2.1,(hch b hb).2.2.2.2.1,(hch b hb).2.2.2.2.2⟩) (fun b o _ _ hc e _=>k b o hc e) (fun b o _ _ hc e _=>⟨o.slots,k b o hc e⟩)
  (fun _ _ _ _ n=>n) (fun b o hc e=>⟨o,k b o hc e⟩) (fun _ _ e=>e) (fun _ _ _ e=>e) (fun b ps e=>⟨#[],by rw [e]; simp⟩) (fun m hm=>?_) (fun b u e=>?_) I.bare
 ·obtain ⟨ob,es,ep,ho,r⟩:=hm
  exact ⟨ob,es,ep,k _ ob (fun z=>(hch _ z).2.1 rfl) ho,r⟩
 ·refine (I.hok b u e).stay (fun c v hc q=>k c v ?_ q) (fun c q=>q) fun c xs q=>q
  rcases hc with z | z
  ·rw [z]
   exact nch b u e
  ·exact nch c _ z
end
def Itz (K:PySem.W.Frag) (a b:Addr):It :=
 ⟨fun i H=>∃ xs ys x y,SqL K H a xs∧SqL K H b ys∧xs[i]?=some x∧ys[i]?=some y,fun i H x H'=>∃ p u v,x=.ref p∧H p=none∧H'=upd H p (.tup [u,v])∧(∀ xs,SqL K H a xs→xs[i]?=some u)∧∀ ys,SqL K H b ys→ys[i]?=some v,
  fun i H=>∃ xs ys,SqL K H a xs∧SqL K H b ys∧(xs.length ≤ i ∨ ys.length ≤ i)⟩
theorem turn_zip {P:Program} {w:World} {K:PySem.W.Frag} {es:List Expr} {kk:Nat} {pt:Pos} {z TI TO i1 i2 a b:Addr} (D:ZipApart z TI TO i1 i2 a b) :
  Turn P w K (.Tuple es kk pt) (Itz K a b) [z,TI,TO,i1,i2] z (fun i h=>IsZip h z TI TO .none∧IsPair h TI (.ref i1) (.ref i2)∧(∃ u v,IsPair h TO u v)∧h.IsListIter i1 a i∧h.IsListIter i2 b i) where
 mem:=by simp
 obj:=fun i h st c hc=>by
  obtain ⟨hz,hTI,⟨u,v,hTO⟩,⟨o1,h1,c1,d1⟩,⟨o2,h2,c2,d2⟩⟩:=st
  simp only [List.mem_cons,List.not_mem_nil,or_false] at hc
  rcases hc with q | q | q | q | q <;> subst q
  ·exact ⟨_,hz,fun v q=>by cases q⟩
  ·exact ⟨_,hTI,fun v q=>by cases q⟩
  ·exact ⟨_,hTO,fun v q=>by cases q⟩
  ·exact ⟨o1,h1,fun v q=>by rw [d1] at q; cases q⟩
  ·exact ⟨o2,h2,fun v q=>by rw [d2] at q; cases q⟩
 keep:=fun i h h' st kk=>by
  obtain ⟨hz,hTI,⟨u,v,hTO⟩,⟨o1,h1,c1⟩,⟨o2,h2,c2⟩⟩:=st
  exact ⟨kk z (by simp) _ hz,kk TI (by simp) _ hTI,⟨u,v,kk TO (by simp) _ hTO⟩,⟨o1,kk i1 (by simp) _ h1,c1⟩,⟨o2,kk i2 (by simp) _ h2,c2⟩⟩
 item:=by
  intro X hP hw hK hc i pins s σ H E I hf st hg
  subst hP hw hK
  obtain ⟨xs,ys,x,y,hqa,hqb,hx,hy⟩:=hg
  obtain ⟨its,rv,p,hz1⟩:=I.list hqa
  obtain ⟨u,hu,ru⟩:=rv.get hx
  obtain ⟨its2,rv2,p2,hz2⟩:=I.list hqb
  obtain ⟨v,hv,rv'⟩:=rv2.get hy
  obtain ⟨hz,hTI,⟨u0,v0,hTO⟩,hi1,hi2⟩:=st
  refine wpAny_pyNext_zip_item D hz hTI hTO hi1 hi2 p.isList p2.isList (x:=u) (y:=v) (by simpa using hu) (by simpa using hv) fun h' a1 a2 a3 a4 a5 a6 kp=>⟨_,rfl,?_⟩
  refine wpAny_letOwnedTupleGo_zip a1 fun g2 hz2' sb=>?_
  have lz:z < s.heap.objs.size:=Heap.lt_size hz
  have lTI:TI < s.heap.objs.size:=Heap.lt_size hTI
  have lTO:TO < s.heap.objs.size:=Heap.lt_size hTO
  have l1:i1 < s.heap.objs.size:=by obtain ⟨o,ho,_⟩:=hi1; exact Heap.lt_size ho
  have l2:i2 < s.heap.objs.size:=by obtain ⟨o,ho,_⟩:=hi2; exact Heap.lt_size ho
  have nT:H s.heap.objs.size=none:=I.fresh
  have tt2:g2.get? s.heap.objs.size=some { cls:=.type "tuple",data:=.seq #[u,v] }:=(sb.2 _ (Nat.ne_of_gt lz)).trans a5
  have I1:Inv X pins σ (upd H s.heap.objs.size (.tup [x,y])) { s with heap:=g2,toks:=s.toks }:=by
   refine I.turnedNew (t':=s.toks) (ch:=[z,TI,TO,i1,i2]) (fun c o hb q=>?_) hf (Nat.le_refl _) ⟨?_,[u,v],.cons ru (.cons rv' .nil),⟨_,tt2,rfl,0,rfl⟩⟩
   ·simp only [List.mem_cons,List.not_mem_nil,or_false,not_or] at hb
    exact (sb.2 c hb.1).trans (kp c o hb.1 hb.2.2.1 hb.2.2.2.1 hb.2.2.2.2 q)
   ·show 2 ≤ sizeLine
    decide
  refine ⟨.ref s.heap.objs.size,_,I1,rfl,⟨_,x,y,rfl,nT,rfl,fun zs hy'=>?_,fun zs hy'=>?_⟩,⟨hz2',?_,⟨u,v,?_⟩,?_,?_⟩,fun c hb=>?_⟩
  ·rw [I.list_inj hy' hqa]
   exact hx
  ·rw [I.list_inj hy' hqb]
   exact hy
  ·exact (sb.2 TI D.TIz).trans (kp TI _ D.TIz D.TITO D.TIi1 D.TIi2 hTI)
  ·exact (sb.2 TO D.TOz).trans a2
  ·obtain ⟨o,ho,r⟩:=a3
   exact ⟨o,(sb.2 i1 D.i1z).trans ho,r⟩
  ·obtain ⟨o,ho,r⟩:=a4
   exact ⟨o,(sb.2 i2 D.i2z).trans ho,r⟩
  ·have hb':=(hf c hb).1
   simp only [List.mem_cons,List.not_mem_nil,or_false] at hb
   rcases hb with q | q | q | q | q <;> subst q
   ·rw [upd_ne (Nat.ne_of_lt lz)]; exact hb'
   ·rw [upd_ne (Nat.ne_of_lt lTI)]; exact hb'
   ·rw [upd_ne (Nat.ne_of_lt lTO)]; exact hb'
   ·rw [upd_ne (Nat.ne_of_lt l1)]; exact hb'
   ·rw [upd_ne (Nat.ne_of_lt l2)]; exact hb'
 done:=by
  intro X hP hw hK hc i pins s σ H E I hf st hg
  subst hP hw hK
  obtain ⟨xs,ys,hqa,hqb,hend⟩:=hg
  obtain ⟨its,rv,p,hz1⟩:=I.list hqa
  obtain ⟨its2,rv2,p2,hz2⟩:=I.list hqb
  obtain ⟨hz,hTI,⟨u0,v0,hTO⟩,hi1,hi2⟩:=st
  have l1:=rv.length
  have l2:=rv2.length
  refine wpAny_pyNext_zip_end (I.ok.hd hc) D hz hTI hTO hi1 hi2 p.isList p2.isList ?_ fun h' kp=>⟨rfl,I.turnedL (t':=s.toks) (ch:=[z,TI,TO,i1,i2]) (fun c o hb q=>?_) hf⟩
  ·rcases hend with q | q
   ·exact .inl (by simp; omega)
   ·exact .inr (by simp; omega)
  ·simp only [List.mem_cons,List.not_mem_nil,or_false,not_or] at hb
   exact kp c o hb.1 hb.2.2.1 hb.2.2.2.1 hb.2.2.2.2 q
 self:=fun _ _ _ _ _ st h=>wpAny_pyIter_zip st.1 h
section
variable {X:Cx} {es:List Expr} {kk:Nat} {pt:Pos}
def iZip (K:PySem.W.Frag) (ta:TA):TI:=fun σ H R=>ta σ H fun vs H1=>∃ a b,vs=[.ref a,.ref b]∧(∃ xs,SqL K H1 a xs)∧(∃ ys,SqL K H1 b ys)∧R (Itz K a b) H1
theorem pi_zip {l m:Expr} {ta:TA} {p pos:Pos} (hg:Gl X "zip") (hm:X.mg "zip"=none) (ha:PA X [l,m] ta) (hs:starEach [l,m] X.env=[(false,eval l X.env),(false,eval m X.env)]:=by rfl) (hs2:starEach [m] X.env=[(false,eval m X.env)]:=by rfl) :
  PI X (.Tuple es kk pt) (.Call (.Name "zip" p) [l,m] [] pos) (iZip X.K ta):=by
 intro pins s σ H R I h
 refine Call_ (ld_blt I hg hm PyProof.Rows.boot_zip (PyProof.Rows.callWith_type1 (thn (ha pos pins s σ H _ I h) fun us s1 ⟨vs,H1,I1,r1,q1⟩=>?_) (by rw [hs,hs2]) (by rw [hs2]; rfl)))
 obtain ⟨a,b,e1,⟨xs,hqa⟩,⟨ys,hqb⟩,q⟩:=q1
 subst e1
 obtain ⟨u,v,e1,r3,r4⟩:=vals2 r1
 subst e1
 obtain rfl:u=Value.ref a:=r3
 obtain rfl:v=Value.ref b:=r4
 obtain ⟨its,rv,pl,hz⟩:=I1.list hqa
 obtain ⟨its2,rv2,pl2,hz2⟩:=I1.list hqb
 have la:a < s1.heap.objs.size:=by obtain ⟨o,ho,_⟩:=pl.isList; exact Heap.lt_size ho
 have lb:b < s1.heap.objs.size:=by obtain ⟨o,ho,_⟩:=pl2.isList; exact Heap.lt_size ho
 refine call_zip_2 pl.isList pl2.isList fun h' hz hTI hTO hi1 hi2 hsz kp=>?_
 have I3:Inv X pins σ H1 { s1 with heap:=h' }:=I1.kept (t':=s1.toks) kp
 refine wpAny_pyIter_zip hz ⟨s1.heap.objs.size + 4,[s1.heap.objs.size + 4,s1.heap.objs.size + 2,s1.heap.objs.size + 3,s1.heap.objs.size,s1.heap.objs.size + 1],_,_,H1,rfl,I3,turn_zip (zipApart_new la lb),⟨hz,hTI,⟨_,_,hTO⟩,hi1,hi2⟩,fun c hb=>?_,q⟩
 have ge:s1.heap.objs.size ≤ c:=by
  simp only [List.mem_cons,List.not_mem_nil,or_false] at hb
  rcases hb with q | q | q | q | q <;> rw [q]
  ·exact Nat.le_add_right _ _
  ·exact Nat.le_add_right _ _
  ·exact Nat.le_add_right _ _
  ·exact Nat.le_refl _
  ·exact Nat.le_add_right _ _
 exact I1.fpOk ge (I1.hok.fresh ge)
end
end L2
namespace L2
open PySem PySem.Spec PyProof.Rows
abbrev Cx.i1 (X:Cx):Cx:={ X with A:=X.A.in1,xe:=fun _ _=>False }
theorem Inv.i1 {X:Cx} {pins:List (Addr × Obj)} {σ:St} {H:Hp} {s:Shared} (I:Inv X pins σ H s):Inv X.i1 pins σ H s :=
 ⟨⟨I.ok.mod,I.ok.kind,I.ok.glob,I.ok.blt,I.ok.above,I.ok.inj,I.ok.has,I.ok.cab,I.ok.hd,I.ok.frames,I.ok.stk,I.ok.exf,I.ok.bs,I.ok.bsz,I.ok.noex,I.ok.exfs,I.ok.funs,I.ok.frf⟩,I.os,I.bare,I.base,I.loc,I.cell,I.free,I.freeC,I.pin,I.hok,I.len⟩
theorem Inv.o1 {X:Cx} {pins:List (Addr × Obj)} {σ:St} {H:Hp} {s:Shared} (I:Inv X.i1 pins σ H s) (hd:X.calm=true→X.A.handled=none) (hf:X.A.frames=some X.stack):Inv X pins σ H s :=
 ⟨⟨I.ok.mod,I.ok.kind,I.ok.glob,I.ok.blt,I.ok.above,I.ok.inj,I.ok.has,I.ok.cab,hd,hf,I.ok.stk,I.ok.exf,I.ok.bs,I.ok.bsz,I.ok.noex,I.ok.exfs,I.ok.funs,I.ok.frf⟩,I.os,I.bare,I.base,I.loc,I.cell,I.free,I.freeC,I.pin,I.hok,I.len⟩
section
variable {M:Model} {A:Around} {E:Value→Shared→Prop} {s:Shared} {env:Env}
theorem callWith_bK {pos:Pos} {T:String} {e:Expr} {rest:List Expr} {kws:List Keyword} {Q:Value→Shared→Prop}
  (h:wpAny M A (spliced (backTo pos (starEach (e :: rest) env))) (fun vs s1=>wpAny M A (evalAll ((backToKw pos (keywordEach kws env)).map (·.2)))
   (fun kvs s2=>wpAny M A (call (.builtin T) vs (((backToKw pos (keywordEach kws env)).filterMap (·.1)).zip kvs)) Q E s2) E s1) E s)
  (he:backTo pos (starEach (e :: rest) env)=(false,eval e env) :: backTo pos (starEach rest env):=by rfl) (hpl:(backTo pos (starEach (e :: rest) env)).any (·.1)=false:=by rfl)
  (hall:(backToKw pos (keywordEach kws env)).all (·.1.isSome)=true:=by rfl) (hkw:(backToKw pos (keywordEach kws env)).any (·.1.isNone)=false:=by rfl) :
  wpAny M A (callWith pos (.builtin T) [] (backTo pos (starEach (e :: rest) env)) (backToKw pos (keywordEach kws env))) Q E s:=by
 have h2:wpAny M A (evalArgs (.builtin T) true (backTo pos (starEach (e :: rest) env)) (backToKw pos (keywordEach kws env))) (fun a s1=>wpAny M A (call (.builtin T) ([] ++ a.pos) a.kw) Q E s1) E s:=by
  rw [he] at h ⊢
  exact evalArgs_kwB hall h
 unfold callWith
 refine wpAny_bind (wpAny_holding (wpAny_mono h2 (fun a s1 h1=>wpAny_bind (wpAny_standAt ?_)) fun _ _ z=>z))
 simp only [hpl,hkw,Bool.or_false]
 exact wpAny_bind (wpAny_pure (wpAny_bind (wpAny_mono h1 (fun r s2 hr=>wpAny_bind (wpAny_holding (wpAny_point (wpAny_pure hr)))) fun _ _ z=>z)))
end
theorem same_none {H H':Hp} {b:Addr} (s:Same H H') (h:H' b=none):H b=none:=by
 cases e:H b with
 | none=>rfl
 | some u=>rw [s b u e] at h; cases h
section
variable {X:Cx} {pins:List (Addr × Obj)} {σ:St}
end
section
variable {X:Cx}
end
section
variable {X:Cx} {pins:List (Addr × Obj)} {σ:St}
end
section
variable {X:Cx}
end
end L2
namespace L2
open PySem PySem.Spec PyProof.Rows
abbrev gTwo (K:PySem.W.Frag):TG:=gTup K 2 (gCons (gName 0) (gCons (gName 1) gNil))
theorem Same.put1 {H H2:Hp} {l:Addr} {o:HO} (s:Same H H2) (hn:H l=none):Same H (upd H2 l o):=fun b u e=>by
 rw [upd_ne (ne_of_none e hn)]
 exact s b u e
end L2
namespace S2
open PySem L2
def RowsOf (H:Hp) (as:List Addr) (rows:List (List V)):Prop:=as.length=rows.length∧∀ (i:Nat) (p:Addr) (r:List V),as[i]?=some p→rows[i]?=some r→H p=some (.tup r)
theorem RowsOf.same {H H2:Hp} {as:List Addr} {rows:List (List V)} (h:RowsOf H as rows) (s:Same H H2):RowsOf H2 as rows:=⟨h.1,fun i p r e1 e2=>s _ _ (h.2 i p r e1 e2)⟩
theorem RowsOf.nil {H:Hp}:RowsOf H [] []:=⟨rfl,fun i p r e=>by simp at e⟩
theorem RowsOf.snoc {H H2:Hp} {as:List Addr} {rows:List (List V)} {p:Addr} {r:List V} (h:RowsOf H as rows) (s:Same H H2) (hp:H2 p=some (.tup r)):RowsOf H2 (as ++ [p]) (rows ++ [r]):=by
 refine ⟨by rw [List.length_append,List.length_append,h.1]; rfl,fun i q x e1 e2=>?_⟩
 by_cases hi:i < as.length
 ·rw [List.getElem?_append_left hi] at e1
  rw [List.getElem?_append_left (by rw [← h.1]; exact hi)] at e2
  exact s _ _ (h.2 i q x e1 e2)
 ·rw [List.getElem?_append_right (by omega)] at e1
  rw [List.getElem?_append_right (by rw [← h.1]; omega),← h.1] at e2
  cases e:i - as.length with
  | zero =>
   rw [e] at e1 e2
   cases e1
   cases e2
   exact hp
  | succ d=>rw [e] at e1; simp at e1
end S2
namespace L2
open PySem PySem.Spec PySem.W PyProof.Rows
theorem dictAt_of {prog:Program} {w:World} {K:Type} [DecidableEq K] {knd:KeyKind prog w K} {h:Heap} {a:Addr} {vs:List (K × Value)} (d:h.DictOf knd a vs):∃ ep,h.DictAt knd a vs ep:=by
 obtain ⟨o,es,ep,h1,h2,h3,h4,h5,h6⟩:=d
 exact ⟨ep,o,es,h1,h2,h3,h4,h5,h6⟩
theorem KV.valAt {kvs:List (Key × V)} {vs:List (Key × Value)} (r:KV kvs vs) {i:Nat} {k:Key} {v:Value} (h:vs[i]?=some (k,v)):∃ x,kvs[i]?=some (k,x)∧RelV x v:=by
 induction r generalizing i with
 | nil=>cases h
 | cons p q ih =>
  cases i with
  | zero =>
   cases h
   obtain ⟨e,z⟩:=p
   exact ⟨_,by rw [List.getElem?_cons_zero]; exact congrArg some (Prod.ext e rfl),z⟩
  | succ i=>exact ih h
theorem preSum_list:∀ (ns:List Int) (n:Nat),n ≤ ns.length→preSum (fun i=>ns.getD i 0) n=(ns.take n).sum:=by
 intro ns n
 induction n with
 | zero=>intro _; simp [preSum]
 | succ n ih =>
  intro h
  have e:ns.take (n + 1)=ns.take n ++ [ns.getD n 0]:=by
   rw [List.take_succ]; simp [List.getD,List.getElem?_eq_getElem (show n < ns.length by omega)]
  rw [e,List.sum_append,← ih (by omega)]
  simp [preSum]
def tSumV (td:TE):TE:=fun σ H Q=>td σ H fun x H1=>∃ (a:Addr) (kvs:List (Key × V)) (ns:List Int),x=.ref a∧Rd H1 a (.dK kvs)∧kvs.map (·.2)=ns.map V.int∧Q (.int ns.sum) H1
section
variable {X:Cx} {o:Expr} {apos cpos p pos:Pos} {td:TE}
theorem pe_sumV (hc:X.calm=true) (ho:PE X o td) (hb:attributeBase o "values" X.env (eval o X.env)=eval o X.env) (hl:(apos.endLine == cpos.line)=true) (hg:Gl X "sum") (hm:X.mg "sum"=none)
  (hv:bootBuiltins "sum"=some (.builtin "sum"))
  (he:starEach [.Call (.Attribute o "values" apos) [] [] cpos] X.env=(false,eval (.Call (.Attribute o "values" apos) [] [] cpos) X.env) :: starEach [] X.env:=by rfl) :
  PE X (.Call (.Name "sum" p) [.Call (.Attribute o "values" apos) [] [] cpos] [] pos) (tSumV td):=by
 intro pins s σ H Q I h
 refine wpAny_Call_Name_kw (ld_blt I hg hm hv ?_ (by decide) (by decide))
 refine PyProof.Rows.callWith_builtin1 ?_ he rfl
 rw [he]
 show wpAny _ _ (spliced ((false,eval (.Call (.Attribute o "values" apos) [] [] cpos) X.env) :: [])) _ _ s
 refine Calls.spliced_cons ?_
 refine wpAny_Call_method hb rfl hl PySem.F.plainAttrs_dict PySem.F.slot_dict_values PySem.F.type_dict_values (thn (ho pins s σ H _ I h) fun u s1 ⟨x,H1,I1,rx,a,kvs,ns,ex,d,en,q1⟩=>?_)
 subst ex
 obtain rfl:u=Value.ref a:=rx
 obtain ⟨t1,t2,hd⟩:=isD_at I1 (.inl ⟨kvs,d⟩)
 refine ⟨t1,t2,?_⟩
 obtain ⟨z,_,vs,rel,dd⟩:=dk_rd I1.hok d
 refine Calls.callWith_builtin rfl (PyProof.Rows.evalArgs_empty ?_)
 refine call_meetsIn PySem.F.slot_dict_values dd.typeIs PySem.F.entry_dict_values (PySem.F.args_dict_values_1 _) (meets_dict_values (mixKind X.prog X.w) a hd) ⟨⟨vs,dd⟩,?_⟩
 refine Calls.spliced_nil ?_
 obtain ⟨ep,da⟩:=dictAt_of dd
 have hh:=I1.ok.hd hc
 have hok:(s1.heap.push { cls:=.type "dict_values",data:=.fields #[.ref a] }).IsValuesView s1.heap.objs.size a∧(s1.heap.push { cls:=.type "dict_values",data:=.fields #[.ref a] }).DictAt (mixKind X.prog X.w) a vs ep :=
  ⟨⟨_,Heap.get?_push_size _ rfl,rfl,rfl⟩,da.push _⟩
 have K:=kdl_values (prog:=X.prog) (w:=X.w) (knd:=mixKind X.prog X.w) (r:=s1.heap.objs.size) (d:=a) (kvs:=vs) (ep:=ep)
 refine call_sum_walkAnyS ?_
 obtain ⟨oI,St,hit,W,st⟩:=K.iter X.A.in1 { s1 with heap:=s1.heap.push { cls:=.type "dict_values",data:=.fields #[.ref a] } } hh hok
 refine hit _ _ ⟨_,_,_,_,vs.length,_,_,fun i=>ns.getD i 0,rfl,W.toS,st,fun b hb=>?_,fun i v hv=>?_,fun s' t' hm=>?_⟩
 ·rcases List.mem_cons.mp hb with e | hb
  ·rw [e]; exact Nat.lt_of_lt_of_eq (Nat.lt_succ_self _) (size_push' _ _).symm
  ·rw [List.mem_singleton.mp hb]; exact Nat.lt_of_lt_of_eq (Nat.lt_succ_of_lt (K.there _ hok).2) (size_push' _ _).symm
 ·obtain ⟨k,hk⟩:=hv
  obtain ⟨x,hx,rx⟩:=rel.valAt hk
  have e1:(kvs.map (·.2))[i]?=some x:=by rw [List.getElem?_map,hx]; rfl
  rw [en,List.getElem?_map] at e1
  cases e2:ns[i]? with
  | none=>rw [e2] at e1; cases e1
  | some n =>
   rw [e2] at e1
   cases e1
   obtain ⟨t,et⟩:=rx
   exact ⟨t,by rw [et]; simp [List.getD,e2]⟩
 ·have hk:∀ b o,s1.heap.get? b=some o→s'.heap.get? b=some o:=fun b o e =>
   hm.heap b o (fun hI=>absurd (Heap.lt_size e) (by rw [List.mem_singleton.mp hI]; show ¬ (s1.heap.push _).objs.size < s1.heap.objs.size; rw [size_push']; exact Nat.not_lt.mpr (Nat.le_succ _))) (Heap.get?_push_of_some _ (Heap.get?_push_of_some _ e))
  rw [Moved.eq_with hm]
  have el:vs.length=ns.length:=by rw [← rel.length,← List.length_map (f:=(·.2)),en,List.length_map]
  have e2:preSum (fun i=>ns.getD i 0) vs.length=ns.sum:=by rw [el,preSum_list ns ns.length (Nat.le_refl _),List.take_length]
  rw [e2]
  exact ⟨.int _,H1,I1.kept hk,⟨t',rfl⟩,q1⟩
end
end L2
namespace L2
open PySem PySem.Spec PySem.W PyProof.Rows
theorem samebut_refl {a:Addr} {h:Heap}:Heap.SameBut a h h:=⟨rfl,fun _ _=>rfl⟩
theorem Inv.freeze {X:Cx} {pins:List (Addr × Obj)} {σ:St} {H:Hp} {s:Shared} {a:Addr} {kvs:List (Key × V)} (I:Inv X pins σ H s) (d:Rd H a (.dK kvs)) :
  ∃ o,Inv X pins σ (upd H a (.frz o (.dK kvs))) s∧s.heap.get? a=some o∧∃ vs ep,KV kvs vs∧s.heap.DictAt (mixKind X.prog X.w) a vs ep:=by
 obtain ⟨z,hd,vs,rel,dd⟩:=dk_rd I.hok d
 obtain ⟨ep,da⟩:=dictAt_of dd
 rcases d with e | ⟨o,e⟩
 ·obtain ⟨o,es,h1,_⟩:=id da
  refine ⟨o,?_,h1,vs,ep,rel,da⟩
  exact d_write (t':=s.toks) I (by rw [e]; exact True.intro) samebut_refl ⟨o,h1⟩ ⟨h1,z,hd,vs,rel,dd⟩
 ·have x:=I.hok a _ e
  refine ⟨o,?_,x.1,vs,ep,rel,da⟩
  have eq:upd H a (.frz o (.dK kvs))=H:=by
   funext b
   by_cases hb:b=a
   ·subst hb; rw [upd_same,e]
   ·rw [upd_ne hb]
  rw [eq]
  exact I
def Itd (a:Addr) (o:Obj) (kvs:List (Key × V)):It :=
 ⟨fun i H=>H a=some (.frz o (.dK kvs))∧i < kvs.length,fun i H x H'=>∃ p k v,x=.ref p∧H p=none∧kvs[i]?=some (k,v)∧H'=upd H p (.tup [kV k,v]),
  fun i H=>H a=some (.frz o (.dK kvs))∧kvs.length ≤ i⟩
theorem kvAt {kvs:List (Key × V)} {vs:List (Key × Value)} (r:KV kvs vs) {i:Nat} {k:Key} {x:V} (h:kvs[i]?=some (k,x)):∃ v,vs[i]?=some (k,v)∧RelV x v:=by
 induction r generalizing i with
 | nil=>cases h
 | cons p q ih =>
  cases i with
  | zero =>
   cases h
   obtain ⟨e,z⟩:=p
   exact ⟨_,by rw [List.getElem?_cons_zero]; exact congrArg some (Prod.ext e.symm rfl),z⟩
  | succ i=>exact ih h
theorem kV_of {P:Program} {w:World} {k:Key} {u:Value} (h:(mixKind P w).is k u=true):RelV (kV k) u:=by
 rcases keyIs_shape h with ⟨i,t,rfl,rfl⟩ | ⟨x,t,rfl,rfl⟩
 ·exact ⟨t,rfl⟩
 ·exact ⟨t,rfl⟩
theorem entry_itemiter:entryFor table "dict_itemiterator.__iter__"=some Builtin.«dict_keyiterator.__iter__» :=
 entryFor_alias (id':="dict_keyiterator.__iter__") (by kernel_rfl) rfl (by decide +kernel) (by kernel_rfl)
theorem turn_items {P:Program} {w:World} {K:PySem.W.Frag} {es:List Expr} {kk:Nat} {pt:Pos} {it a:Addr} {o:Obj} {kvs:List (Key × V)} {vs:List (Key × Value)} {ep:Nat} (hne:a ≠ it) (rel:KV kvs vs)
  (da:∀ h:Heap,h.get? a=some o→h.DictAt (mixKind P w) a vs ep) :
  Turn P w K (.Tuple es kk pt) (Itd a o kvs) [it] it (fun i h=>∃ ok ov,IsItemIter h it a i vs.length ep ok ov) where
 mem:=by simp
 obj:=fun i h st c hc=>by
  obtain ⟨ok,ov,st⟩:=st
  cases (List.mem_singleton.mp hc)
  exact ⟨_,st,fun v q=>by cases q⟩
 keep:=fun i h h' st kk=>by
  obtain ⟨ok,ov,st⟩:=st
  exact ⟨ok,ov,kk it (by simp) _ st⟩
 item:=by
  intro X hP hw hK hc i pins s σ H E I hf st hg
  subst hP hw hK
  obtain ⟨ok,ov,st⟩:=st
  obtain ⟨hz,hi⟩:=hg
  obtain ⟨⟨k,x⟩,hx⟩:∃ p,kvs[i]?=some p:=⟨kvs[i],by simp [hi]⟩
  obtain ⟨v,hv,rv⟩:=kvAt rel hx
  have ho:=(I.hok a _ hz).1
  refine wpAny_pyNext_items_item st (da _ ho) hv fun key h' hkey hit' htup hsz kp=>⟨_,rfl,?_⟩
  refine wpAny_letOwnedTupleGo_items hit' fun g2 hit2 sb=>?_
  have li:it < s.heap.objs.size:=Heap.lt_size st
  have nT:H s.heap.objs.size=none:=I.fresh
  have tt2:g2.get? s.heap.objs.size=some { cls:=.type "tuple",data:=.seq #[key,v] }:=(sb.2 _ (Nat.ne_of_gt li)).trans htup
  have I1:Inv X pins σ (upd H s.heap.objs.size (.tup [kV k,x])) { s with heap:=g2,toks:=s.toks }:=by
   refine I.turnedNew (t':=s.toks) (ch:=[it]) (fun c o hb q=>?_) hf (Nat.le_refl _) ⟨?_,[key,v],.cons (kV_of hkey) (.cons rv .nil),⟨_,tt2,rfl,0,rfl⟩⟩
   ·have hb':c ≠ it:=fun z=>hb (by simp [z])
    exact (sb.2 c hb').trans (kp c o hb' q)
   ·show 2 ≤ sizeLine
    decide
  refine ⟨.ref s.heap.objs.size,_,I1,rfl,⟨_,k,x,rfl,nT,hx,rfl⟩,⟨_,_,hit2⟩,fun c hb=>?_⟩
  have hb':=(hf c hb).1
  cases (List.mem_singleton.mp hb)
  rw [upd_ne (Nat.ne_of_lt li)]
  exact hb'
 done:=by
  intro X hP hw hK hc i pins s σ H E I hf st hg
  subst hP hw hK
  obtain ⟨ok,ov,st⟩:=st
  obtain ⟨hz,hi⟩:=hg
  have ho:=(I.hok a _ hz).1
  have el:=rel.length
  refine wpAny_pyNext_items_end (I.ok.hd hc) st (da _ ho) (List.getElem?_eq_none_iff.mpr (by omega)) fun h' kp=>⟨rfl,I.turnedL (t':=s.toks) (ch:=[it]) (fun c o hb q=>?_) hf⟩
  exact kp c o (fun z=>hb (by simp [z])) q
 self:=fun _ _ _ _ _ st h=>by
  obtain ⟨ok,ov,st⟩:=st
  have hT:Shared.TypeIs _ (.ref it) "dict_itemiterator":=⟨_,st,rfl⟩
  refine wpAny_pyIter_slot hT PySem.F.slot_dict_itemiterator_iter (wpAny_call_entry PySem.F.slot_dict_itemiterator_iter hT entry_itemiter ?_ (PySem.F.args_dict_itemiterator_iter_1 _))
  show wpAny _ _ (ret (.ref it)) _ _ _
  exact wpAny_pure ⟨_,rfl,"dict_itemiterator",_,hT,PySem.F.slot_dict_itemiterator_next.lookup,h⟩
def iItems (td:TE):TI:=fun σ H R=>td σ H fun x H1=>∃ a kvs,x=.ref a∧Rd H1 a (.dK kvs)∧∀ o,R (Itd a o kvs) (upd H1 a (.frz o (.dK kvs)))
section
variable {X:Cx} {o:Expr} {es:List Expr} {kk:Nat} {pt:Pos} {apos cpos:Pos} {td:TE}
theorem pi_items (ho:PE X o td) (hb:attributeBase o "items" X.env (eval o X.env)=eval o X.env:=by rfl) (hl:(apos.endLine == cpos.line)=true:=by rfl) :
  PI X (.Tuple es kk pt) (.Call (.Attribute o "items" apos) [] [] cpos) (iItems td):=by
 intro pins s σ H R I h
 refine wpAny_Call_method hb rfl hl PySem.F.plainAttrs_dict PySem.F.slot_dict_items PySem.F.type_dict_items (thn (ho pins s σ H _ I h) fun u s1 ⟨x,H1,I1,rx,a,kvs,ex,d,q1⟩=>?_)
 subst ex
 obtain rfl:u=Value.ref a:=rx
 obtain ⟨t1,t2,hd⟩:=isD_at I1 (.inl ⟨kvs,d⟩)
 refine ⟨t1,t2,?_⟩
 obtain ⟨ob,I2,hob,vs,ep,rel,da⟩:=I1.freeze d
 refine Calls.callWith_builtin rfl (PyProof.Rows.evalArgs_empty ?_)
 refine call_meetsIn PySem.F.slot_dict_items da.dictOf.typeIs PySem.F.entry_dict_items (PySem.F.args_dict_items_1 _) (meets_dict_items (mixKind X.prog X.w) a hd) ⟨⟨vs,da.dictOf⟩,?_⟩
 refine wpAny_pyIter_items (knd:=mixKind X.prog X.w) (d:=a) (kvs:=vs) (ep:=ep) ⟨_,Heap.get?_push_size _ rfl,rfl,rfl⟩ (da.push _) ?_
 have la:a < s1.heap.objs.size:=Heap.lt_size hob
 refine ⟨_,[_],_,_,_,rfl,I2.kept (t':=s1.toks) fun b o e=>Heap.get?_push_of_some _ (Heap.get?_push_of_some _ e),turn_items (ep:=ep) (Nat.ne_of_lt (Nat.lt_of_lt_of_eq (Nat.lt_succ_of_lt la) (size_push' _ _).symm)) rel (fun h e=>da.at' fun o' e'=>by rw [hob] at e'; cases e'; exact e),⟨_,_,Heap.get?_push_size _ rfl⟩,fun b hb=>?_,q1 ob⟩
 cases (List.mem_singleton.mp hb)
 exact I2.fpOk (by rw [size_push']; omega) (I2.hok.fresh (by rw [size_push']; omega))
end
end L2
namespace L2
open PySem PySem.Spec PySem.W PyProof.Rows
section
variable {X:Cx}
def rListD:List V→Hp→VK→Prop:=fun xs H Q=>∃ (a:Addr) (kvs:List (Key × V)),xs=[.ref a]∧Rd H a (.dK kvs)∧∀ p,H p=none→Q (.ref p) (upd H p (.lst (kvs.map fun kv=>kV kv.1)))
theorem call_listD (hc:X.calm=true):CallR X (.type "list") rListD:=by
 intro pins s σ H xs us Q I r h
 obtain ⟨a,kvs,e1,d,q⟩:=h
 subst e1
 obtain ⟨u,e2,ru⟩:=vals1 r
 subst e2
 obtain rfl:u=Value.ref a:=ru
 obtain ⟨z,hd,vs,rel,dd⟩:=dk_rd I.hok d
 obtain ⟨ep,da⟩:=dictAt_of dd
 refine kdl_call (kdl_dict (knd:=mixKind X.prog X.w) (kvs:=vs) (ep:=ep) hd) (I.ok.hd hc) da (by rw [← rel.length]; exact z) fun h' tk acc c hk hg hacc=>?_
 have rv:Vals (kvs.map fun kv=>kV kv.1) acc.toList:=by
  have el:acc.toList.length=vs.length:=by rw [Array.length_toList]; exact hacc.1
  have go:∀ (ks:List (Key × V)) (us:List (Key × Value)) (as:List Value),KV ks us→as.length=us.length→(∀ (j:Nat) (v:Value),as[j]?=some v→∃ k x,us[j]?=some (k,x)∧(mixKind X.prog X.w).is k v=true)→Vals (ks.map fun kv=>kV kv.1) as:=by
   intro ks us as kv
   induction kv generalizing as with
   | nil=>intro l _; cases as with
    | nil=>exact .nil
    | cons=>cases l
   | cons p t ih =>
    intro l hh
    cases as with
    | nil=>cases l
    | cons v as =>
     refine .cons ?_ (ih as (by simpa using l) fun j w e=>hh (j + 1) w (by simpa using e))
     obtain ⟨k,x,e,m⟩:=hh 0 v rfl
     have e':=Option.some.inj e
     show RelV (kV _) v
     rw [p.1,e']
     exact kV_of m
  exact go kvs vs _ rel el fun j v e=>hacc.2 j v (by rw [← Array.getElem?_toList]; exact e)
 refine ⟨.ref s.heap.objs.size,_,I.laid (a:=s.heap.objs.size) (o:=.lst (kvs.map fun kv=>kV kv.1)) (t':=tk) hk (Nat.le_refl _) ⟨by rw [List.length_map]; exact z,acc.toList,c,rv,by simpa using hg⟩,rfl,q _ (I.hok.fresh (Nat.le_refl _))⟩
theorem nodup_of {P:Program} {w:World} {H:Hp} {h:Heap} {a:Addr} {kvs:List (Key × V)} {vs:List (Key × Value)} (rel:KV kvs vs) (dd:h.DictOf (mixKind P w) a vs):(kvs.map (·.1)).Nodup:=by
 obtain ⟨_,_,_,_,_,_,_,_,hn⟩:=dd
 rw [rel.keys]
 exact hn
end
end L2
namespace DV
open PySem PySem.W PyProof.Rows
def run {α:Type} (lt:Nat→Nat→Bool):KasT α→α
 | .ret a=>a
 | .ask i j k=>run lt (k (lt i j))
theorem run_bind {α β:Type} (lt:Nat→Nat→Bool) (f:α→KasT β):∀ t:KasT α,run lt (t.bind f)=run lt (f (run lt t))
 | .ret _=>rfl
 | .ask i j k=>run_bind lt f (k (lt i j))
section
variable (r:Nat→Int)
def Rk (p:Array Nat) (i:Nat):Int:=r (p.getD i 0)
abbrev ltR (i j:Nat):Bool:=decide (r i < r j)
def Up (p:Array Nat) (k:Nat):Prop:=∀ i j,i ≤ j→j < k→Rk r p i ≤ Rk r p j
def Dn (p:Array Nat) (k:Nat):Prop:=∀ i j,i ≤ j→j < k→Rk r p j ≤ Rk r p i
theorem rk_rev {p:Array Nat} {i j:Nat} (hj:j ≤ p.size) (k:Nat):Rk r (kas_rev p i j) k=if i ≤ k∧k < j then Rk r p (i + j - 1 - k) else Rk r p k:=by
 unfold Rk kas_rev
 simp only [Array.getD_eq_getD_getElem?]
 rw [getElem?_mirror_all hj k]
 split <;> rfl
theorem size_rev (p:Array Nat) (i j:Nat):(kas_rev p i j).size=p.size:=(mirror_perm p i j _).size_eq
theorem perm_rev (p:Array Nat) (i j:Nat):(kas_rev p i j).Perm p:=mirror_perm p i j _
theorem rk_rev_eq {p:Array Nat} {i j:Nat} (hj:j ≤ p.size) (he:∀ k,i ≤ k→k < j→Rk r p k=Rk r p (j - 1)) (k:Nat):Rk r (kas_rev p i j) k=Rk r p k:=by
 rw [rk_rev r hj]
 split
 ·rw [he _ (by omega) (by omega),he k (by omega) (by omega)]
 ·rfl
theorem Up.snoc {p:Array Nat} {n:Nat} (h:Up r p n) (hn:1 ≤ n) (hs:Rk r p (n - 1) ≤ Rk r p n):Up r p (n + 1):=by
 intro i j hij hj
 by_cases e:j < n
 ·exact h i j hij e
 ·have:j=n:=by omega
  subst this
  by_cases e2:i=j
  ·subst e2; exact Int.le_refl _
  ·exact Int.le_trans (h i (j - 1) (by omega) (by omega)) hs
theorem Dn.snoc {p:Array Nat} {n:Nat} (h:Dn r p n) (hn:1 ≤ n) (hs:Rk r p n ≤ Rk r p (n - 1)):Dn r p (n + 1):=by
 intro i j hij hj
 by_cases e:j < n
 ·exact h i j hij e
 ·have:j=n:=by omega
  subst this
  by_cases e2:i=j
  ·subst e2; exact Int.le_refl _
  ·exact Int.le_trans hs (h i (j - 1) (by omega) (by omega))
theorem asc_ok (p:Array Nat):∀ (f n:Nat),1 ≤ n→Up r p n→n ≤ run (ltR r) (kas_asc p f n)∧run (ltR r) (kas_asc p f n) ≤ n + f∧Up r p (run (ltR r) (kas_asc p f n)) ∧
  (run (ltR r) (kas_asc p f n)=n + f ∨ Rk r p (run (ltR r) (kas_asc p f n)) < Rk r p (run (ltR r) (kas_asc p f n) - 1))
 | 0,n,hn,h=>⟨Nat.le_refl _,Nat.le_refl _,h,.inl rfl⟩
 | f + 1,n,hn,h=>by
  show n ≤ run (ltR r) (if ltR r (p.getD n 0) (p.getD (n - 1) 0)=true then KasT.ret n else kas_asc p f (n + 1))∧run (ltR r) (if ltR r (p.getD n 0) (p.getD (n - 1) 0)=true then KasT.ret n else kas_asc p f (n + 1)) ≤ n + (f + 1) ∧
   Up r p (run (ltR r) (if ltR r (p.getD n 0) (p.getD (n - 1) 0)=true then KasT.ret n else kas_asc p f (n + 1)))∧(run (ltR r) (if ltR r (p.getD n 0) (p.getD (n - 1) 0)=true then KasT.ret n else kas_asc p f (n + 1))=n + (f + 1) ∨
   Rk r p (run (ltR r) (if ltR r (p.getD n 0) (p.getD (n - 1) 0)=true then KasT.ret n else kas_asc p f (n + 1))) < Rk r p (run (ltR r) (if ltR r (p.getD n 0) (p.getD (n - 1) 0)=true then KasT.ret n else kas_asc p f (n + 1)) - 1))
  by_cases c:ltR r (p.getD n 0) (p.getD (n - 1) 0)=true
  ·rw [if_pos c]
   exact ⟨Nat.le_refl _,Nat.le_add_right _ _,h,.inr (of_decide_eq_true c)⟩
  ·rw [if_neg c]
   have c':Rk r p (n - 1) ≤ Rk r p n:=Int.not_lt.mp fun z=>c (decide_eq_true z)
   obtain ⟨h1,h2,h3,h4⟩:=asc_ok p f (n + 1) (by omega) (h.snoc r hn c')
   exact ⟨by omega,by omega,h3,h4.imp (fun e=>by omega) id⟩
theorem desc_ok:∀ (f:Nat) (p:Array Nat) (n q:Nat),1 ≤ n→n + f ≤ p.size→q + 1 ≤ n→Dn r p n→(∀ k,n - (q + 1) ≤ k→k < n→Rk r p k=Rk r p (n - 1))→∀ z,z=run (ltR r) (kas_desc f p n q) →
  z.1.Perm p∧n ≤ z.2.1∧z.2.1 ≤ n + f∧Dn r z.1 z.2.1∧z.2.2 + 1 ≤ z.2.1∧∀ k,z.2.1 - (z.2.2 + 1) ≤ k→k < z.2.1→Rk r z.1 k=Rk r z.1 (z.2.1 - 1)
 | 0,p,n,q,hn,hs,hq,h,he,z,ez=>by subst ez; exact ⟨.refl _,Nat.le_refl _,Nat.le_refl _,h,hq,he⟩
 | f + 1,p,n,q,hn,hs,hq,h,he,z,ez=>by
  have ez':z=run (ltR r) (if ltR r (p.getD n 0) (p.getD (n - 1) 0)=true then (if q > 0 then kas_desc f (kas_rev p (n - (q + 1)) n) (n + 1) 0 else kas_desc f p (n + 1) 0)
   else .ask (p.getD (n - 1) 0) (p.getD n 0) fun d=>if d=true then .ret (p,n,q) else kas_desc f p (n + 1) (q + 1)):=ez
  by_cases c:ltR r (p.getD n 0) (p.getD (n - 1) 0)=true
  ·rw [if_pos c] at ez'
   have c':Rk r p n < Rk r p (n - 1):=of_decide_eq_true c
   by_cases hq0:q > 0
   ·rw [if_pos hq0] at ez'
    have e1:∀ k,Rk r (kas_rev p (n - (q + 1)) n) k=Rk r p k:=rk_rev_eq r (by omega) he
    have h':Dn r (kas_rev p (n - (q + 1)) n) (n + 1):=by
     intro i j hij hj
     rw [e1,e1]
     exact (h.snoc r hn (Int.le_of_lt c')) i j hij hj
    obtain ⟨a1,a2,a3,a4,a5,a6⟩:=desc_ok f _ (n + 1) 0 (by omega) (by rw [size_rev]; omega) (by omega) h' (fun k k1 k2=>congrArg (Rk r _) (by omega)) z ez'
    exact ⟨a1.trans (perm_rev _ _ _),by omega,by omega,a4,a5,a6⟩
   ·rw [if_neg hq0] at ez'
    obtain ⟨a1,a2,a3,a4,a5,a6⟩:=desc_ok f p (n + 1) 0 (by omega) (by omega) (by omega) (h.snoc r hn (Int.le_of_lt c')) (fun k k1 k2=>congrArg (Rk r _) (by omega)) z ez'
    exact ⟨a1,by omega,by omega,a4,a5,a6⟩
  ·rw [if_neg c] at ez'
   have c':Rk r p (n - 1) ≤ Rk r p n:=Int.not_lt.mp fun z=>c (decide_eq_true z)
   have ez2:z=run (ltR r) (if ltR r (p.getD (n - 1) 0) (p.getD n 0)=true then .ret (p,n,q) else kas_desc f p (n + 1) (q + 1)):=ez'
   by_cases d:ltR r (p.getD (n - 1) 0) (p.getD n 0)=true
   ·rw [if_pos d] at ez2
    subst ez2
    exact ⟨.refl _,Nat.le_refl _,Nat.le_add_right _ _,h,hq,he⟩
   ·rw [if_neg d] at ez2
    have d':Rk r p n ≤ Rk r p (n - 1):=Int.not_lt.mp fun z=>d (decide_eq_true z)
    have e:Rk r p (n - 1)=Rk r p n:=Int.le_antisymm c' d'
    obtain ⟨a1,a2,a3,a4,a5,a6⟩:=desc_ok f p (n + 1) (q + 1) (by omega) (by omega) (by omega) (h.snoc r hn d') (fun k k1 k2=>by
     show Rk r p k=Rk r p n
     by_cases ek:k=n
     ·rw [ek]
     ·rw [he k (by omega) (by omega),e]) z ez2
    exact ⟨a1,by omega,by omega,a4,a5,a6⟩
theorem tail3_ok {p:Array Nat} {n nrem:Nat} (hn:1 ≤ n) (hs:n ≤ p.size) (hr:n ≤ nrem) (h:Dn r p n):∀ z,z=run (ltR r) (kas_tail3 n nrem p)→z.2.Perm p∧1 ≤ z.1∧z.1 ≤ nrem∧Up r z.2 z.1:=by
 intro z ez
 unfold kas_tail3 at ez
 rw [run_bind] at ez
 have hu:Up r (kas_rev p 0 n) n:=by
  intro i j hij hj
  rw [rk_rev r hs,rk_rev r hs,if_pos (by omega),if_pos (by omega)]
  exact h _ _ (by omega) (by omega)
 obtain ⟨a1,a2,a3,a4⟩:=asc_ok r (kas_rev p 0 n) (nrem - n) n hn hu
 subst ez
 exact ⟨perm_rev _ _ _,Nat.le_trans hn a1,by show run (ltR r) (kas_asc (kas_rev p 0 n) (nrem - n) n) ≤ nrem; omega,a3⟩
theorem descPart_ok {p:Array Nat} {n nrem:Nat} (hn:1 ≤ n) (hs:nrem ≤ p.size) (hr:n + 1 ≤ nrem) (h:Dn r p (n + 1)):∀ z,z=run (ltR r) (kas_descPart n nrem p)→z.2.Perm p∧1 ≤ z.1∧z.1 ≤ nrem∧Up r z.2 z.1:=by
 intro z ez
 unfold kas_descPart at ez
 rw [run_bind] at ez
 obtain ⟨a1,a2,a3,a4,a5,a6⟩:=desc_ok r (nrem - (n + 1)) p (n + 1) 0 (by omega) (by omega) (by omega) h (fun k k1 k2=>congrArg (Rk r _) (by omega)) _ rfl
 generalize run (ltR r) (kas_desc (nrem - (n + 1)) p (n + 1) 0)=y at *
 have hsz:y.1.size=p.size:=a1.size_eq
 by_cases c:y.2.2 > 0
 ·rw [if_pos c] at ez
  have e1:∀ k,Rk r (kas_rev y.1 (y.2.1 - (y.2.2 + 1)) y.2.1) k=Rk r y.1 k:=rk_rev_eq r (by omega) a6
  have h':Dn r (kas_rev y.1 (y.2.1 - (y.2.2 + 1)) y.2.1) y.2.1:=by
   intro i j hij hj
   rw [e1,e1]
   exact a4 i j hij hj
  obtain ⟨b1,b2,b3,b4⟩:=tail3_ok r (nrem:=nrem) (by omega) (by rw [size_rev]; omega) (by omega) h' z ez
  exact ⟨(b1.trans (perm_rev _ _ _)).trans a1,b2,b3,b4⟩
 ·rw [if_neg c] at ez
  obtain ⟨b1,b2,b3,b4⟩:=tail3_ok r (nrem:=nrem) (by omega) (by omega) (by omega) a4 z ez
  exact ⟨b1.trans a1,b2,b3,b4⟩
theorem count_ok {p:Array Nat} {nrem:Nat} (h1:1 ≤ nrem) (hs:nrem ≤ p.size):∀ z,z=run (ltR r) (kas_count nrem p)→z.2.Perm p∧1 ≤ z.1∧z.1 ≤ nrem∧Up r z.2 z.1:=by
 intro z ez
 unfold kas_count at ez
 rw [run_bind] at ez
 have hu:Up r p 1:=fun i j hij hj=>by
  have e:i=j:=by omega
  rw [e]; exact Int.le_refl _
 obtain ⟨a1,a2,a3,a4⟩:=asc_ok r p (nrem - 1) 1 (Nat.le_refl _) hu
 generalize run (ltR r) (kas_asc p (nrem - 1) 1)=n at *
 by_cases c:(n == nrem)=true
 ·rw [if_pos c] at ez
  subst ez
  exact ⟨.refl _,a1,by show n ≤ nrem; omega,a3⟩
 ·rw [if_neg c] at ez
  have ne:n ≠ nrem:=fun z=>c (by rw [z]; exact beq_self_eq_true _)
  have lt:Rk r p n < Rk r p (n - 1):=a4.resolve_left (by omega)
  by_cases c2:n > 1
  ·rw [if_pos c2] at ez
   have ez2:z=run (ltR r) (if ltR r (p.getD 0 0) (p.getD (n - 1) 0)=true then .ret (n,p) else kas_descPart n nrem (kas_rev p 0 n)):=ez
   by_cases d:ltR r (p.getD 0 0) (p.getD (n - 1) 0)=true
   ·rw [if_pos d] at ez2
    subst ez2
    exact ⟨.refl _,a1,by show n ≤ nrem; omega,a3⟩
   ·rw [if_neg d] at ez2
    have d':Rk r p (n - 1) ≤ Rk r p 0:=Int.not_lt.mp fun z=>d (decide_eq_true z)
    have eqs:∀ k,0 ≤ k→k < n→Rk r p k=Rk r p (n - 1):=fun k _ k2=>Int.le_antisymm (a3 k (n - 1) (by omega) (by omega)) (Int.le_trans d' (a3 0 k (by omega) k2))
    have e1:∀ k,Rk r (kas_rev p 0 n) k=Rk r p k:=rk_rev_eq r (by omega) eqs
    have h':Dn r (kas_rev p 0 n) (n + 1):=by
     intro i j hij hj
     rw [e1,e1]
     by_cases ej:j < n
     ·rw [eqs i (by omega) (by omega),eqs j (by omega) ej]; exact Int.le_refl _
     ·have:j=n:=by omega
      subst this
      by_cases ei:i=j
      ·rw [ei]; exact Int.le_refl _
      ·rw [eqs i (by omega) (by omega)]; exact Int.le_of_lt lt
    obtain ⟨b1,b2,b3,b4⟩:=descPart_ok r (nrem:=nrem) (by omega) (by rw [size_rev]; omega) (by omega) h' z ez2
    exact ⟨b1.trans (perm_rev _ _ _),b2,b3,b4⟩
  ·rw [if_neg c2] at ez
   have e1:n=1:=by omega
   subst e1
   exact descPart_ok r (nrem:=nrem) (by omega) (by omega) (by omega) (by
    intro i j hij hj
    by_cases ei:i=j
    ·rw [ei]; exact Int.le_refl _
    ·have z1:i=0:=by omega
     have z2:j=1:=by omega
     rw [z1,z2]; exact Int.le_of_lt lt) z ez
theorem place_ok {p:Array Nat} {k:Nat}:∀ (f l q:Nat),l ≤ q→q ≤ k→q - l ≤ f→Up r p k→(∀ i,i < l→Rk r p i ≤ Rk r p k)→(∀ i,q ≤ i→i < k→Rk r p k ≤ Rk r p i)→∀ z,z=run (ltR r) (kas_place p k f l q) →
  z ≤ k∧(∀ i,i < z→Rk r p i ≤ Rk r p k)∧∀ i,z ≤ i→i < k→Rk r p k ≤ Rk r p i
 | 0,l,q,hl,hq,hf,hu,h1,h2,z,ez=>by
  have e:l=q:=by omega
  subst e
  subst ez
  exact ⟨hq,h1,h2⟩
 | f + 1,l,q,hl,hq,hf,hu,h1,h2,z,ez=>by
  unfold kas_place at ez
  by_cases c:l ≥ q
  ·rw [if_pos c] at ez
   have e:l=q:=by omega
   subst e
   subst ez
   exact ⟨hq,h1,h2⟩
  ·rw [if_neg c] at ez
   have ez2:z=run (ltR r) (if ltR r (p.getD k 0) (p.getD ((l + q) / 2) 0)=true then kas_place p k f l ((l + q) / 2) else kas_place p k f ((l + q) / 2 + 1) q):=ez
   by_cases d:ltR r (p.getD k 0) (p.getD ((l + q) / 2) 0)=true
   ·rw [if_pos d] at ez2
    have d':Rk r p k < Rk r p ((l + q) / 2):=of_decide_eq_true d
    exact place_ok f l ((l + q) / 2) (by omega) (by omega) (by omega) hu h1 (fun i i1 i2=>Int.le_trans (Int.le_of_lt d') (hu _ i i1 i2)) z ez2
   ·rw [if_neg d] at ez2
    have d':Rk r p ((l + q) / 2) ≤ Rk r p k:=Int.not_lt.mp fun z=>d (decide_eq_true z)
    exact place_ok f ((l + q) / 2 + 1) q (by omega) hq (by omega) hu (fun i i1=>Int.le_trans (hu i ((l + q) / 2) (by omega) (by omega)) d') h2 z ez2
theorem rk_bubble {p:Array Nat} {src d:Nat} (hs:src < p.size) (hd:d ≤ src) (k:Nat) :
  Rk r (bubble p src d) k=if k=src - d then Rk r p src else if src - d < k∧k ≤ src then Rk r p (k - 1) else Rk r p k:=by
 unfold Rk
 simp only [Array.getD_eq_getD_getElem?]
 rw [getElem?_bubble hs d hd k]
 split
 ·rfl
 ·split <;> rfl
theorem bin_ok:∀ (f:Nat) (p:Array Nat) (k:Nat),k + f ≤ p.size→Up r p k→(run (ltR r) (kas_bin f p k)).Perm p∧Up r (run (ltR r) (kas_bin f p k)) (k + f)
 | 0,p,k,hs,h=>⟨.refl _,h⟩
 | f + 1,p,k,hs,h=>by
  unfold kas_bin
  rw [run_bind]
  obtain ⟨l1,l2,l3⟩:=place_ok r (p:=p) (k:=k) k 0 k (by omega) (Nat.le_refl _) (by omega) h (fun i hi=>absurd hi (Nat.not_lt_zero _)) (fun i i1 i2=>absurd i2 (by omega)) _ rfl
  generalize run (ltR r) (kas_place p k k 0 k)=l at *
  have hb:∀ j,Rk r (bubble p k (k - l)) j=if j=l then Rk r p k else if l < j∧j ≤ k then Rk r p (j - 1) else Rk r p j:=fun j=>by
   rw [rk_bubble r (by omega) (by omega),show k - (k - l)=l by omega]
  have hu:Up r (bubble p k (k - l)) (k + 1):=by
   intro i j hij hj
   rw [hb,hb]
   by_cases e1:i=l
   ·rw [if_pos e1]
    by_cases e2:j=l
    ·rw [if_pos e2]; exact Int.le_refl _
    ·rw [if_neg e2,if_pos (by omega)]; exact l3 _ (by omega) (by omega)
   ·rw [if_neg e1]
    by_cases e2:j=l
    ·rw [if_pos e2,if_neg (by omega)]; exact l2 _ (by omega)
    ·rw [if_neg e2]
     by_cases e3:l < i∧i ≤ k
     ·rw [if_pos e3,if_pos (by omega)]; exact h _ _ (by omega) (by omega)
     ·rw [if_neg e3]
      by_cases e4:l < j∧j ≤ k
      ·rw [if_pos e4]; exact h _ _ (by omega) (by omega)
      ·rw [if_neg e4]; exact h _ _ (by omega) (by omega)
  obtain ⟨a1,a2⟩:=bin_ok f (bubble p k (k - l)) (k + 1) (by rw [bubble_size]; omega) hu
  exact ⟨a1.trans (bubble_perm _ _ _),by rw [show k + (f + 1)=k + 1 + f by omega]; exact a2⟩
theorem sort_ok {n:Nat} (hn:1 ≤ n):(run (ltR r) (kas_sort n)).Perm (List.toArray (List.range n))∧Up r (run (ltR r) (kas_sort n)) n:=by
 unfold kas_sort
 rw [run_bind]
 have hsz:(List.toArray (List.range n)).size=n:=by simp
 obtain ⟨a1,a2,a3,a4⟩:=count_ok r (p:=List.toArray (List.range n)) hn (by omega) _ rfl
 generalize run (ltR r) (kas_count n (List.toArray (List.range n)))=y at *
 have hy:y.2.size=n:=by rw [a1.size_eq,hsz]
 have hm:max y.1 1=y.1:=Nat.max_eq_left a2
 by_cases c:y.1 < n
 ·rw [if_pos c,hm]
  obtain ⟨b1,b2⟩:=bin_ok r (n - y.1) y.2 y.1 (by omega) a4
  exact ⟨b1.trans a1,by rw [show y.1 + (n - y.1)=n by omega] at b2; exact b2⟩
 ·rw [if_neg c]
  have e:y.1=n:=by omega
  exact ⟨a1,by rw [e] at a4; exact a4⟩
end
end DV
namespace DV
open PySem PySem.W PyProof.Rows
def En {α:Type} (n:Nat) (G:α→Prop):KasT α→Prop
 | .ret a=>G a
 | .ask i j k=>i < n∧j < n∧∀ b,En n G (k b)
theorem En.bind {α β:Type} {n:Nat} {f:α→KasT β} {G:α→Prop} {G':β→Prop}:∀ {t:KasT α},En n G t→(∀ a,G a→En n G' (f a))→En n G' (t.bind f)
 | .ret a,g,h=>h a g
 | .ask i j k,g,h=>⟨g.1,g.2.1,fun b=>En.bind (g.2.2 b) h⟩
theorem En.ask {α:Type} {n i j:Nat} {k:Bool→KasT α} {G:α→Prop} (hi:i < n) (hj:j < n) (h:∀ b,En n G (k b)):En n G (.ask i j k):=⟨hi,hj,h⟩
def Bd (n:Nat) (p:Array Nat):Prop:=∀ i,p.getD i 0 < n
theorem Bd.of {n:Nat} {p q:Array Nat} (h:Bd n p) (hq:q.Perm p) (hn:0 < n):Bd n q:=by
 intro i
 by_cases hi:i < q.size
 ·have e:q.getD i 0=q[i]:=by simp [Array.getD,hi]
  rw [e]
  have m:q[i] ∈ p:=hq.mem_iff.mp (Array.getElem_mem hi)
  obtain ⟨j,hj,ej⟩:=Array.mem_iff_getElem.mp m
  have:=h j
  rw [show p.getD j 0=p[j] by simp [Array.getD,hj],ej] at this
  exact this
 ·rw [show q.getD i 0=0 by simp [Array.getD,hi]]
  exact hn
section
variable {n:Nat} (hn:0 < n)
theorem en_asc {p:Array Nat} (h:Bd n p):∀ f k,En n (fun _=>True) (kas_asc p f k)
 | 0,_=>trivial
 | f + 1,k=>.ask (h _) (h _) fun b=>by
  cases b
  ·rw [if_neg (by simp)]; exact en_asc h f (k + 1)
  ·rw [if_pos rfl]; exact trivial
include hn in
theorem en_desc:∀ f (p:Array Nat) k q,Bd n p→En n (fun z=>Bd n z.1) (kas_desc f p k q)
 | 0,_,_,_,h=>h
 | f + 1,p,k,q,h=>.ask (h _) (h _) fun b=>by
  cases b
  ·rw [if_neg (by simp)]
   refine .ask (h _) (h _) fun d=>?_
   cases d
   ·rw [if_neg (by simp)]; exact en_desc f p (k + 1) (q + 1) h
   ·rw [if_pos rfl]; exact h
  ·rw [if_pos rfl]
   split
   ·exact en_desc f _ (k + 1) 0 (h.of (perm_rev _ _ _) hn)
   ·exact en_desc f p (k + 1) 0 h
include hn in
theorem en_tail3 {k m:Nat} {p:Array Nat} (h:Bd n p):En n (fun z=>Bd n z.2) (kas_tail3 k m p) :=
 (en_asc (h.of (perm_rev p 0 k) hn) _ _).bind fun _ _=>h.of (perm_rev p 0 k) hn
include hn in
theorem en_descPart {k m:Nat} {p:Array Nat} (h:Bd n p):En n (fun z=>Bd n z.2) (kas_descPart k m p):=by
 refine (en_desc hn _ p _ 0 h).bind fun z hz=>?_
 split
 ·exact en_tail3 hn (hz.of (perm_rev _ _ _) hn)
 ·exact en_tail3 hn hz
include hn in
theorem en_count {m:Nat} {p:Array Nat} (h:Bd n p):En n (fun z=>Bd n z.2) (kas_count m p):=by
 refine (en_asc h _ _).bind fun k _=>?_
 split
 ·exact h
 ·split
  ·refine .ask (h _) (h _) fun b=>?_
   cases b
   ·rw [if_neg (by simp)]; exact en_descPart hn (h.of (perm_rev _ _ _) hn)
   ·rw [if_pos rfl]; exact h
  ·exact en_descPart hn h
theorem en_place {p:Array Nat} {k:Nat} (h:Bd n p):∀ f l q,En n (fun _=>True) (kas_place p k f l q)
 | 0,_,_=>trivial
 | f + 1,l,q=>by
  unfold kas_place
  split
  ·exact trivial
  ·refine .ask (h _) (h _) fun b=>?_
   cases b
   ·rw [if_neg (by simp)]; exact en_place h f _ _
   ·rw [if_pos rfl]; exact en_place h f _ _
include hn in
theorem en_bin:∀ f (p:Array Nat) k,Bd n p→En n (fun z=>Bd n z) (kas_bin f p k)
 | 0,_,_,h=>h
 | f + 1,p,k,h=>(en_place h _ _ _).bind fun l _=>en_bin f _ (k + 1) (h.of (bubble_perm _ _ _) hn)
include hn in
theorem en_sort:En n (fun _=>True) (kas_sort n):=by
 have h0:Bd n (List.toArray (List.range n)):=fun i=>by
  by_cases hi:i < n
  ·simp [Array.getD,hi]
  ·simp [Array.getD,hi,hn]
 refine (en_count hn h0).bind fun z hz=>?_
 split
 ·have mono:∀ {t:KasT (Array Nat)},En n (fun z=>Bd n z) t→En n (fun _=>True) t:=fun {t}=>by
   induction t with
   | ret a=>exact fun _=>trivial
   | ask i j k ih=>exact fun h=>⟨h.1,h.2.1,fun b=>ih b (h.2.2 b)⟩
  exact mono (en_bin hn _ _ _ hz)
 ·exact trivial
end
theorem wp_en {α:Type} {n:Nat} {cmp:Nat→Nat→(Bool→Shared→Prop)→Shared→Prop} {lt:Nat→Nat→Bool} {J:Shared→Prop} (h:∀ i j,i < n→j < n→∀ C s,J s→(∀ s',J s'→C (lt i j) s')→cmp i j C s) {G:α→Prop} {Q:α→Shared→Prop} :
  ∀ (t:KasT α) (s:Shared),En n G t→J s→(∀ s',J s'→Q (run lt t) s')→t.kasWp cmp Q s
 | .ret a,s,_,js,q=>q s js
 | .ask i j k,s,e,js,q=>h i j e.1 e.2.1 _ s js fun s' js'=>wp_en h (k (lt i j)) s' (e.2.2 _) js' q
def rank (lt:Nat→Nat→Bool) (n i:Nat):Int:=((List.range n).countP fun j=>lt j i:Nat)
theorem countP_lt {α:Type} {l:List α} {p q:α→Bool} (h:∀ x ∈ l,p x=true→q x=true) {a:α} (ha:a ∈ l) (hp:p a=false) (hq:q a=true):l.countP p < l.countP q:=by
 induction l with
 | nil=>cases ha
 | cons b l ih =>
  have m:=List.countP_mono_left (l:=l) (p:=p) (q:=q) fun x hx=>h x (List.mem_cons_of_mem _ hx)
  rcases List.mem_cons.mp ha with e | ha
  ·subst e
   rw [List.countP_cons_of_neg (by simp [hp]),List.countP_cons_of_pos hq]
   omega
  ·have i1:=ih (fun x hx=>h x (List.mem_cons_of_mem _ hx)) ha
   by_cases hb:p b=true
   ·rw [List.countP_cons_of_pos hb,List.countP_cons_of_pos (h b (List.mem_cons_self ..) hb)]
    omega
   ·rw [List.countP_cons_of_neg hb]
    by_cases hb2:q b=true
    ·rw [List.countP_cons_of_pos hb2]; omega
    ·rw [List.countP_cons_of_neg hb2]; exact i1
structure Ord (lt:Nat→Nat→Bool) (n:Nat):Prop where
 irr:∀ i,i < n→lt i i=false
 tr:∀ i j k,i < n→j < n→k < n→lt i j=true→lt j k=true→lt i k=true
 neg:∀ i j k,i < n→j < n→k < n→lt i k=true→lt i j=true ∨ lt j k=true
theorem rank_lt {lt:Nat→Nat→Bool} {n i j:Nat} (o:Ord lt n) (hi:i < n) (hj:j < n):ltR (rank lt n) i j=lt i j:=by
 unfold ltR rank
 cases e:lt i j with
 | true =>
  refine decide_eq_true (Int.ofNat_lt.mpr (countP_lt (fun x hx h=>?_) (List.mem_range.mpr hi) (o.irr i hi) e))
  exact o.tr x i j (List.mem_range.mp hx) hi hj h e
 | false =>
  refine decide_eq_false (Int.not_lt.mpr (Int.ofNat_le.mpr (List.countP_mono_left fun x hx h=>?_)))
  rcases o.neg x i j (List.mem_range.mp hx) hi hj h with z | z
  ·exact z
  ·rw [e] at z; cases z
theorem sort_wp {n:Nat} (hn:1 ≤ n) {cmp:Nat→Nat→(Bool→Shared→Prop)→Shared→Prop} {lt:Nat→Nat→Bool} {J:Shared→Prop} (o:Ord lt n) (h:∀ i j,i < n→j < n→∀ C s,J s→(∀ s',J s'→C (lt i j) s')→cmp i j C s)
  {Q:Array Nat→Shared→Prop} {s:Shared} (js:J s) (hq:∀ p:Array Nat,p.Perm (List.toArray (List.range n))→(∀ i j,i ≤ j→j < n→lt (p.getD j 0) (p.getD i 0)=false)→∀ s',J s'→Q p s'):(kas_sort n).kasWp cmp Q s:=by
 refine wp_en (lt:=ltR (rank lt n)) (J:=J) (G:=fun _=>True) (fun i j hi hj C s js hc=>h i j hi hj C s js fun s' js'=>by rw [← rank_lt o hi hj]; exact hc s' js') (kas_sort n) s (en_sort (by omega)) js fun s' js'=>?_
 obtain ⟨a1,a2⟩:=sort_ok (rank lt n) hn
 refine hq _ a1 (fun i j hij hj=>?_) s' js'
 have h0:Bd n (List.toArray (List.range n)):=fun i=>by
  by_cases hi:i < n
  ·simp [Array.getD,hi]
  ·simp [Array.getD,hi]; omega
 have b:=h0.of a1 (by omega)
 rw [← rank_lt o (b j) (b i)]
 exact decide_eq_false (Int.not_lt.mpr (a2 i j hij hj))
end DV
namespace DV
open PySem PySem.W PyProof.Rows
def lexLt (p q:Int × Str):Bool:=if p.1=q.1 then (if p.2=q.2 then false else decide (p.2.cps.toList < q.2.cps.toList)) else decide (p.1 < q.1)
section
variable {prog:Program} {w:World} {A:Around} {E:Value→Shared→Prop} {s:Shared}
theorem cmp_pair {x y:Addr} {ox oy:Obj} {a b:Int} {m n:Str} {t1 t2 u1 u2:Tok} {c d:Nat} {Q:Bool→Shared→Prop} (hx:s.heap.get? x=some ox) (dx:ox.data=.seq #[.int a t1,.str m t2] c) (hy:s.heap.get? y=some oy) (dy:oy.data=.seq #[.int b u1,.str n u2] d)
  (h:Q (lexLt (a,m) (b,n)) s):wpAny (model prog w) A (keyLt' (tuples' true) (.ref x) (.ref y)) Q E s:=by
 refine kat_lt hx dx hy dy ?_
 show KatLex prog w A true (decide (2 < 2)) Q [(.int a t1,.int b u1),(.str m t2,.str n u2)] 0 s
 refine kat_cons (wpAny_eqBool_int ?_)
 unfold lexLt at h
 by_cases e:a=b
 ·rw [show (a == b)=true by simp [e]]
  refine kat_yes (kat_cons (wpAny_eqBool_str ?_))
  dsimp only at h
  rw [if_pos e] at h
  by_cases e2:m=n
  ·rw [decide_eq_true e2]
   rw [if_pos e2] at h
   exact kat_yes (kat_nil h)
  ·rw [decide_eq_false e2]
   rw [if_neg e2] at h
   exact kat_no (kat_one _ _ (lt_str h))
 ·rw [show (a == b)=false by simp [e]]
  dsimp only at h
  rw [if_neg e] at h
  exact kat_no (oneLt_int h)
theorem tailS {a kS:Addr} {e1 e:Nat} {ks:List Value} {out:List Value} {st:SortSt} {P:PySem.Fin→Shared→Prop} (ha:s.heap.get? a=some (seqObj "list" #[] e1)) (hk:s.heap.get? kS=some (seqObj "list" (List.toArray ks) e)) (hne:kS ≠ a)
  (hout:(arrOf st).map (·.2)=List.toArray out) (hz:out.length < 64) (hkz:ks.length < 64) (hf:failedOf st=none)
  (h:∀ h' c,(∀ b,b ≠ kS→b ≠ a→h'.get? b=s.heap.get? b)→h'.get? a=some (seqObj "list" (List.toArray out) c)→P (.done (.ret .none)) { s with heap:=h' }):wpAny (model prog w) A (ksk_tail a false e1 (.ref kS) st) P E s:=by
 have s1:=Heap.SameBut.update s.heap kS (Obj.mapSeq fun _=>(#[]:Array Value))
 have na:(s.heap.update kS (Obj.mapSeq fun _=>(#[]:Array Value))).get? a=some (seqObj "list" #[] e1):=(s1.2 a (Ne.symm hne)).trans ha
 have s2:=Heap.SameBut.update (s.heap.update kS (Obj.mapSeq fun _=>(#[]:Array Value))) a (Obj.mapSeq fun _=>List.toArray out)
 obtain ⟨c2,hc2⟩:∃ c2,((s.heap.update kS (Obj.mapSeq fun _=>(#[]:Array Value))).update a (Obj.mapSeq fun _=>List.toArray out)).get? a=some (seqObj "list" (List.toArray out) c2):=⟨_,get?_update_seq na fun _=>List.toArray out⟩
 unfold ksk_tail
 try dsimp only
 rw [hout]
 refine wpAny_bind (listUpdate_at hk rfl ?_ (by rw [List.size_toArray,sizeLine_eq]; omega) (Nat.zero_le _))
 refine wpAny_bind (wpAny_letGo ?_)
 refine wpAny_bind (seqEpoch_at na rfl ?_)
 refine wpAny_bind (listUpdate_at na rfl ?_ (Nat.zero_le _) (by simp only [Bool.false_eq_true,if_false,List.size_toArray,sizeLine_eq]; omega))
 rw [hf]
 simp only [bne_self_eq_false,Bool.false_eq_true,if_false]
 exact wpAny_pure (h _ c2 (fun b b1 b2=>(s2.2 b b2).trans (s1.2 b b1)) hc2)
end
theorem lexOrd (ps:List (Int × Str)) (n:Nat):Ord (fun i j=>lexLt (ps.getD i (0,"")) (ps.getD j (0,""))) n:=by
 have irr:∀ p,lexLt p p=false:=fun p=>by unfold lexLt; rw [if_pos rfl,if_pos rfl]
 have ltl:∀ x y z:Str,x.cps.toList < y.cps.toList→y.cps.toList < z.cps.toList→x.cps.toList < z.cps.toList:=fun x y z h1 h2=>List.lt_trans h1 h2
 have neq:∀ x y:Str,x.cps.toList < y.cps.toList→x ≠ y:=fun x y h e=>by subst e; exact List.lt_irrefl _ h
 have tot:∀ x y:Str,x ≠ y→x.cps.toList < y.cps.toList ∨ y.cps.toList < x.cps.toList:=fun x y h=>by
  by_cases c:x.cps.toList < y.cps.toList
  ·exact .inl c
  ·by_cases d:y.cps.toList < x.cps.toList
   ·exact .inr d
   ·exfalso
    apply h
    have e:x.cps.toList=y.cps.toList:=List.le_antisymm (List.not_lt.mp d) (List.not_lt.mp c)
    have e2:x.cps=y.cps:=Array.toList_inj.mp e
    cases x; cases y; simp_all
 have sp:∀ p q,lexLt p q=true ↔ (p.1 < q.1 ∨ p.1=q.1∧p.2.cps.toList < q.2.cps.toList):=fun p q=>by
  unfold lexLt
  by_cases e:p.1=q.1
  ·rw [if_pos e]
   by_cases e2:p.2=q.2
   ·rw [if_pos e2]
    constructor
    ·intro h; cases h
    ·rintro (h | ⟨_,h⟩)
     ·omega
     ·exact absurd e2 (neq _ _ h)
   ·rw [if_neg e2]
    constructor
    ·intro h; exact .inr ⟨e,of_decide_eq_true h⟩
    ·rintro (h | ⟨_,h⟩)
     ·omega
     ·exact decide_eq_true h
  ·rw [if_neg e]
   constructor
   ·intro h; exact .inl (of_decide_eq_true h)
   ·rintro (h | ⟨h,_⟩)
    ·exact decide_eq_true h
    ·exact absurd h e
 refine ⟨fun i _=>irr _,fun i j k _ _ _ h1 h2=>?_,fun i j k _ _ _ h=>?_⟩
 ·rw [sp] at *
  rcases h1 with h1 | ⟨h1,h1'⟩ <;> rcases h2 with h2 | ⟨h2,h2'⟩
  ·exact .inl (by omega)
  ·exact .inl (by omega)
  ·exact .inl (by omega)
  ·exact .inr ⟨by omega,ltl _ _ _ h1' h2'⟩
 ·rw [sp] at h
  rw [sp,sp]
  generalize ps.getD i (0,"")=p at *
  generalize ps.getD j (0,"")=q at *
  generalize ps.getD k (0,"")=z at *
  by_cases c1:p.1 < q.1
  ·exact .inl (.inl c1)
  ·by_cases c2:q.1 < z.1
   ·exact .inr (.inl c2)
   ·rcases h with h | ⟨h,h'⟩
    ·omega
    ·have e1:p.1=q.1:=by omega
     have e2:q.1=z.1:=by omega
     by_cases c:p.2.cps.toList < q.2.cps.toList
     ·exact .inl (.inr ⟨e1,c⟩)
     ·refine .inr (.inr ⟨e2,?_⟩)
      by_cases c3:q.2=p.2
      ·rw [c3]; exact h'
      ·rcases tot _ _ c3 with d | d
       ·exact ltl _ _ _ d h'
       ·exact absurd d c
end DV
namespace DV
open PySem PySem.W PyProof.Rows
def KeyAt (h:Heap) (k:Value) (p:Int × Str):Prop:=∃ x ox t1 t2 c,k=.ref x∧h.get? x=some ox∧ox.cls=.type "tuple"∧ox.data=.seq #[.int p.1 t1,.str p.2 t2] c
def KeysAt (h:Heap) (ks:List Value) (ps:List (Int × Str)):Prop:=ks.length=ps.length∧∀ (i:Nat) (k:Value) (p:Int × Str),ks[i]?=some k→ps[i]?=some p→KeyAt h k p
section
variable {prog:Program} {w:World} {A:Around} {E:Value→Shared→Prop} {s:Shared}
theorem katTups_of {h:Heap}:∀ {ks:List Value} {ps:List (Int × Str)},KeysAt h ks ps→∃ fs,KatTups h ks fs∧fs.length=ks.length∧∀ v ∈ fs,∃ a t,v=Value.int a t
 | [],[],_=>⟨[],trivial,rfl,fun v z=>nomatch z⟩
 | [],_ :: _,hk=>by cases hk.1
 | _ :: _,[],hk=>by cases hk.1
 | k :: ks,p :: ps,hk=>by
  obtain ⟨fs,h1,h2,h3⟩:=katTups_of (h:=h) (ks:=ks) (ps:=ps) ⟨by simpa using hk.1,fun i k p e1 e2=>hk.2 (i + 1) k p (by simpa using e1) (by simpa using e2)⟩
  obtain ⟨x,ox,t1,t2,c,e,ho,hc,hd⟩:=hk.2 0 k p rfl rfl
  subst e
  refine ⟨.int p.1 t1 :: fs,KatTups.cons ho hc hd rfl h1,by simp [h2],fun v hv=>?_⟩
  rcases List.mem_cons.mp hv with z | z
  ·exact ⟨p.1,t1,z⟩
  ·exact h3 v z
theorem endS {a kS:Addr} {e1 e:Nat} {ks vs:List Value} {ps:List (Int × Str)} {P:PySem.Fin→Shared→Prop} (hl:ks.length=vs.length) (h64:vs.length < 64) (ha:s.heap.get? a=some (seqObj "list" #[] e1))
  (hk:s.heap.get? kS=some (seqObj "list" (List.toArray ks) e)) (hne:kS ≠ a) (hks:KeysAt s.heap ks ps)
  (h:∀ p:Array Nat,p.Perm (List.toArray (List.range vs.length))→(∀ i j,i ≤ j→j < vs.length→lexLt (ps.getD (p.getD j 0) (0,"")) (ps.getD (p.getD i 0) (0,""))=false) →
   ∀ h' c,(∀ b,b ≠ kS→b ≠ a→h'.get? b=s.heap.get? b)→h'.get? a=some (seqObj "list" (List.toArray (p.toList.map fun i=>vs.getD i Value.none)) c)→P (.done (.ret .none)) { s with heap:=h' }) :
  wpAny (model prog w) A (ksk_end a false vs.toArray e1 (.ref kS) (List.toArray ks)) P E s:=by
 unfold ksk_end
 try dsimp only
 simp only [Bool.false_eq_true,if_false]
 by_cases h2:vs.length < 2
 ·have hn2:vs.toArray.size < 2:=by rw [List.size_toArray]; exact h2
  rw [if_pos hn2,if_pos hn2]
  refine wpAny_bind (wpAny_pure ?_)
  refine wpAny_bind (wpAny_pure ?_)
  try dsimp only
  have hr:(List.toArray (List.range vs.length)).toList.map (fun i=>vs.getD i Value.none)=vs:=by
   apply List.ext_getElem?
   intro i
   by_cases hi:i < vs.length
   ·simp [hi,List.getD]
   ·simp [hi]
  have ho:(arrOf (SortSt.mk' general' ((List.toArray ks).zip vs.toArray) #[] 7 none)).map (·.2)=List.toArray vs:=by
   show ((List.toArray ks).zip vs.toArray).map (·.2)=_
   apply Array.toList_inj.mp
   rw [Array.toList_map,ksk_zip]
   exact List.map_snd_zip (Nat.le_of_eq hl.symm)
  refine tailS ha hk hne ho h64 (by omega) rfl fun h' c hb hc=>h (List.toArray (List.range vs.length)) (.refl _) (fun i j hij hj=>?_) h' c hb (by rw [hr]; exact hc)
  have e0:i=j:=by omega
  rw [e0]
  unfold lexLt
  rw [if_pos rfl,if_pos rfl]
 ·have hn2:¬ vs.toArray.size < 2:=by rw [List.size_toArray]; exact h2
  rw [if_neg hn2,if_neg hn2]
  obtain ⟨fs,t1,t2,t3⟩:=katTups_of hks
  refine wpAny_bind (kat_kind (T:=.type "int") t1 (by omega) (fun v hv=>?_) (by decide) ?_)
  ·obtain ⟨z,t,rfl⟩:=t3 v hv
   exact .now
  rw [show (Value.type "int" != Value.type "tuple")=true by decide]
  refine wpAny_bind (wpAny_mono (kat_run (Q:=fun st' s'=>∃ p:Array Nat,arrOf st'=p.map (kas_item ((List.toArray ks).zip (List.toArray vs)))∧failedOf st'=none∧s'=s ∧
   p.Perm (List.toArray (List.range vs.length))∧∀ i j,i ≤ j→j < vs.length→lexLt (ps.getD (p.getD j 0) (0,"")) (ps.getD (p.getD i 0) (0,""))=false)
   (G:=fun p s'=>s'=s∧p.Perm (List.toArray (List.range vs.length))∧∀ i j,i ≤ j→j < vs.length→lexLt (ps.getD (p.getD j 0) (0,"")) (ps.getD (p.getD i 0) (0,""))=false)
   hl (by omega) h64 (fun p' st' s' _ a2 a3 a4=>⟨p',a2,a3,a4⟩) ?_) ?_ fun _ _ x=>x)
  ·refine sort_wp (J:=fun s'=>s'=s) (by omega) (lexOrd ps vs.length) (fun i j hi hj C s' js hc=>?_) rfl fun p hp hs s' js=>⟨js,hp,hs⟩
   subst js
   have li:i < ks.length:=by omega
   have lj:j < ks.length:=by omega
   have lps:=hks.1
   obtain ⟨x,ox,u1,u2,c1,ex,hx,_,dx⟩:=hks.2 i ks[i] (ps[i]'(by omega)) (by simp [li]) (by simp [show i < ps.length by omega])
   obtain ⟨y,oy,w1,w2,c2,ey,hy,_,dy⟩:=hks.2 j ks[j] (ps[j]'(by omega)) (by simp [lj]) (by simp [show j < ps.length by omega])
   show wpAny _ _ (keyLt' (tuples' true) (ks.getD i Value.none) (ks.getD j Value.none)) _ _ _
   rw [show ks.getD i Value.none=.ref x by simp [List.getD,li,ex],show ks.getD j Value.none=.ref y by simp [List.getD,lj,ey]]
   refine cmp_pair hx dx hy dy ?_
   have:=hc _ rfl
   simpa [List.getD,show i < ps.length by omega,show j < ps.length by omega] using this
  ·rintro ⟨⟨⟩,st'⟩ s' ⟨p,har,hf,rfl,hp,hs⟩
   try dsimp only
   exact tailS ha hk hne (kat_snds hl har) (by rw [List.length_map,Array.length_toList,hp.size_eq]; simpa using h64) (by omega) hf fun h' c hb hc=>h p hp hs h' c hb hc
end
end DV
namespace L2
open PySem PySem.Spec PySem.W PyProof.Rows
abbrev Cx.i2 (X:Cx):Cx:=X.i1.i1
def KeyF (X:Cx) (f:Value) (pins:List (Addr × Obj)) (σ:St) (H:Hp) (names:List Str) (kf:Str→Int):Prop :=
 ∀ (more:List (Addr × Obj)) (s:Shared) (H1:Hp) (x:Str) (t:Tok),x ∈ names→Inv X.i2 (pins ++ more) σ H1 s→Same H H1 →
  wpAny (model X.prog X.w) X.i2.A (call f [.str x t]) (fun v s'=>∃ p H2,v=.ref p∧Same H1 H2∧H2 p=some (.tup [.int (kf x),.str x])∧Inv X.i2 (pins ++ more) σ H2 s') (fun _ _=>False) s
def KeysH (H:Hp) (ks:List Value) (ps:List (Int × Str)):Prop:=ks.length=ps.length∧∀ (i:Nat) (k:Value) (p:Int × Str),ks[i]?=some k→ps[i]?=some p→∃ x,k=.ref x∧H x=some (.tup [.int p.1,.str p.2])
theorem KeysH.keep {H H':Hp} {ks:List Value} {ps:List (Int × Str)} (h:KeysH H ks ps) (s:Same H H'):KeysH H' ks ps:=⟨h.1,fun i k p e1 e2=>by
 obtain ⟨x,ex,hx⟩:=h.2 i k p e1 e2
 exact ⟨x,ex,s _ _ hx⟩⟩
theorem KeysH.snoc {H:Hp} {ks:List Value} {ps:List (Int × Str)} (h:KeysH H ks ps) {p:Int × Str} {x:Addr} (hx:H x=some (.tup [.int p.1,.str p.2])):KeysH H (ks ++ [.ref x]) (ps ++ [p]):=by
 refine ⟨by simp [h.1],fun i k q e1 e2=>?_⟩
 by_cases hi:i < ks.length
 ·rw [List.getElem?_append_left hi] at e1
  rw [List.getElem?_append_left (by rw [← h.1]; exact hi)] at e2
  exact h.2 i k q e1 e2
 ·rw [List.getElem?_append_right (by omega)] at e1
  rw [List.getElem?_append_right (by rw [← h.1]; omega)] at e2
  have hz:i - ks.length=0:=by
   cases z:i - ks.length with
   | zero=>rfl
   | succ m=>rw [z] at e1; simp at e1
  rw [hz] at e1
  rw [← h.1,hz] at e2
  cases e1
  cases e2
  exact ⟨x,rfl,hx⟩
section
variable {X:Cx} {pins:List (Addr × Obj)} {σ:St} {E:Value→Shared→Prop}
theorem KeysH.at {H:Hp} {s:Shared} {ks:List Value} {ps:List (Int × Str)} (I:Inv X pins σ H s) (h:KeysH H ks ps):DV.KeysAt s.heap ks ps:=⟨h.1,fun i k p e1 e2=>by
 obtain ⟨x,ex,hx⟩:=h.2 i k p e1 e2
 obtain ⟨_,its,rv,o,ho,hc,n,hd⟩:=I.hok x _ hx
 obtain ⟨u,v,e3,ru,rv'⟩:=vals2 rv
 obtain ⟨t1,e4⟩:=ru
 obtain ⟨t2,e5⟩:=rv'
 exact ⟨x,o,t1,t2,n,ex,ho,hc,by rw [hd,e3,e4,e5]⟩⟩
theorem loopS {f:Value} {H:Hp} {names:List Str} {kf:Str→Int} {a kS:Addr} {e1:Nat} {body:Value→PUnit→Sem (ForInStep PUnit)} (hK:KeyF X f pins σ H names kf) (hne:kS ≠ a)
  (hb:∀ x (s:Shared) (R:Value→Shared→Prop),wpAny (model X.prog X.w) X.i2.A (call f [x]) (fun k s'=>∃ ks e,s'.heap.get? kS=some (seqObj "list" (List.toArray ks) e)∧ks.length < 64 ∧
    ∀ h' c,Heap.SameBut kS s'.heap h'→h'.get? kS=some (seqObj "list" (List.toArray (ks ++ [k])) c)→R k { s' with heap:=h' }) (fun _ _=>False) s →
   wpAny (model X.prog X.w) X.i2.A (body x ⟨⟩) (fun r s'=>r=.yield ⟨⟩∧∃ k,R k s') E s) :
  ∀ (nr:List Str) (r ks:List Value) (ps:List (Int × Str)) (s:Shared) (H1:Hp) (e:Nat),Vals (nr.map V.str) r→(∀ x ∈ nr,x ∈ names)→Inv X pins σ H1 s→Same H H1→(∀ b ∈ [a,kS],FpOk X pins H1 b) →
   s.heap.get? a=some (seqObj "list" #[] e1)→s.heap.get? kS=some (seqObj "list" (List.toArray ks) e)→KeysH H1 ks ps→ks.length + r.length < 64 →
   wpAny (model X.prog X.w) X.i2.A (forIn r PUnit.unit body) (fun _ s'=>∃ ks' H2 e',Inv X pins σ H2 s'∧Same H H2∧(∀ b ∈ [a,kS],FpOk X pins H2 b)∧s'.heap.get? a=some (seqObj "list" #[] e1) ∧
    s'.heap.get? kS=some (seqObj "list" (List.toArray ks') e')∧ks'.length=ks.length + r.length∧KeysH H2 ks' (ps ++ nr.map fun x=>(kf x,x))) E s
 | [],r,ks,ps,s,H1,e,rv,_,I,sm,fp,ha,hk,kh,hl=>by
  cases rv
  rw [List.forIn_nil]
  exact wpAny_pure ⟨ks,H1,e,I,sm,fp,ha,hk,by simp,by simpa using kh⟩
 | x :: nr,r,ks,ps,s,H1,e,rv,sub,I,sm,fp,ha,hk,kh,hl=>by
  obtain ⟨u,r',er,ru,rv'⟩:∃ u r',r=u :: r'∧RelV (V.str x) u∧Vals (nr.map V.str) r':=by
   cases rv with
   | cons a b=>exact ⟨_,_,rfl,a,b⟩
  subst er
  obtain ⟨t,eu⟩:=ru
  subst eu
  rw [List.forIn_cons]
  have ob:∀ b ∈ [a,kS],∃ o,s.heap.get? b=some o∧∀ v,o.data ≠ .cell v:=fun b hb=>by
   simp only [List.mem_cons,List.not_mem_nil,or_false] at hb
   rcases hb with q | q <;> subst q
   ·exact ⟨_,ha,fun v q=>by cases q⟩
   ·exact ⟨_,hk,fun v q=>by cases q⟩
  have Ip:=I.pinned fp ob
  refine wpAny_bind (wpAny_mono (hb _ s (fun k s'=>∃ ks' ps' H2 e',k=k∧Inv X pins σ H2 s'∧Same H H2∧(∀ b ∈ [a,kS],FpOk X pins H2 b)∧s'.heap.get? a=some (seqObj "list" #[] e1)∧s'.heap.get? kS=some (seqObj "list" (List.toArray ks') e') ∧
    ks'.length=ks.length + 1∧ps'=ps ++ [(kf x,x)]∧KeysH H2 ks' ps')
   (wpAny_mono (hK (pinsAt [a,kS] s.heap) s H1 x t (sub x (List.mem_cons_self ..)) Ip.i1.i1 sm) (fun v s2 hq=>?_) fun _ _ z=>z)) (fun q s' hq=>?_) fun _ _ z=>z)
  ·obtain ⟨p,H2,ev,sm2,hp,I2⟩:=hq
   subst ev
   have I3':Inv X (pins ++ pinsAt [a,kS] s.heap) σ H2 s2:=(I2.o1 Ip.i1.ok.hd Ip.i1.ok.frames).o1 Ip.ok.hd Ip.ok.frames
   have pin:∀ b o,b ∈ [a,kS]→s.heap.get? b=some o→s2.heap.get? b=some o∧H2 b=none:=fun b o hb e=>by
    have z:=I3'.pin (b,o) (List.mem_append_right _ (List.mem_append_right _ (mem_pinsAt hb e)))
    exact ⟨z.1,z.2.1⟩
   have fp2:∀ b ∈ [a,kS],FpOk X pins H2 b:=fun b hb=>by
    obtain ⟨o,e,_⟩:=ob b hb
    exact ⟨(pin b o hb e).2,(fp b hb).2⟩
   have I3:Inv X pins σ H2 s2:=I3'.unpinned
   refine ⟨ks,e,(pin kS _ (by simp) hk).1,by omega,fun h' c sb hk'=>⟨ks ++ [.ref p],_,H2,c,rfl,?_,sm.trans sm2,fp2,(sb.2 a (Ne.symm hne)).trans (pin a _ (by simp) ha).1,hk',by simp,rfl,(kh.keep sm2).snoc hp⟩⟩
   exact I3.turnedL (t':=s2.toks) (ch:=[a,kS]) (fun b o hb e=>(sb.2 b (fun q=>hb (by simp [q]))).trans e) fp2
  ·obtain ⟨rfl,k,ks',ps',H2,e',_,I2,sm2,fp2,ha2,hk2,l2,ep,kh2⟩:=hq
   subst ep
   show wpAny (model X.prog X.w) X.i2.A (forIn r' PUnit.unit body) _ E s'
   refine wpAny_mono (loopS hK hne hb nr r' ks' _ s' H2 e' rv' (fun y hy=>sub y (List.mem_cons_of_mem _ hy)) I2 sm2 fp2 ha2 hk2 kh2 (by rw [List.length_cons] at hl; omega)) (fun _ s3 hq=>?_) fun _ _ z=>z
   obtain ⟨ks3,H3,e3,b1,b2,b3,b4,b5,b6,b7⟩:=hq
   refine ⟨ks3,H3,e3,b1,b2,b3,b4,b5,by rw [List.length_cons]; omega,?_⟩
   rw [List.map_cons]
   rw [List.append_assoc] at b7
   exact b7
end
end L2
namespace L2
open PySem PySem.Spec PySem.W PyProof.Rows
section
variable {X:Cx} {pins:List (Addr × Obj)} {σ:St} {H:Hp} {s:Shared} {h':Heap}
theorem Inv.adopt {t':Nat} {ch:List Addr} {a:Addr} {o:HO} (I:Inv X pins σ H s) (k:∀ b u,b ∉ ch→s.heap.get? b=some u→h'.get? b=some u) (hch:∀ b ∈ ch,FpOk X pins H b) (ha:a ∈ ch) (new:ObjOk X.prog X.w (upd H a o) h' a o):Inv X pins σ (upd H a o) { s with heap:=h',toks:=t' }:=by
 have hn:H a=none:=(hch a ha).1
 have nch:∀ b u,H b=some u→b ∉ ch:=fun b u e z=>by rw [(hch b z).1] at e; cases e
 refine I.step (g':=s.gens) (d':=s.drawn) (ch:=ch) (fun b hb=>⟨(hch b hb).2.2.2.1,(hch b hb).2.1,(hch b hb).2.2.2.2.1,(hch b hb).2.2.2.2.2⟩) (fun b o _ _ hc e _=>k b o hc e) (fun b o _ _ hc e _=>⟨o.slots,k b o hc e⟩)
  (fun b u hc e n=>by rw [upd_ne (fun z=>hc (by rw [z]; exact ha))]; exact n) (fun b o hc e=>⟨o,k b o hc e⟩) (fun b xs e=>by rw [upd_ne (ne_of_none e hn)]; exact e) (fun b u xs e=>by rw [upd_ne (ne_of_none e hn)]; exact e)
  (fun b ps e=>⟨#[],by rw [upd_ne (ne_of_none e hn),e]; simp⟩) (fun m hm=>?_) (fun b u e=>?_) I.bare
 ·obtain ⟨ob,es,ep,ho,r⟩:=hm
  exact ⟨ob,es,ep,k _ ob (fun z=>(hch _ z).2.1 rfl) ho,r⟩
 ·by_cases hb:b=a
  ·subst hb
   rw [upd_same] at e
   cases e
   exact new
  ·rw [upd_ne hb] at e
   refine (I.hok b u e).stay (fun c v hc q=>k c v ?_ q) (fun c q=>by rw [upd_ne (ne_of_none q hn)]; exact q) fun c xs q=>by rw [upd_ne (ne_of_none q hn)]; exact q
   rcases hc with z | z
   ·rw [z]
    exact nch b u e
   ·exact nch c _ z
end
theorem vals_str {P:List Str}:∀ {us:List Value},Vals (P.map V.str) us→∀ (p:List Nat),Vals ((p.map fun i=>P.getD i "").map V.str) (p.map fun i=>us.getD i Value.none) ∨ ∃ i ∈ p,P.length ≤ i:=by
 intro us r p
 induction p with
 | nil=>exact .inl .nil
 | cons i p ih =>
  rcases ih with ih | ⟨j,hj,l⟩
  ·by_cases hi:i < P.length
   ·refine .inl (.cons ?_ ih)
    obtain ⟨u,hu,ru⟩:=r.get (i:=i) (x:=V.str P[i]) (by simp [hi])
    show RelV (V.str (P.getD i "")) (us.getD i Value.none)
    rw [show us.getD i Value.none=u by simp [List.getD,hu],show P.getD i ""=P[i] by simp [List.getD,hi]]
    exact ru
   ·exact .inr ⟨i,List.mem_cons_self ..,by omega⟩
  ·exact .inr ⟨j,List.mem_cons_of_mem _ hj,l⟩
theorem map_range {names:List Str}:(List.range names.length).map (fun i=>names.getD i "")=names:=by
 apply List.ext_getElem?
 intro i
 by_cases hi:i < names.length
 ·simp [hi,List.getD]
 ·simp [hi]
section
variable {X:Cx} {pins:List (Addr × Obj)} {σ:St} {E:Value→Shared→Prop}
theorem call_sortK {f:Addr} {names:List Str} {kf:Str→Int} {l:Addr} {H:Hp} {s:Shared} {Q:VK} (I:Inv X pins σ H s) (hS:SqL X.K H l (names.map V.str)) (h64:names.length < 64) (hK:KeyF X (.ref f) pins σ H names kf)
  (q:∀ (D:Addr) (out:List Str) (H2:Hp),H2 D=none→Same H H2→out.Perm names→out.Pairwise (fun x y=>DV.lexLt (kf y,y) (kf x,x)=false)→Q (.ref D) (upd H2 D (.lst (out.map V.str)))) :
  wpAny (model X.prog X.w) X.A (call (.builtin "sorted") [.ref l] [(Str.ofString "key",.ref f)]) (EP X pins σ Q) E s:=by
 obtain ⟨vs,rv,pl,hz⟩:=I.list hS
 have hlen:names.length=vs.length:=by rw [← rv.length,List.length_map]
 have hl:=pl.isList
 refine call_function_entry_kw kind_sorted plain_sorted entry_sorted (ksk_s1 _ _) ?_
 unfold Builtin.«sorted»
 refine wpAny_bind (m:=checkCount "sorted" 1 1 _) (wpAny_pure ?_)
 refine wpAny_bind (collect_list hl ?_ (by rw [sizeLine_eq]; omega))
 refine wpAny_bind (wpAny_newList ?_ (by rw [sizeLine_eq]; omega))
 have hsz:((s.heap.push (seqObj "list" #[] 0)).update s.heap.objs.size (Obj.mapSeq (· ++ vs.toArray))).objs.size=s.heap.objs.size + 1:=by
  rw [Heap.size_update,size_push']
 have hoL:(((s.heap.push (seqObj "list" #[] 0)).update s.heap.objs.size (Obj.mapSeq (· ++ vs.toArray))).push (seqObj "list" vs.toArray 0)).get? (s.heap.objs.size + 1)=some (seqObj "list" vs.toArray 0):=by
  rw [← hsz]; exact Heap.get?_push_size _ rfl
 have keep:∀ b o,s.heap.get? b=some o→(((s.heap.push (seqObj "list" #[] 0)).update s.heap.objs.size (Obj.mapSeq (· ++ vs.toArray))).push (seqObj "list" vs.toArray 0)).get? b=some o:=fun b o q=>by
  have hlt:b < s.heap.objs.size:=Heap.lt_size q
  rw [Heap.get?_push_ne _ _ _ (by rw [hsz]; exact Nat.ne_of_lt (Nat.lt_succ_of_lt hlt)),Heap.get?_update_ne _ _ _ _ (Nat.ne_of_lt hlt),Heap.get?_push_ne _ _ _ (Nat.ne_of_lt hlt)]
  exact q
 have hsz2:(((s.heap.push (seqObj "list" #[] 0)).update s.heap.objs.size (Obj.mapSeq (· ++ vs.toArray))).push (seqObj "list" vs.toArray 0)).objs.size=s.heap.objs.size + 2:=by rw [size_push',hsz]
 show wpAny _ _ _ _ _ { s with heap:=((s.heap.push (seqObj "list" #[] 0)).update s.heap.objs.size (Obj.mapSeq (· ++ vs.toArray))).push (seqObj "list" vs.toArray 0) }
 rw [hsz]
 generalize ((s.heap.push (seqObj "list" #[] 0)).update s.heap.objs.size (Obj.mapSeq (· ++ vs.toArray))).push (seqObj "list" vs.toArray 0)=g1 at *
 refine wpAny_bind (wpAny_holding (wpAny_call_entry_kw slot_list_sort ⟨_,hoL,rfl⟩ entry_list_sort ?body (ksk_l1 _ _)))
 case body =>
  show wpAny (model X.prog X.w) X.A.in1.in1 (Builtin.«list.sort» ⟨[.ref (s.heap.objs.size + 1)],[(Str.ofString "key",.ref f)]⟩) _ _ _
  rw [ksk_t1]
  have s1:=Heap.SameBut.update g1 (s.heap.objs.size + 1) (Obj.mapSeq fun _=>(#[]:Array Value))
  obtain ⟨e1,ho1⟩:∃ e1,(g1.update (s.heap.objs.size + 1) (Obj.mapSeq fun _=>(#[]:Array Value))).get? (s.heap.objs.size + 1)=some (seqObj "list" #[] e1):=⟨_,get?_update_seq hoL fun _=>#[]⟩
  have hkS:((g1.update (s.heap.objs.size + 1) (Obj.mapSeq fun _=>(#[]:Array Value))).push (seqObj "tuple" vs.toArray 0)).objs.size=s.heap.objs.size + 3:=by rw [size_push',Heap.size_update,hsz2]
  unfold ksk_tree
  refine wpAny_bind (listItems_at hoL rfl ?_)
  refine wpAny_bind (listUpdate_at hoL rfl ?_ (by rw [List.size_toArray,sizeLine_eq]; omega) (Nat.zero_le _))
  refine wpAny_bind (seqEpoch_at ho1 rfl ?_)
  refine wpAny_bind (wpAny_newTuple ?_ (by show vs.length ≤ _; rw [sizeLine_eq]; omega))
  refine wpAny_bind (wpAny_newList ?_ (Nat.zero_le _))
  refine wpAny_holding ?_
  have keep4:∀ b o,s.heap.get? b=some o→(((g1.update (s.heap.objs.size + 1) (Obj.mapSeq fun _=>(#[]:Array Value))).push (seqObj "tuple" vs.toArray 0)).push (seqObj "list" #[] 0)).get? b=some o:=fun b o e =>
   Heap.get?_push_of_some _ (Heap.get?_push_of_some _ ((s1.2 b (Nat.ne_of_lt (Nat.lt_succ_of_lt (Heap.lt_size e)))).trans (keep b o e)))
  have ha4:=Heap.get?_push_of_some (seqObj "list" #[] 0) (Heap.get?_push_of_some (seqObj "tuple" vs.toArray 0) ho1)
  have hk4:(((g1.update (s.heap.objs.size + 1) (Obj.mapSeq fun _=>(#[]:Array Value))).push (seqObj "tuple" vs.toArray 0)).push (seqObj "list" #[] 0)).get? (s.heap.objs.size + 3)=some (seqObj "list" #[] 0):=by
   rw [← hkS]; exact Heap.get?_push_size _ rfl
  show wpAny _ _ (ksk_rest (s.heap.objs.size + 1) (.ref f) false vs.toArray e1 (.ref ((g1.update (s.heap.objs.size + 1) (Obj.mapSeq fun _=>(#[]:Array Value))).push (seqObj "tuple" vs.toArray 0)).objs.size)) _ _ { s with heap:=((g1.update (s.heap.objs.size + 1) (Obj.mapSeq fun _=>(#[]:Array Value))).push (seqObj "tuple" vs.toArray 0)).push (seqObj "list" #[] 0) }
  rw [hkS]
  generalize ((g1.update (s.heap.objs.size + 1) (Obj.mapSeq fun _=>(#[]:Array Value))).push (seqObj "tuple" vs.toArray 0)).push (seqObj "list" #[] 0)=g4 at *
  have I4:Inv X pins σ H { s with heap:=g4 }:=I.kept (t':=s.toks) keep4
  have fp:∀ b ∈ [s.heap.objs.size + 1,s.heap.objs.size + 3],FpOk X pins H b:=fun b hb=>by
   have ge:s.heap.objs.size ≤ b:=by
    simp only [List.mem_cons,List.not_mem_nil,or_false] at hb
    rcases hb with q | q <;> rw [q] <;> omega
   exact I.fpOk ge (I.hok.fresh ge)
  have hne:s.heap.objs.size + 3 ≠ s.heap.objs.size + 1:=by omega
  generalize s.heap.objs.size + 1=D at *
  generalize s.heap.objs.size + 3=kS at *
  unfold ksk_rest
  refine wpAny_bind (wpAny_rule ?_)
  first
   | rw [List.forIn_toArray]
   | (rw [← Array.forIn_toList]; simp only [List.toList_toArray])
   | rw [← Array.forIn_toList]
  refine wpAny_bind (wpAny_mono (loopS (a:=D) (kS:=kS) (e1:=e1) hK hne (fun x s' R hx=>?_) names vs [] [] _ H 0 rv (fun _ h=>h) I4 (Same.refl H) fp ha4 hk4 ⟨rfl,fun i k p e=>by simp at e⟩ (by simp; omega)) (fun _ s' hd=>?_) fun _ _ x=>x)
  ·refine wpAny_bind (wpAny_attempt (wpAny_mono hx (fun k s'' hk=>?_) fun _ _ hF=>hF.elim))
   obtain ⟨ks,e,hk1,hkl,c⟩:=hk
   have s1:=Heap.SameBut.update s''.heap kS (Obj.mapSeq (·.push k))
   have ea:(List.toArray ks).push k=List.toArray (ks ++ [k]):=by simp
   obtain ⟨c2,hc2⟩:∃ c2,(s''.heap.update kS (Obj.mapSeq (·.push k))).get? kS=some (seqObj "list" (List.toArray (ks ++ [k])) c2):=⟨_,by rw [← ea]; exact get?_update_seq hk1 (·.push k)⟩
   try dsimp only
   refine wpAny_bind (listUpdate_at hk1 rfl ?_ (by rw [List.size_toArray,sizeLine_eq]; omega) (Nat.le_trans (Nat.le_of_eq (Array.size_push ..)) (by rw [List.size_toArray,sizeLine_eq]; omega)))
   exact wpAny_pure ⟨rfl,k,c _ c2 s1 hc2⟩
  ·obtain ⟨ks,H2,e',I2,sm,fp2,ha2,hk2,hl2,kh⟩:=hd
   try dsimp only
   refine wpAny_bind (listItems_at hk2 rfl ?_)
   rw [List.nil_append] at kh
   refine DV.endS (by simpa using hl2) (by omega) ha2 hk2 hne (kh.at I2) fun p hp hs h5 c5 hb5 hc5=>⟨_,rfl,wpAny_pure ⟨_,rfl,?_⟩⟩
   have hpl:p.toList.Perm (List.range vs.length):=by simpa using hp.toList
   have hin:∀ i ∈ p.toList,i < vs.length:=fun i hi=>List.mem_range.mp (hpl.mem_iff.mp hi)
   have rv5:=(vals_str rv p.toList).resolve_right fun ⟨i,hi,l⟩=>by have:=hin i hi; omega
   refine ⟨.ref D,_,I2.adopt (t':=s'.toks) (ch:=[D,kS]) (a:=D) (o:=.lst ((p.toList.map fun i=>names.getD i "").map V.str)) (fun b u hb e=>(hb5 b (fun z=>hb (by simp [z])) (fun z=>hb (by simp [z]))).trans e) fp2 (by simp) ⟨?_,_,c5,rv5,hc5⟩,rfl,q D _ H2 (fp2 D (by simp)).1 sm ?_ ?_⟩
   ·rw [List.length_map,List.length_map,hpl.length_eq,List.length_range,sizeLine_eq]; omega
   ·have:=hpl.map fun i=>names.getD i ""
    rw [← hlen,map_range] at this
    exact this
   ·rw [List.pairwise_map,List.pairwise_iff_getElem]
    intro i j hi hj hij
    have hj2:j < p.size:=by simpa using hj
    have hi2:i < p.size:=by simpa using hi
    have hps:p.size=vs.length:=by rw [hp.size_eq]; simp
    have:=hs i j (by omega) (by omega)
    have ei:p.getD i 0=p.toList[i]:=by simp [Array.getD,hi2]
    have ej:p.getD j 0=p.toList[j]:=by simp [Array.getD,hj2]
    rw [ei,ej] at this
    have li:=hin _ (List.getElem_mem hi)
    have lj:=hin _ (List.getElem_mem hj)
    have f:∀ k,k < vs.length→(names.map fun x=>(kf x,x)).getD k (0,"")=(kf (names.getD k ""),names.getD k ""):=fun k hk=>by
     have:k < names.length:=by omega
     simp [List.getD,this]
    rw [f _ li,f _ lj] at this
    exact this
end
end L2
namespace L2
open PySem PySem.Spec PySem.W PyProof.Rows
section
variable (p1 p2 p3 p4 p5 p6 p7:Pos) (k0:Nat)
abbrev lamArgs:Arguments:={ posonlyargs:=[],args:=[{ arg:="name",annotation:=none,pos:=p1 }],vararg:=none,kwonlyargs:=[],kw_defaults:=[],kwarg:=none,defaults:=[] }
abbrev lamBody:Expr:=.Tuple [.UnaryOp .USub (.Subscript (.Name "rests" p2) (.Name "name" p3) p4) p5,.Name "name" p6] k0 p7
end
theorem lam_call {X:Cx} {pins:List (Addr × Obj)} {σ:St} {H:Hp} {s:Shared} {f c c' d:Addr} {qual:Str} {scope:Scope} {pm ctv:Value} {p1 p2 p3 p4 p5 p6 p7:Pos} {k0:Nat} {x:Str} {t:Tok} {kvs:List (Key × V)} {n:Int}
  (I:Inv X pins σ H s) (hroom:X.A.depth < recursionLimit) (hf:s.heap.get? f=some (kla_obj "<lambda>" qual (lamArgs p1) (lamBody p2 p3 p4 p5 p6 p7 k0) scope [(("rests":Str),c)] pm c' ctv))
  (hsc:scope.names=[(("name":Str),NameKind.local),(("rests":Str),NameKind.free)]) (hco:scope.isCoroutine=false) (hgen:scope.isGenerator=false) (hkd:scope.kind=.function)
  (hcd:s.heap.CodeRec (.ref c') qual) (hcell:s.heap.IsCell c (some (.ref d))) (hd:Rd H d (.dK kvs)) (hv:valV kvs (.inr x)=some (.int n)) :
  wpAny (model X.prog X.w) X.A (call (.ref f) [.str x t]) (fun v s'=>∃ p H2,v=.ref p∧H p=none∧H2=upd H p (.tup [.int (-n),.str x])∧Inv X pins σ H2 s') (fun _ _=>False) s:=by
 refine wpAny_call ?_
 refine kla_callFunE hroom hf rfl hco hgen rfl hcd ?_
 rw [show bindArgs (kla_fn "<lambda>" qual (lamArgs p1) (lamBody p2 p3 p4 p5 p6 p7 k0) scope [(("rests":Str),c)] pm (.ref c') ctv) ⟨[.str x t],[]⟩=pure [(("name":Str),Value.str x t)] from rfl]
 refine wpAny_pure (wpAny_newFunctionEnv (by rw [hsc]; decide) (by intro y hy; rw [hsc]; rw [List.mem_singleton.mp hy]; show List.lookup (("name":Str)) _=_; decide) (fun h₁ hns hsb=>⟨I.nolimit.fresh _ hsb,?_⟩) hkd)
 show codeAny _ _ (.expr (lamBody p2 p3 p4 p5 p6 p7 k0) (envX qual scope s.heap.objs.size f (.ref c') [(("rests":Str),c)])) _ _
 have hk₁:∀ b o,s.heap.get? b=some o→h₁.get? b=some o:=fun b o e=>hsb.extBut b o (Nat.ne_of_lt (Heap.lt_size e)) (Heap.get?_push_of_some _ e)
 have I1:Inv X pins σ H { s with heap:=h₁,toks:=s.toks + [(("name":Str),Value.str x t)].length }:=I.kept hk₁
 refine kla_codeExpr ?_
 have kn:(envX qual scope s.heap.objs.size f (.ref c') [(("rests":Str),c)]).kindOf "name"=some .local:=by
  show scope.names.lookup (("name":Str))=some NameKind.local
  rw [hsc]; rfl
 have kr:(envX qual scope s.heap.objs.size f (.ref c') [(("rests":Str),c)]).kindOf "rests"=some .free:=by
  show scope.names.lookup (("rests":Str))=some NameKind.free
  rw [hsc]; rfl
 have hnm:∀ (s':Shared) (Q:Value→Shared→Prop) (E:Value→Shared→Prop) (A:Around) (p:Pos),s'.heap.Ns s.heap.objs.size (fun y=>([("name",Value.str x t)]:List (Str × Value)).reverse.lookup y)→Q (.str x t) s' →
   wpAny (model X.prog X.w) A (eval (.Name "name" p) (envX qual scope s.heap.objs.size f (.ref c') [(("rests":Str),c)])) Q E s':=fun s' Q E A p hn hq =>
  wpAny_Name (wpAny_loadName_local hkd kn hn rfl hq) (by decide)
 refine wpAny_Tuple_spliced ?_
 show wpAny _ _ (spliced [(false,eval (.UnaryOp .USub (.Subscript (.Name "rests" p2) (.Name "name" p3) p4) p5) _),(false,eval (.Name "name" p6) _)]) _ _ _
 refine Calls.spliced_cons (UnaryOp_ (subD_of PySem.F.slot_dict_getitem.lookup (fun _ _=>rfl) ?_))
 have cell1:h₁.IsCell c (some (.ref d)):=by
  obtain ⟨o,ho,hd'⟩:=hcell
  exact ⟨o,hk₁ c o ho,hd'⟩
 refine wpAny_Name (wpAny_loadName_free hkd kr (c:=c) rfl cell1 ?_ (by decide)) (by decide)
 refine hnm _ _ _ _ _ hns ?_
 obtain ⟨z,hdm,vs,rel,dd⟩:=dk_rd I1.hok hd
 obtain ⟨w',hw,rw'⟩:=RelO.some_of (v:=.int n) (o:=valueAt vs (.inr x)) (by rw [← hv]; exact rel.val _)
 obtain ⟨t3,rfl⟩:=rw'
 refine ⟨dd.typeIs,wpAny_getItem_of (k:=.inr x) (kV_is (k:=.inr x) ⟨t,rfl⟩) dd.mapOf hw ?_⟩
 refine neg_int ?_
 refine Calls.spliced_cons (hnm _ _ _ _ _ hns (Calls.spliced_nil ⟨(show 2 ≤ sizeLine by decide),?_⟩))
 refine ⟨_,_,rfl,I1.hok.fresh (Nat.le_refl _),rfl,?_⟩
 refine (I1.laid (a:=h₁.objs.size) (o:=.tup [.int (-n),.str x]) (fun b u e=>Heap.get?_push_of_some _ e) (Nat.le_refl _) ?_)
 exact ⟨(show 2 ≤ sizeLine by decide),_,.cons ⟨_,rfl⟩ (.cons ⟨t,rfl⟩ .nil),⟨_,Heap.get?_push_size _ rfl,rfl,_,rfl⟩⟩
end L2
namespace L2
open PySem PySem.Spec PySem.W PyProof.Rows
abbrev CodeO (c:Addr) (q:Str):HO:=.ext fun h=>h.CodeRec (.ref c) q
def TabOk (H:Hp) (pos:Pos) (q:Str) (ps:Array Value):Prop:=TriplesOk ps.toList∧(codeAmong pos ps.toList=none ∨ ∃ c,codeAmong pos ps.toList=some (.ref c)∧H c=some (CodeO c q))
section
variable {X:Cx} {pins:List (Addr × Obj)} {σ:St} {H:Hp} {s:Shared} {h':Heap}
theorem Inv.grow {t':Nat} {P:Addr} {ps more:Array Value} (I:Inv X pins σ H s) (hP:H P=some (.tbl ps)) (k:∀ b u,b ≠ P→s.heap.get? b=some u→h'.get? b=some u) (hn:h'.get? P=some (tabObj (ps ++ more))) :
  Inv X pins σ (upd H P (.tbl (ps ++ more))) { s with heap:=h',toks:=t' }:=by
 have nP:∀ b,H b=none→b ≠ P:=fun b e z=>by rw [z,hP] at e; cases e
 refine I.step (g':=s.gens) (d':=s.drawn) (ch:=[]) (fun _ z=>nomatch z) (fun b o _ _ _ e n=>k b o (nP b n) e) (fun b o _ _ _ e n=>⟨o.slots,k b o (nP b n) e⟩)
  (fun b u _ e n=>by rw [upd_ne (nP b n)]; exact n) (fun b o _ e=>?_) (fun b xs e=>by rw [upd_ne (fun z=>by rw [z,hP] at e; cases e)]; exact e) (fun b u xs e=>by rw [upd_ne (fun z=>by rw [z,hP] at e; cases e)]; exact e)
  (fun b qs e=>?_) (fun m hm=>?_) (fun b u e=>?_) I.bare
 ·by_cases hb:b=P
  ·rw [hb]; exact ⟨_,hn⟩
  ·exact ⟨o,k b o hb e⟩
 ·by_cases hb:b=P
  ·rw [hb,hP] at e
   cases e
   exact ⟨more,by rw [hb,upd_same]⟩
  ·exact ⟨#[],by rw [upd_ne hb,e]; simp⟩
 ·obtain ⟨ob,es,ep,ho,r⟩:=hm
  exact ⟨ob,es,ep,k _ ob (nP _ I.free) ho,r⟩
 ·by_cases hb:b=P
  ·subst hb
   rw [upd_same] at e
   cases e
   exact hn
  ·rw [upd_ne hb] at e
   refine (I.hok b u e).stay (fun c v hc q=>k c v (fun z=>?_) q) (fun c q=>by rw [upd_ne (fun z=>by rw [z,hP] at q; cases q)]; exact q) fun c xs q=>by rw [upd_ne (fun z=>by rw [z,hP] at q; cases q)]; exact q
   rcases hc with y | y
   ·exact hb (y.symm.trans z)
   ·rw [z,hP] at y; cases y
theorem lam_make {A:Around} {E:Value→Shared→Prop} {c0 P:Addr} {ps:Array Value} {params:Arguments} {body:Expr} {scope:Scope} {pos:Pos} {qual:Str} {clos:List (Str × Addr)} {Q:Value→Shared→Prop}
  (I:Inv X pins σ H s) (hcl:closureFor scope X.env=pure clos) (hcode:X.env.code=.ref c0) (hch:codeHdIn X.K c0 P=true) (hP:H P=some (.tbl ps)) (ht:TabOk H pos qual ps) (hb:X.base.BuiltinsAt X.mg P)
  (h:∀ f c' ctv pm s' H' ps',Inv X pins σ H' s'→s'.heap.get? f=some (kla_obj "<lambda>" qual params body scope clos pm c' ctv)→FpOk X pins H' f→H' c'=some (CodeO c' qual)→H' P=some (.tbl ps')→TabOk H' pos qual ps' →
   (∀ b o,b ≠ P→H b=some o→H' b=some o)→(∀ b o,s.heap.get? b=some o→b ≠ P→s'.heap.get? b=some o)→Q (.ref f) s') :
  wpAny (model X.prog X.w) A (makeFunction "<lambda>" qual params (.expr body) scope X.env [] [] [] pos pos.line) Q E s:=by
 have hg:s.heap.Ns mainGlobals X.mg:=I.ok.mod.glob.keeps I.bk
 have C:CodeHd s.heap c0 P:=codeHd_of_K I.kIn hch
 have hPo:s.heap.get? P=some (tabObj ps):=I.hok P _ hP
 have nbP:∀ b o,X.base.get? b=some o→b ≠ P:=fun b o e z=>by have:=(I.bs b o e).2; rw [z,hP] at this; cases this
 have hgP:mainGlobals ≠ P:=by
  obtain ⟨o,es,ep,e,_⟩:=I.ok.mod.glob
  exact nbP _ _ e
 have hb':s.heap.BuiltinsAt X.mg P:=by
  obtain ⟨bm,o,b1,b2,b3,b4,b5,b6⟩:=hb
  exact ⟨bm,o,b1,b2,b3,b4,I.bk _ _ b5,b6⟩
 rcases ht.2 with hnf | ⟨c',hf,hc'⟩
 ·refine kla_makeFunction hcl I.ok.glob hg hcode C hPo ht.1 hnf hgP hb' fun c' ctv h1 tk hx hge hlt hrec htb=>?_
  have hc0:H c'=none:=I.hok.fresh hge
  have ncP:c' ≠ P:=fun z=>by rw [z,hP] at hc0; cases hc0
  have I1:Inv X pins σ (upd H P (.tbl (ps ++ #[rawInt pos.line,rawInt pos.col,.ref c']))) { s with heap:=h1.push (kla_obj "<lambda>" qual params body scope clos ((X.mg "__name__").getD .none) c' ctv),toks:=tk } :=
   I.grow hP (fun b u hb e=>Heap.get?_push_of_some _ (hx b u hb e)) (Heap.get?_push_of_some _ htb)
  have fp1:FpOk X pins (upd H P (.tbl (ps ++ #[rawInt pos.line,rawInt pos.col,.ref c']))) c':=I.fpOk hge (by rw [upd_ne ncP]; exact hc0)
  have hrec2:(h1.push (kla_obj "<lambda>" qual params body scope clos ((X.mg "__name__").getD .none) c' ctv)).CodeRec (.ref c') qual:=by
   obtain ⟨c2,oc,vs,tq,e1,e2,e3⟩:=hrec
   exact ⟨c2,oc,vs,tq,e1,Heap.get?_push_of_some _ e2,e3⟩
  have I2:=I1.adopt (t':=tk) (h':=h1.push (kla_obj "<lambda>" qual params body scope clos ((X.mg "__name__").getD .none) c' ctv)) (ch:=[c']) (a:=c') (o:=CodeO c' qual) (fun b u _ e=>e) (fun b hb=>by rw [List.mem_singleton.mp hb]; exact fp1) (by simp) ⟨hrec2,?_,?_⟩
  ·have szle:s.heap.objs.size ≤ h1.objs.size:=Nat.le_trans hge (Nat.le_of_lt hlt)
   have hfn:H h1.objs.size=none:=I.hok.fresh szle
   refine h _ c' ctv _ _ _ (ps ++ #[rawInt pos.line,rawInt pos.col,.ref c']) I2 (Heap.get?_push_size _ rfl) (I.fpOk szle ?_) upd_same ?_ ⟨?_,.inr ⟨c',?_,upd_same⟩⟩ (fun b o hb e=>?_) fun b o e hb=>Heap.get?_push_of_some _ (hx b o hb e)
   ·rw [upd_ne (Nat.ne_of_gt hlt),upd_ne (fun z=>by rw [z,hP] at hfn; cases hfn)]; exact hfn
   ·rw [upd_ne (Ne.symm ncP),upd_same]
   ·rw [Array.toList_append]; exact TriplesOk_snoc _ _ _ _ ht.1
   ·rw [Array.toList_append]; exact codeAmong_snoc _ ht.1 hnf
   ·rw [upd_ne (ne_of_none e hc0),upd_ne hb]; exact e
  ·obtain ⟨c2,oc,vs,tq,e1,e2,e3⟩:=hrec2
   cases e1
   exact ⟨oc,e2⟩
  ·intro h1 h2 x k
   obtain ⟨c2,oc,vs,tq,e1,e2,e3⟩:=x
   cases e1
   exact ⟨_,oc,vs,tq,rfl,k _ e2,e3⟩
 ·refine kla_makeFunctionHit hcl I.ok.glob hg hcode C hPo ht.1 hf hb' fun ctv h1 tk hk hsz=>?_
  have hfn:H h1.objs.size=none:=I.hok.fresh hsz
  exact h _ c' ctv _ _ H ps (I.kept fun b o e=>Heap.get?_push_of_some _ (hk b o e)) (Heap.get?_push_size _ rfl) (I.fpOk hsz hfn) hc' hP ht (fun b o _ e=>e) fun b o e _=>Heap.get?_push_of_some _ (hk b o e)
end
end L2
namespace L2
open PySem PySem.Spec PySem.W PyProof.Rows
def tSortL (K:PySem.W.Frag) (P:Addr) (i:Nat) (lpos:Pos) (qual:Str) (tl:TE):TE:=fun σ H Q=>tl σ H fun x H1=>∃ (l:Addr) (names:List Str) (d:Addr) (kvs:List (Key × V)) (kf:Str→Int) (ps:Array Value),
 x=.ref l∧SqL K H1 l (names.map V.str)∧names.length < 64∧H1 P=some (.tbl ps)∧TabOk H1 lpos qual ps∧σ[i]?=some (some (.ref d))∧Rd H1 d (.dK kvs)∧(∀ x ∈ names,valV kvs (.inr x)=some (.int (kf x))) ∧
 ∀ (D:Addr) (out:List Str) (H2:Hp) (ps':Array Value),H2 D=none→(∀ b o,b ≠ P→H1 b=some o→H2 b=some o)→H2 P=some (.tbl ps')→TabOk H2 lpos qual ps'→out.Perm names →
  out.Pairwise (fun x y=>DV.lexLt (-(kf y),y) (-(kf x),x)=false)→Q (.ref D) (upd H2 D (.lst (out.map V.str)))
theorem Rd.keep {H H':Hp} {a:Addr} {u:HO} (r:Rd H a u) (k:∀ o,H a=some o→H' a=some o):Rd H' a u:=by
 rcases r with r | ⟨o,r⟩
 ·exact .inl (k _ r)
 ·exact .inr ⟨o,k _ r⟩
theorem lam_closure {env:Env} {scope:Scope} {c:Addr} (hsc:scope.names=[(("name":Str),NameKind.local),(("rests":Str),NameKind.free)]) (hc:env.cells.lookup ("rests":Str)=some c):closureFor scope env=pure [(("rests":Str),c)]:=by
 unfold closureFor
 rw [hsc]
 simp [cellOf,hc]
section
variable {X:Cx} {l:Expr} {tl:TE} {p pos kpos lpos p1 p2 p3 p4 p5 p6 p7:Pos} {k0:Nat} {scope:Scope} {c0 P:Addr} {i:Nat}
theorem pe_sortL (hroom:X.i2.A.depth < recursionLimit) (hN:X.N[i]?=some ("rests":Str)) (hvis:Vis X.env.scope ("rests":Str)) (hkr:X.env.kindOf ("rests":Str)=some .cell) (hcode:X.env.code=.ref c0) (hch:codeHdIn X.K c0 P=true) (hb:X.base.BuiltinsAt X.mg P)
  (hsc:scope.names=[(("name":Str),NameKind.local),(("rests":Str),NameKind.free)]) (hco:scope.isCoroutine=false) (hgen:scope.isGenerator=false) (hkd:scope.kind=.function)
  (hg:Gl X "sorted") (hm:X.mg "sorted"=none) (hv:bootBuiltins "sorted"=some (.builtin "sorted")) (hl:PE X l tl)
  (he:backTo pos (starEach [l] X.env)=(false,eval l X.env) :: backTo pos (starEach [] X.env):=by rfl) (hpl:(backTo pos (starEach [l] X.env)).any (·.1)=false:=by rfl) :
  PE X (.Call (.Name "sorted" p) [l] [⟨some "key",.Lambda (lamArgs p1) (lamBody p2 p3 p4 p5 p6 p7 k0) scope lpos,kpos⟩] pos) (tSortL X.K P i lpos (X.env.qual ++ "<lambda>") tl):=by
 intro pins s σ H Q I h
 refine wpAny_Call_Name_kw (ld_blt I hg hm hv (callWith_bK ?_ he hpl) (by decide) (by decide))
 rw [he]
 refine Calls.spliced_cons (thn (hl pins s σ H _ I h) fun u s1 ⟨x,H1,I1,rx,q1⟩=>Calls.spliced_nil ?_)
 obtain ⟨la,names,d,kvs,kf,ps,ex,hS,h64,hP,hT,hσ,hd,hkf,q⟩:=q1
 subst ex
 obtain rfl:u=Value.ref la:=rx
 show wpAny _ _ (evalAll ((do let v ← eval (.Lambda (lamArgs p1) (lamBody p2 p3 p4 p5 p6 p7 k0) scope lpos) X.env; standAt pos; pure v) :: [])) _ _ s1
 refine wpAny_evalAll_cons (wpAny_bind (kla_eval rfl ?_))
 have cellOfI:∀ {Y:Cx} {pins':List (Addr × Obj)} {H':Hp} {s':Shared},Y.env=X.env→Y.N=X.N→Inv Y pins' σ H' s'→∃ c,X.env.cells.lookup ("rests":Str)=some c∧s'.heap.IsCell c (some (.ref d)):=fun e1 e2 I'=>by
  obtain ⟨m,_,hl'⟩:=I'.loc
  rw [e1,e2] at hl'
  obtain ⟨u,r,lk⟩:=hl' i _ _ hN hσ hvis
  obtain rfl:u=Value.ref d:=r
  rcases lk with ⟨z,_⟩ | ⟨_,c,hc,hcell⟩
  ·rw [hkr] at z; cases z
  ·exact ⟨c,hc,hcell⟩
 obtain ⟨c,hc,hcell⟩:=cellOfI rfl rfl I1
 refine lam_make I1 (lam_closure hsc hc) hcode hch hP hT hb fun f c' ctv pm s2 H2 ps' I2 hf fpf hc' hP' hT' hk hk2=>?_
 refine wpAny_bind (wpAny_standAt (wpAny_pure (wpAny_evalAll_nil ?_)))
 have nd:∀ {b:Addr} {o:HO},(∀ ps,o ≠ .tbl ps)→H1 b=some o→H2 b=some o:=fun {b o} ne e=>hk b o (fun z=>by rw [z,hP] at e; cases e; exact ne _ rfl) e
 have hS2:SqL X.K H2 la (names.map V.str):=by
  rcases hS with r | r
  ·refine .inl ?_
   rcases r with r | ⟨o,r⟩
   ·exact .inl (nd (fun ps z=>by cases z) r)
   ·exact .inr ⟨o,nd (fun ps z=>by cases z) r⟩
  ·exact .inr r
 have hd2:Rd H2 d (.dK kvs):=by
  rcases hd with r | ⟨o,r⟩
  ·exact .inl (nd (fun ps z=>by cases z) r)
  ·exact .inr ⟨o,nd (fun ps z=>by cases z) r⟩
 have Ip:=I2.pinned (fp:=[f]) (fun b hb=>by rw [List.mem_singleton.mp hb]; exact fpf) (fun b hb=>by rw [List.mem_singleton.mp hb]; exact ⟨_,hf,fun v q=>by cases q⟩)
 show wpAny _ _ (call (.builtin "sorted") [.ref la] [(Str.ofString "key",.ref f)]) _ _ s2
 refine wpAny_mono (call_sortK (X:=X) (pins:=pins ++ pinsAt [f] s2.heap) (Q:=Q) (kf:=fun x=>-(kf x)) (E:=X.xe) Ip hS2 h64 ?_ fun D out H3 hD sm hp hs=>?_) (fun v s3 hq=>?_) fun _ _ z=>z
 ·intro more s4 H4 x t hx I4 sm
  have pf:s4.heap.get? f=some (kla_obj "<lambda>" (X.env.qual ++ "<lambda>") (lamArgs p1) (lamBody p2 p3 p4 p5 p6 p7 k0) scope [(("rests":Str),c)] pm c' ctv) :=
   (I4.pin (f,_) (List.mem_append_right _ (List.mem_append_left _ (List.mem_append_right _ (mem_pinsAt (by simp) hf))))).1
  obtain ⟨c2,hc2,hcell2⟩:=cellOfI (Y:=X.i2) rfl rfl I4
  rw [hc] at hc2
  cases hc2
  have hrec:s4.heap.CodeRec (.ref c') (X.env.qual ++ "<lambda>"):=(I4.hok c' _ (sm _ _ hc')).1
  refine wpAny_mono (lam_call (X:=X.i2) I4 hroom pf hsc hco hgen hkd hrec hcell2 (hd2.keep fun o e=>sm _ _ e) (hkf x hx)) (fun v s5 hq=>?_) fun _ _ z=>z
  obtain ⟨pp,H5,ev,hn,eH,I5⟩:=hq
  subst eH
  exact ⟨pp,_,ev,fun b o e=>by rw [upd_ne (ne_of_none e hn)]; exact e,upd_same,I5⟩
 ·refine q D out H3 ps' hD (fun b o hb e=>sm _ _ (hk b o hb e)) (sm _ _ hP') ⟨hT'.1,hT'.2.imp id fun ⟨c,e1,e2⟩=>⟨c,e1,sm _ _ e2⟩⟩ hp hs
 ·obtain ⟨y,H3,I3,ry,qq⟩:=hq
  exact ⟨y,H3,I3.unpinned,ry,qq⟩
end
end L2
namespace L2
open PySem PySem.Spec PySem.W PyProof.Rows
def OnlyT (P:Addr) (H:Hp):Prop:=H P=some (.tbl #[])∧∀ b,b ≠ P→H b=none ∨ ∃ o xs,H b=some (.frz o (.lst xs))
theorem law_callT {Pg:Program} {w:World} {K:PySem.W.Frag} {mg mb:Str→Option Value} {CX:CXT} {k:Nat} {fa a P c0:Addr} {fd:FuncData} {x:Str} {sp:Sp} {s₁:Shared} {vs:List Value} {ns:List Int}
  (KX:K.In s₁.heap) (hns:s₁.heap.Ns mainGlobals mg) (hb:s₁.heap.Ns builtinsNs mb) (hbb:∀ x:Str,x ≠ "__name__"→mb x=bootBuiltins x) (hlim:s₁.heap.NoLimit) (hg:s₁.gens=#[])
  (hPt:s₁.heap.get? P=some (tabObj #[])) (hPK:K.lookup P=none) (hch:codeHdIn K c0 P=true) (hbm:s₁.heap.BuiltinsAt mg P)
  (ha:s₁.heap.get? a=some { cls:=.type "list",data:=.seq vs.toArray }) (hi:IntsAre vs ns) (hl:ns.length ≤ sizeLine) (hr:Room k callerA)
  (F:∀ base:Heap,K.In base→base.Ns mainGlobals mg→base.BuiltinsAt mg P→FnOk Pg w K mg base CX k fa fd [x] sp) (hbind:∀ (s:Shared) (u:Value),BindsTo s fd ⟨[u],[]⟩ [(x,u)])
  (hsp:∀ H:Hp,OnlyT P H→SqL K H a (ns.map V.int)→sp [.ref a] H (fun v _=>v=.bl true) fun _ _ _=>False)
  (hCX:∀ H e s',CX [] H s₁ (fun _ _ _=>False) e s'→False) :
  codeAny (model Pg w) callerA (.call (.ref fa) ⟨[.ref a],[]⟩) (fun r s'=>r=.ok (.ret (.bool true))∧OldK s₁.heap s'.heap∧s'.os=s₁.os∧AllBare s'.gens) s₁:=by
 have rv:=vals_ints hi
 have lenV:=hi.length
 have haP:a ≠ P:=fun z=>by rw [z,hPt] at ha; cases ha
 have core:∀ H:Hp,OnlyT P H→SqL K H a (ns.map V.int)→HOk Pg w H s₁.heap→(∀ b,H b ≠ none→b=a ∨ b=P)→(H a ≠ none→K.lookup a=none) →
   codeAny (model Pg w) callerA (.call (.ref fa) ⟨[.ref a],[]⟩) (fun r s'=>r=.ok (.ret (.bool true))∧OldK s₁.heap s'.heap∧s'.os=s₁.os∧AllBare s'.gens) s₁:=by
  intro H hO hS hok hA hK
  have base_of:∀ {b:Addr} {o:Obj},s₁.heap.get? b=some o→H b=none→(hidT s₁.heap H).get? b=some o:=fun e n=>hidT_get e n
  have noA:∀ {b:Addr} {o:Obj},s₁.heap.get? b=some o→(∀ es ep,o.data ≠ .seq es ep)→(∀ fs,o.data ≠ .fields fs)→H b=none:=fun {b o} e d1 d2=>by
   cases q:H b with
   | none=>rfl
   | some u =>
    rcases hA b (by rw [q]; simp) with e' | e' <;> subst e'
    ·rw [ha] at e; cases e; exact absurd rfl (d1 _ _)
    ·rw [hPt] at e; cases e; exact absurd rfl (d2 _)
  have nsK:∀ {b:Addr} {m:Str→Option Value},s₁.heap.Ns b m→(hidT s₁.heap H).Ns b m:=fun {b m} ⟨o,es,ep,e,d,r⟩=>⟨o,es,ep,base_of e (noA e (fun _ _ z=>by rw [d] at z; cases z) (fun _ z=>by rw [d] at z; cases z)),d,r⟩
  have hKb:K.In (hidT s₁.heap H):=fun b o e=>base_of (KX b o e) (by
   cases q:H b with
   | none=>rfl
   | some u =>
    rcases hA b (by rw [q]; simp) with e' | e' <;> subst e'
    ·rw [hK (by rw [q]; simp)] at e; cases e
    ·rw [hPK] at e; cases e)
  have hM:Mod K mg (hidT s₁.heap H):=⟨hKb,nsK hns,⟨mb,nsK hb,hbb⟩,let ⟨mc,h1,h2⟩:=hlim; ⟨mc,nsK h1,h2⟩⟩
  have hBb:(hidT s₁.heap H).BuiltinsAt mg P:=by
   obtain ⟨bm,o,b1,b2,b3,b4,b5,b6,b7,b8⟩:=hbm
   exact ⟨bm,o,b1,b2,b3,b4,base_of b5 (noA b5 (fun _ _ z=>by rw [b8] at z; cases z) (fun _ z=>by rw [b8] at z; cases z)),b6,b7,b8⟩
  have e0:Env0 Pg w K mg (hidT s₁.heap H) callerA [] s₁ H:=⟨rfl,hM,fun b o e=>of_hidT e,Nat.le_of_eq (hidT_size _ _),trivial,fun b hb=>absurd (show b ∈ ([]:List Addr) from hb) (by simp),hok,.of_eq hg⟩
  refine codeAny_mono ((F _ hKb (nsK hns) hBb).run callerA [] s₁ H ⟨[.ref a],[]⟩ [.ref a] [.ref a] _ _ hr e0 (hbind s₁ (.ref a)) (.cons rfl .nil) (hsp H hO hS)) fun r s' h=>?_
  cases r with
  | error e=>exact (hCX H e s' h).elim
  | ok fl =>
   cases fl with
   | next=>exact False.elim h
   | brk=>exact False.elim h
   | cont=>exact False.elim h
   | ret u =>
    obtain ⟨v,H',os,bare,un,hok',r',q⟩:=h
    have q':v=.bl true:=q
    subst q'
    obtain rfl:u=Value.bool true:=r'
    have kept:∀ b o,b ≠ P→s₁.heap.get? b=some o→s'.heap.get? b=some o:=fun b o hbP e=>by
     cases q:H b with
     | none=>exact un.keep b o e q (by intro z; exact absurd (show b ∈ ([]:List Addr) from z) (by simp)) (by simp)
     | some u =>
      rcases hO.2 b hbP with z | ⟨ob,xs,z⟩
      ·rw [q] at z; cases z
      ·have z2:=un.frzs b ob _ z
       obtain ⟨e1,_⟩:=hok b _ z
       obtain ⟨e2,_⟩:=hok' b _ z2
       rw [e] at e1; cases e1
       exact e2
    obtain ⟨more,hm⟩:=un.tbls P _ hO.1
    have hP2:s'.heap.get? P=some (tabObj (#[] ++ more)):=hok' P _ hm
    obtain ⟨oc,cvs,_,_,_,_,_,_,_,h1,h2,h3,h4,_⟩:=codeHd_of_K KX hch
    refine ⟨rfl,⟨fun b o e=>?_,fun b o e=>?_⟩,os,bare⟩
    ·by_cases hbP:b=P
     ·subst hbP
      rw [hPt] at e
      cases e
      exact .inr (.inl ⟨⟨c0,oc,cvs,h1,h2,h3,h4⟩,rfl,#[],more,rfl,hP2⟩)
     ·exact .inl (kept b o hbP e)
    ·by_cases hbP:b=P
     ·subst hbP; exact ⟨_,hP2⟩
     ·exact ⟨o,kept b o hbP e⟩
 cases hk:K.lookup a with
 | some o =>
  have e:=KX a o hk
  rw [ha] at e
  cases e
  refine core (fun b=>if b=P then some (.tbl #[]) else none) ⟨if_pos rfl,fun b hb=>.inl (if_neg hb)⟩ (.inr ⟨_,vs.toArray,_,hk,rfl,rfl,rfl,by rw [List.size_toArray,lenV]; exact hl,by simpa using rv⟩) (fun b u z=>?_) (fun b z=>?_) fun z=>absurd (if_neg haP) z
  ·by_cases hb:b=P
   ·have z':=(if_pos hb).symm.trans z
    cases z'
    subst hb
    exact hPt
   ·have z':=(if_neg hb).symm.trans z
    cases z'
  ·by_cases hb:b=P
   ·exact .inr hb
   ·exact absurd (if_neg hb) z
 | none =>
  refine core (fun b=>if b=P then some (.tbl #[]) else if b=a then some (.frz { cls:=.type "list",data:=.seq vs.toArray } (.lst (ns.map V.int))) else none) ⟨if_pos rfl,fun b hb=>?_⟩ (.inl (.inr ⟨{ cls:=.type "list",data:=.seq vs.toArray },by dsimp only; rw [if_neg haP,if_pos rfl]⟩)) (fun b u z=>?_) (fun b z=>?_) fun _=>hk
  ·by_cases hb2:b=a
   ·exact .inr ⟨_,_,by dsimp only; rw [if_neg hb,if_pos hb2]⟩
   ·exact .inl (by dsimp only; rw [if_neg hb,if_neg hb2])
  ·by_cases hb:b=P
   ·have z':=(if_pos hb).symm.trans z
    cases z'
    subst hb
    exact hPt
   ·have z':=(if_neg hb).symm.trans z
    by_cases hb2:b=a
    ·rw [if_pos hb2] at z'
     cases z'
     subst hb2
     exact ⟨ha,by rw [List.length_map]; exact hl,vs,_,rv,ha⟩
    ·rw [if_neg hb2] at z'
     cases z'
  ·by_cases hb:b=P
   ·exact .inr hb
   ·by_cases hb2:b=a
    ·exact .inl hb2
    ·exact absurd ((if_neg hb).trans (if_neg hb2)) z
theorem walk_ofT {l:PySem.W.OpenLaw} {n k:Nat} {q:Program} {loose:List Str} {XP:(Str→Option Value)→Heap→Prop} {YP:World→Heap→Prop} {d:DefRec} {K:Params→PySem.W.Frag} {CX:World→CXT} {sp:World→Sp} {x:Str} {P:Addr}
  (hn:l.most=some n) (hn2:n ≤ sizeLine) (hdf:d.params.defaults=[]) (hr:Room k callerA)
  (hY:∀ (w:World) (h:Heap),YP w h→(K w.params).In h∧h.get? P=some (tabObj #[]))
  (F:∀ (w:World) (mg:Str→Option Value) (fa:Addr) (h:Heap),(K w.params).In h→h.Ns mainGlobals mg→mg d.name=some (.ref fa) →
   ∃ (fd:FuncData) (c0:Addr),(∀ (s:Shared) (u:Value),BindsTo s fd ⟨[u],[]⟩ [(x,u)])∧(K w.params).lookup P=none∧codeHdIn (K w.params) c0 P=true ∧
    ∀ base:Heap,(K w.params).In base→base.Ns mainGlobals mg→base.BuiltinsAt mg P→FnOk l.prog w (K w.params) mg base (CX w) k fa fd [x] (sp w))
  (hsp:∀ (w:World) (H:Hp) (a:Addr) (ns:List Int),ns.length ≤ n→OnlyT P H→SqL (K w.params) H a (ns.map V.int)→sp w [.ref a] H (fun v _=>v=.bl true) fun _ _ _=>False)
  (hCX:∀ (w:World) (H:Hp) (s:Shared) (e:Value) (s':Shared),CX w [] H s (fun _ _ _=>False) e s'→False) :
  PySem.W.WalkO q loose XP YP l.row.toRowW d [] (fun f vs=>PySem.call f vs):=by
 refine Att.attach_call hn hdf fun w s₀ s₁ mg mb fa o pm cd doc a vs ns G Y ho hd hcd hmg hobj hints hlen hg=>?_
 obtain ⟨KX,hPt⟩:=hY w _ Y
 obtain ⟨fd,c0,hb,hPK,hch,hF⟩:=F w mg fa _ KX G.T.g hmg
 obtain ⟨bm,ob,b1,b2,b3,b4,b5,b6⟩:=G.T.bmain
 have hbG:bm ≠ mainGlobals:=fun q=>by
  obtain ⟨o,es,ep,e,hd,_⟩:=G.T.g
  rw [q,e] at b3; cases b3; rw [hd] at b6; cases b6
 have hbP:bm ≠ P:=fun q=>by rw [q,hPt] at b3; cases b3; cases b4
 exact law_callT KX G.T.g G.T.b G.T.builtins G.T.nolimit hg hPt hPK hch ⟨bm,ob,b1,b2,hbG,hbP,b3,b4,b5,b6⟩ hobj hints (Nat.le_trans hlen hn2) hr hF hb (fun H hO hS=>hsp w H a ns hlen hO hS) fun H e s'=>hCX w H s₁ e s'
end L2
namespace L2
open PySem PySem.Spec PySem.W PyProof.Rows
def Itv (a:Addr) (o:Obj) (kvs:List (Key × V)):It :=
 ⟨fun i H=>H a=some (.frz o (.dK kvs))∧i < kvs.length,fun i H x H'=>H'=H∧∃ k,kvs[i]?=some (k,x),fun i H=>H a=some (.frz o (.dK kvs))∧kvs.length ≤ i⟩
theorem turn_values {P:Program} {w:World} {K:PySem.W.Frag} {tg:Expr} {it a:Addr} {o:Obj} {kvs:List (Key × V)} {vs:List (Key × Value)} {ep:Nat} (hne:a ≠ it) (rel:KV kvs vs)
  (da:∀ h:Heap,h.get? a=some o→h.DictAt (mixKind P w) a vs ep) :
  Turn P w K tg (Itv a o kvs) [it] it (fun i h=>h.IsValIter it a i vs.length ep) where
 mem:=by simp
 obj:=fun i h st c hc=>by
  obtain ⟨o',ho,hc',hd⟩:=st
  cases (List.mem_singleton.mp hc)
  exact ⟨_,ho,fun v q=>by rw [hd] at q; cases q⟩
 keep:=fun i h h' st kk=>by
  obtain ⟨o',ho,hc',hd⟩:=st
  exact ⟨o',kk it (by simp) _ ho,hc',hd⟩
 item:=by
  intro X hP hw hK hc i pins s σ H E I hf st hg
  subst hP hw hK
  obtain ⟨hz,hi⟩:=hg
  obtain ⟨⟨k,x⟩,hx⟩:∃ p,kvs[i]?=some p:=⟨kvs[i],by simp [hi]⟩
  obtain ⟨v,hv,rv⟩:=kvAt rel hx
  have ho:=(I.hok a _ hz).1
  refine wpAny_pyNext_values_item st (da _ ho) hv fun h' hit' hs'=>⟨_,rfl,?_⟩
  obtain ⟨o',ho',hc',hd'⟩:=id hit'
  refine go_of ho' hc' hd' (by decide) ⟨x,H,?_,rv,⟨rfl,k,hx⟩,hit',fun c hb=>(hf c hb).1⟩
  exact I.turnedL (t':=s.toks) (ch:=[it]) (fun c o hb q=>(hs'.2 c (fun z=>hb (by simp [z]))).trans q) hf
 done:=by
  intro X hP hw hK hc i pins s σ H E I hf st hg
  subst hP hw hK
  obtain ⟨hz,hi⟩:=hg
  have ho:=(I.hok a _ hz).1
  have el:=rel.length
  refine wpAny_pyNext_values_end (I.ok.hd hc) st (da _ ho) (List.getElem?_eq_none_iff.mpr (by omega)) fun h' kp=>⟨rfl,I.turnedL (t':=s.toks) (ch:=[it]) (fun c o hb q=>?_) hf⟩
  exact kp c o (fun z=>hb (by simp [z])) q
 self:=fun _ _ _ _ _ st h=>wpAny_pyIter_valiter st h
def iValues (td:TE):TI:=fun σ H R=>td σ H fun x H1=>∃ a kvs,x=.ref a∧Rd H1 a (.dK kvs)∧∀ o,R (Itv a o kvs) (upd H1 a (.frz o (.dK kvs)))
section
variable {X:Cx} {o tg:Expr} {apos cpos:Pos} {td:TE}
theorem pi_values (ho:PE X o td) (hb:attributeBase o "values" X.env (eval o X.env)=eval o X.env:=by rfl) (hl:(apos.endLine == cpos.line)=true:=by rfl) :
  PI X tg (.Call (.Attribute o "values" apos) [] [] cpos) (iValues td):=by
 intro pins s σ H R I h
 refine wpAny_Call_method hb rfl hl PySem.F.plainAttrs_dict PySem.F.slot_dict_values PySem.F.type_dict_values (thn (ho pins s σ H _ I h) fun u s1 ⟨x,H1,I1,rx,a,kvs,ex,d,q1⟩=>?_)
 subst ex
 obtain rfl:u=Value.ref a:=rx
 obtain ⟨t1,t2,hd⟩:=isD_at I1 (.inl ⟨kvs,d⟩)
 refine ⟨t1,t2,?_⟩
 obtain ⟨ob,I2,hob,vs,ep,rel,da⟩:=I1.freeze d
 refine Calls.callWith_builtin rfl (PyProof.Rows.evalArgs_empty ?_)
 refine call_meetsIn PySem.F.slot_dict_values da.dictOf.typeIs PySem.F.entry_dict_values (PySem.F.args_dict_values_1 _) (meets_dict_values (mixKind X.prog X.w) a hd) ⟨⟨vs,da.dictOf⟩,?_⟩
 refine wpAny_pyIter_values (knd:=mixKind X.prog X.w) (d:=a) (kvs:=vs) (ep:=ep) ⟨_,Heap.get?_push_size _ rfl,rfl,rfl⟩ (da.push _) ?_
 have la:a < s1.heap.objs.size:=Heap.lt_size hob
 refine ⟨_,[_],_,_,_,rfl,I2.kept (t':=s1.toks) fun b o e=>Heap.get?_push_of_some _ (Heap.get?_push_of_some _ e),turn_values (ep:=ep) (Nat.ne_of_lt (Nat.lt_of_lt_of_eq (Nat.lt_succ_of_lt la) (size_push' _ _).symm)) rel (fun h e=>da.at' fun o' e'=>by rw [hob] at e'; cases e'; exact e),⟨_,Heap.get?_push_size _ rfl,rfl,rfl⟩,fun b hb=>?_,q1 ob⟩
 cases (List.mem_singleton.mp hb)
 exact I2.fpOk (by rw [size_push']; omega) (I2.hok.fresh (by rw [size_push']; omega))
end
end L2
namespace L2
open PySem PySem.Spec PySem.W PyProof.Rows
section
variable {X:Cx} {pins:List (Addr × Obj)} {σ:St} {H:Hp} {s:Shared}
theorem Inv.thaw {a:Addr} {o:Obj} {kvs:List (Key × V)} (I:Inv X pins σ H s) (e:H a=some (.frz o (.dK kvs))) (e0:X.H₀ a=none):Inv X pins σ (upd H a (.dK kvs)) s:=by
 have nn:∀ b,H b=none→b ≠ a:=fun b q z=>by rw [z,e] at q; cases q
 refine ⟨I.ok,I.os,I.bare,⟨I.base.keep,I.base.slot,fun b ob q n hx=>?_,I.base.there,fun b xs q=>?_,fun b ob u q=>?_,fun b ps q=>?_⟩,I.loc,I.cell,?_,fun x c q=>?_,fun p hp=>?_,fun b u q=>?_,I.len⟩
 ·have z:=I.base.free b ob q n hx
  rw [upd_ne (nn b z)]; exact z
 ·have z:=I.base.tups b xs q
  rw [upd_ne (fun y=>by rw [y,e] at z; cases z)]; exact z
 ·have z:=I.base.frzs b ob u q
  rw [upd_ne (fun y=>by rw [y,e0] at q; cases q)]; exact z
 ·obtain ⟨more,z⟩:=I.base.tbls b ps q
  exact ⟨more,by rw [upd_ne (fun y=>by rw [y,e] at z; cases z)]; exact z⟩
 ·rw [upd_ne (nn _ I.free)]; exact I.free
 ·rw [upd_ne (nn _ (I.freeC x c q))]; exact I.freeC x c q
 ·obtain ⟨p1,p2,p3⟩:=I.pin p hp
  exact ⟨p1,by rw [upd_ne (nn _ p2)]; exact p2,p3⟩
 ·by_cases hb:b=a
  ·subst hb
   rw [upd_same] at q
   cases q
   obtain ⟨_,z,hd,vs,rel,dd⟩:=I.hok b _ e
   exact ⟨z,hd,vs,rel,dd⟩
  ·rw [upd_ne hb] at q
   exact (I.hok b u q).stay (fun c v _ z=>z) (fun c z=>by rw [upd_ne (fun y=>by rw [y,e] at z; cases z)]; exact z) fun c xs z=>by rw [upd_ne (fun y=>by rw [y,e] at z; cases z)]; exact z
theorem pss_thaw {st:List Stmt} {t:TS} (h:PSs X st t):PSs X st (fun D σ H=>t D σ H ∨ ∃ (a:Addr) (o:Obj) (kvs:List (Key × V)),H a=some (.frz o (.dK kvs))∧X.H₀ a=none∧t D σ (upd H a (.dK kvs))):=by
 intro pins s σ H D I q
 rcases q with q | ⟨a,o,kvs,e,e0,q⟩
 ·exact h pins s σ H D I q
 ·exact h pins s σ _ D (I.thaw e e0) q
end
end L2
namespace L2
open PySem PySem.Spec PySem.W PyProof.Rows
theorem for_items {a:Addr} {o:Obj} {kvs:List (Key × V)} {g:TG} {tb:TS} {D:Ends} {σ:St} {H:Hp} (Pv:Nat→St→Hp→Prop) (h0:Pv 0 σ H) (hl:∀ i σ H,i ≤ kvs.length→Pv i σ H→H a=some (.frz o (.dK kvs)))
  (hs:∀ (i:Nat) (k:Key) (v:V) (p:Addr) (σ:St) (H:Hp),kvs[i]?=some (k,v)→H p=none→Pv i σ H→g (.ref p) σ (upd H p (.tup [kV k,v])) fun σ2 H2=>tb { D with nx:=Pv (i + 1),ct:=Pv (i + 1),bk:=D.nx } σ2 H2) (hd:∀ σ H,Pv kvs.length σ H→D.nx σ H) :
  ∃ W:Nat→Nat→St→Hp→Prop,(∃ m,W 0 m σ H)∧∀ i m σ H,W i m σ H →
   ((Itd a o kvs).stop i H∧D.nx σ H) ∨ ((Itd a o kvs).go i H∧∃ N:St→Hp→Prop,(∀ σ' H',N σ' H'→∃ m',m' < m∧W (i + 1) m' σ' H')∧∀ x H',(Itd a o kvs).yld i H x H'→g x σ H' fun σ2 H2=>tb { D with nx:=N,ct:=N,bk:=D.nx } σ2 H2):=by
 refine ⟨fun i m σ H=>m=kvs.length - i∧i ≤ kvs.length∧Pv i σ H,⟨kvs.length,by simp,Nat.zero_le _,h0⟩,?_⟩
 rintro i m σ H ⟨rfl,hi,p⟩
 have q:=hl i σ H hi p
 by_cases hlt:i < kvs.length
 ·refine .inr ⟨⟨q,hlt⟩,Pv (i + 1),fun σ' H' p'=>⟨kvs.length - (i + 1),by omega,rfl,hlt,p'⟩,fun x H' y=>?_⟩
  obtain ⟨b,k,v,e1,hn,e3,e2⟩:=y
  subst e1 e2
  exact hs i k v b σ H e3 hn p
 ·have e:i=kvs.length:=by omega
  subst e
  exact .inl ⟨⟨q,Nat.le_refl _⟩,hd σ H p⟩
def kvW (ws:List (Str × Int)):List (Key × V):=ws.map fun p=>(Sum.inr p.1,V.int p.2)
theorem kvW_vals (ws:List (Str × Int)):(kvW ws).map (·.2)=(ws.map (·.2)).map V.int:=by simp [kvW]
theorem kvW_keys (ws:List (Str × Int)):(kvW ws).map (fun kv=>kV kv.1)=(ws.map (·.1)).map V.str:=by simp [kvW,kV]
theorem kvW_at {ws:List (Str × Int)} {i:Nat} {k:Key} {v:V} (h:(kvW ws)[i]?=some (k,v)):∃ x n,ws[i]?=some (x,n)∧k=.inr x∧v=.int n:=by
 unfold kvW at h
 rw [List.getElem?_map] at h
 cases e:ws[i]? with
 | none=>rw [e] at h; cases h
 | some p=>rw [e] at h; cases h; exact ⟨p.1,p.2,rfl,rfl,rfl⟩
theorem valW {ws:List (Str × Int)} (nd:(ws.map (·.1)).Nodup) {x:Str} {n:Int} (h:(x,n) ∈ ws):valV (kvW ws) (.inr x)=some (.int n):=by
 induction ws with
 | nil=>cases h
 | cons p ws ih =>
  rw [List.map_cons,List.nodup_cons] at nd
  show valV ((Sum.inr p.1,V.int p.2) :: kvW ws) (.inr x)=_
  rcases List.mem_cons.mp h with e | e
  ·rw [← e]; exact valV_pos rfl
  ·rw [valV_neg (fun z=>nd.1 (by rw [Sum.inr.inj z]; exact List.mem_map_of_mem (f:=(·.1)) e))]
   exact ih nd.2 e
theorem valW_none {ws:List (Str × Int)} {x:Str} (h:x ∉ ws.map (·.1)):valV (kvW ws) (.inr x)=none:=by
 induction ws with
 | nil=>rfl
 | cons p ws ih =>
  rw [List.map_cons,List.mem_cons,not_or] at h
  show valV ((Sum.inr p.1,V.int p.2) :: kvW ws) (.inr x)=_
  rw [valV_neg (fun z=>h.1 (Sum.inr.inj z).symm)]
  exact ih h.2
theorem putW_new {ws:List (Str × Int)} {x:Str} {n:Int} (h:x ∉ ws.map (·.1)):putK (kvW ws) (.inr x) (.int n)=kvW (ws ++ [(x,n)]):=by
 rw [putK_new _ (valW_none h)]
 simp [kvW]
theorem putW_old {ws:List (Str × Int)} {x:Str} {n:Int} (h:x ∈ ws.map (·.1)):putK (kvW ws) (.inr x) (.int n)=kvW (ws.map fun p=>if p.1=x then (p.1,n) else p):=by
 unfold putK
 have ha:((kvW ws).any fun kv=>decide (kv.1=.inr x))=true:=by
  obtain ⟨p,hp,e⟩:=List.mem_map.mp h
  rw [List.any_eq_true]
  exact ⟨(.inr p.1,.int p.2),List.mem_map_of_mem (f:=fun p:Str × Int=>((Sum.inr p.1:Key),V.int p.2)) hp,by rw [← e]; exact decide_eq_true rfl⟩
 rw [if_pos ha]
 unfold kvW
 rw [List.map_map,List.map_map]
 refine List.map_congr_left fun p _=>?_
 show (if (Sum.inr p.1:Key)=Sum.inr x then ((Sum.inr p.1:Key),V.int n) else (Sum.inr p.1,V.int p.2))=_
 by_cases e:p.1=x
 ·rw [if_pos (congrArg _ e)]; simp [e]
 ·rw [if_neg (fun z=>e (Sum.inr.inj z))]; simp [e]
end L2
namespace DV
open PySem PySem.W PyProof.Rows
def whole (ws:List (Str × Int)):Int:=(ws.map (·.2)).sum
def part (R W w:Int):Int:=R * w / W
def rest (R W w:Int):Int:=R * w - part R W w * W
theorem rest_pos {R W w:Int} (h:0 < W):0 ≤ rest R W w∧rest R W w < W:=by
 unfold rest part
 have h1:=Int.emod_nonneg (R * w) (by omega:W ≠ 0)
 have h2:=Int.emod_lt_of_pos (R * w) h
 have h3:=Int.mul_ediv_add_emod (R * w) W
 have h4:R * w / W * W=W * (R * w / W):=Int.mul_comm _ _
 omega
theorem parts_sum (R W:Int):∀ ws:List (Str × Int),W * (ws.map fun p=>part R W p.2).sum + (ws.map fun p=>rest R W p.2).sum=R * whole ws
 | []=>by simp [whole]
 | p :: ws=>by
  have:=parts_sum R W ws
  unfold whole at *
  simp only [List.map_cons,List.sum_cons]
  rw [Int.mul_add,Int.mul_add,← this]
  unfold rest
  have h4:part R W p.2 * W=W * part R W p.2:=Int.mul_comm _ _
  omega
theorem rests_lt {R W:Int} (h:0 < W):∀ {ws:List (Str × Int)},0 ≤ (ws.map fun p=>rest R W p.2).sum∧(ws.map fun p=>rest R W p.2).sum ≤ W * ws.length∧(ws ≠ []→(ws.map fun p=>rest R W p.2).sum < W * ws.length)
 | []=>by simp
 | p :: ws=>by
  have ⟨a,b,_⟩:=rests_lt (R:=R) h (ws:=ws)
  have ⟨c,d⟩:=rest_pos (R:=R) (w:=p.2) h
  simp only [List.map_cons,List.sum_cons,List.length_cons]
  have e:W * ((ws.length + 1:Nat):Int)=W * ws.length + W:=by
   rw [Int.natCast_add,Int.mul_add]; simp
  rw [e]
  exact ⟨by omega,by omega,fun _=>by omega⟩
theorem left_ok {R:Int} {ws:List (Str × Int)} (h:0 < whole ws) (hne:ws ≠ []):0 ≤ R - (ws.map fun p=>part R (whole ws) p.2).sum∧R - (ws.map fun p=>part R (whole ws) p.2).sum < ws.length:=by
 have h1:=parts_sum R (whole ws) ws
 have ⟨a,_,c⟩:=rests_lt (R:=R) h (ws:=ws)
 have c:=c hne
 generalize (ws.map fun p=>rest R (whole ws) p.2).sum=T at *
 generalize (ws.map fun p=>part R (whole ws) p.2).sum=S at *
 generalize whole ws=W at *
 have e:W * (R - S)=T:=by rw [Int.mul_sub,← Int.mul_comm R W]; omega
 constructor
 ·by_cases z:0 ≤ R - S
  ·exact z
  ·exfalso
   have:=Int.mul_lt_mul_of_pos_left (show R - S < 0 by omega) h
   rw [Int.mul_zero,e] at this
   omega
 ·have:W * (R - S) < W * (ws.length:Int):=by rw [e]; exact c
  exact Int.lt_of_mul_lt_mul_left this (Int.le_of_lt h)
end DV
namespace B04
open PySem L2 S2
def top (i:Nat):Stmt:=PySem.Challenge.pw_boxgalley_k04_shared_among_items.main.body.getD i (.Pass ⟨0,0,0,0⟩)
abbrev sDeal:Stmt:=top 7
abbrev sWeighted:Stmt:=top 8
abbrev sTotal:Stmt:=top 9
abbrev sFills:Stmt:=top 10
abbrev sRest:Stmt:=top 11
abbrev sCommon:Stmt:=top 12
abbrev sLevelOf:Stmt:=top 13
abbrev sPour:Stmt:=top 14
abbrev sPlanInit:Stmt:=inClass (top 15) 0
abbrev sColumn:Stmt:=top 16
abbrev sGrowing:Stmt:=top 17
abbrev sShrinking:Stmt:=top 18
abbrev sYielding:Stmt:=top 19
abbrev sPlanOf:Stmt:=top 20
abbrev sShare:Stmt:=top 21
abbrev sAt:Stmt:=top 23
abbrev sMixed:Stmt:=top 24
abbrev sDraws:Stmt:=top 25
abbrev sLNames:Stmt:=top 26
abbrev sLItem:Stmt:=top 27
abbrev sLItems:Stmt:=top 28
abbrev sLRoom:Stmt:=top 29
abbrev sLGrown:Stmt:=top 30
abbrev sLShrunk:Stmt:=top 31
abbrev sLGiven:Stmt:=top 32
abbrev sLRight:Stmt:=top 33
abbrev sLLess:Stmt:=top 34
abbrev sLColumn:Stmt:=top 35
abbrev sLOnes:Stmt:=top 36
abbrev sLRanks:Stmt:=top 37
abbrev sLDue:Stmt:=top 38
abbrev sLaw:Stmt:=top 39
structure Names (mg:Str→Option Value):Prop where
 sum:mg "sum"=none
 list:mg "list"=none
 sorted:mg "sorted"=none
 dict:mg "dict"=none
 len:mg "len"=none
 range:mg "range"=none
 zip:mg "zip"=none
 inst:mg "isinstance"=none
 all:mg "all"=none
 int:mg "int"=none
 bool:mg "bool"=none
 max:mg "max"=none
 min:mg "min"=none
 rev:mg "reversed"=none
 any:mg "any"=none
 tuple:mg "tuple"=none
 set:mg "set"=none
abbrev lamPos:Pos:=⟨18,40,18,73⟩
abbrev lamQual:Str:=(("deal":Str) ++ ".<locals>.") ++ "<lambda>"
def wOf (ws:List (Str × Int)) (x:Str):Int:=((ws.find? fun p=>decide (p.1=x)).map (·.2)).getD 0
def restOf (R:Int) (ws:List (Str × Int)) (x:Str):Int:=DV.rest R (DV.whole ws) (wOf ws x)
def dealt (R:Int) (ws:List (Str × Int)) (more:List Str):List (Str × Int):=ws.map fun p=>(p.1,DV.part R (DV.whole ws) p.2 + if p.1 ∈ more then 1 else 0)
def leftOf (R:Int) (ws:List (Str × Int)):Int:=R - (ws.map fun p=>DV.part R (DV.whole ws) p.2).sum
def spDeal (T:Addr):Sp:=fun vs H Q _=>∃ (d:Addr) (R:Int) (ws:List (Str × Int)) (ps:Array Value),vs=[.int R,.ref d]∧Rd H d (.dK (kvW ws))∧(ws.map (·.1)).Nodup∧ws ≠ []∧ws.length < 64∧0 ≤ R∧R < 2 ^ 32∧0 < DV.whole ws∧DV.whole ws < 1073741824 ∧
 H T=some (.tbl ps)∧TabOk H lamPos lamQual ps∧∀ (S:Addr) (H':Hp) (ps':Array Value) (out:List Str),H S=none→(∀ b u,b ≠ T→b ≠ d→H b=some u→H' b=some u)→Rd H' d (.dK (kvW ws))→H' T=some (.tbl ps')→TabOk H' lamPos lamQual ps' →
  out.Perm (ws.map (·.1))→out.Pairwise (fun x y=>DV.lexLt (-(restOf R ws y),y) (-(restOf R ws x),x)=false)→H' S=some (.dK (kvW (dealt R ws (out.take (leftOf R ws).toNat))))→Q (.ref S) H'
theorem notin_take {ws:List (Str × Int)} (nd:(ws.map (·.1)).Nodup) {i:Nat} {x:Str} {n:Int} (h:ws[i]?=some (x,n)) (f:Str × Int→Int):x ∉ ((ws.take i).map fun p=>(p.1,f p)).map (·.1):=by
 intro hx
 rw [List.map_map] at hx
 obtain ⟨p,hp,e⟩:=List.mem_map.mp hx
 obtain ⟨j,hj,ej⟩:=List.mem_iff_getElem.mp hp
 rw [List.length_take] at hj
 obtain ⟨hi,ei⟩:=List.getElem?_eq_some_iff.mp h
 rw [List.getElem_take] at ej
 have e':p.1=x:=e
 have:=(List.pairwise_iff_getElem.mp nd) j i (by rw [List.length_map]; omega) (by rw [List.length_map]; exact hi) (by omega)
 apply this
 rw [List.getElem_map,List.getElem_map,ej,ei]
 exact e'
theorem take_next {ws:List (Str × Int)} {i:Nat} {x:Str} {n:Int} (h:ws[i]?=some (x,n)) (f:Str × Int→Int):((ws.take i).map fun p=>(p.1,f p)) ++ [(x,f (x,n))]=(ws.take (i + 1)).map fun p=>(p.1,f p):=by
 rw [List.take_succ,h,List.map_append]
 rfl
theorem putTake {ws:List (Str × Int)} (nd:(ws.map (·.1)).Nodup) {i:Nat} {x:Str} {n m:Int} (h:ws[i]?=some (x,n)) (f:Str × Int→Int) (e:m=f (x,n)) :
  putK (kvW ((ws.take i).map fun p=>(p.1,f p))) (.inr x) (.int m)=kvW ((ws.take (i + 1)).map fun p=>(p.1,f p)):=by
 rw [putW_new (notin_take nd h _),e,take_next h f]
theorem wOf_of {ws:List (Str × Int)} (nd:(ws.map (·.1)).Nodup) {x:Str} {p:Str × Int} (h:(x,p.2) ∈ ws):wOf ws x=p.2:=by
 unfold wOf
 induction ws with
 | nil=>cases h
 | cons q ws ih =>
  rw [List.map_cons,List.nodup_cons] at nd
  rcases List.mem_cons.mp h with e | e
  ·rw [List.find?_cons_of_pos (by rw [← e]; exact decide_eq_true rfl),← e]
   rfl
  ·rw [List.find?_cons_of_neg (fun z=>nd.1 (by rw [of_decide_eq_true z]; exact List.mem_map_of_mem (f:=(·.1)) e))]
   exact ih nd.2 e
theorem cut_take {xs:List Str} {v:Int} (h:0 ≤ v):cutV (xs.map V.str) none (some v)=(xs.take v.toNat).map V.str:=by
 unfold cutV
 rw [HT.sIx_none]
 unfold HT.sIx
 dsimp only
 rw [if_neg (by omega),List.drop_zero,Nat.sub_zero,List.length_map,← List.map_take]
 congr 1
 rw [List.take_eq_take_iff]
 omega
theorem notin_more {more:List Str} (nd:more.Nodup) {j:Nat} {x:Str} (h:more[j]?=some x):x ∉ more.take j:=by
 intro hx
 obtain ⟨i,hi,ei⟩:=List.mem_iff_getElem.mp hx
 rw [List.length_take] at hi
 rw [List.getElem_take] at ei
 obtain ⟨hj,ej⟩:=List.getElem?_eq_some_iff.mp h
 exact (List.pairwise_iff_getElem.mp nd) i j (by omega) hj (by omega) (by rw [ei,ej])
theorem dealt_next {R:Int} {ws:List (Str × Int)} (nd:(ws.map (·.1)).Nodup) {more:List Str} {j:Nat} {x:Str} {n:Int} (hx:(x,n) ∈ ws) (h:more[j]?=some x) :
  ((dealt R ws (more.take j)).map fun p=>if p.1=x then (p.1,DV.part R (DV.whole ws) n + 1) else p)=dealt R ws (more.take (j + 1)):=by
 unfold dealt
 rw [List.map_map]
 refine List.map_congr_left fun p hp=>?_
 have em:∀ y,y ∈ more.take (j + 1) ↔ y ∈ more.take j ∨ y=x:=fun y=>by rw [List.take_succ,h]; simp
 show (if p.1=x then (p.1,DV.part R (DV.whole ws) n + 1) else (p.1,DV.part R (DV.whole ws) p.2 + if p.1 ∈ more.take j then 1 else 0))=_
 by_cases e:p.1=x
 ·have e2:p.2=n:=(wOf_of nd (p:=p) (x:=x) (by rw [← e]; exact hp)).symm.trans (wOf_of nd (p:=(x,n)) hx)
  rw [if_pos e,if_pos ((em _).mpr (.inr e)),e2]
 ·rw [if_neg e]
  by_cases e3:p.1 ∈ more.take j
  ·rw [if_pos e3,if_pos ((em _).mpr (.inl e3))]
  ·rw [if_neg e3,if_neg (fun z=>((em _).mp z).elim e3 e)]
theorem okC {P:Program} {w:World} {K:PySem.W.Frag} {mg:Str→Option Value} {base:Heap} {x qual:Str} {st:Stmt} {f:Addr} {fd:FuncData} {N ps:List Str} {k:Nat} {sp:Sp} (F:Fun K x qual st f fd) (S:FnScope N ps (defScope st)) (len:∀ vs H Q E,sp vs H Q E→vs.length=ps.length)
  (hbody:∀ (cdv:Value),fd.code=cdv→∀ (A:Around) (outer:List Env) (s:Shared) (H:Hp) (vs:List V) (Q:VK) (E:XK),Room k (A.deeper (PyProof.Rows.envOfC qual (defScope st) s.heap.objs.size f cdv))→sp vs H Q E →
   ∃ t,PSs (cxOf CX0 P w K mg base N qual (defScope st) f cdv A outer s H E).nox (defBody st) t∧t { nx:=fun _ H'=>Q .non H',rt:=Q } (L2.start N vs) H):FnOk P w K mg base CX0 (k + 1) f fd ps sp:=by
 obtain ⟨oc,od,kV,doc,pm,an,cdv,ct,osl,rfl,lk,hcd⟩:=F.ex
 refine fn_of lk hcd S len fun A outer s H vs Q E hr hsp=>?_
 obtain ⟨t,h,q⟩:=hbody cdv rfl A outer s H vs Q E hr hsp
 exact ⟨t,h.nox,q⟩
theorem pe_never {X:Cx} {e:Expr}:PE X e (fun _ _ _=>False):=fun _ _ _ _ _ _ h=>h.elim
section
variable {P:Program} {w:World} {K:PySem.W.Frag} {mg:Str→Option Value} {base:Heap}
theorem scDeal:FnScope ["room","weights","whole","sizes","rests","name","weight","left","in_turn"] ["room","weights"] (defScope sDeal):=⟨rfl,rfl,rfl,by decide +kernel,rfl,by decide +kernel,by decide +kernel⟩
set_option maxHeartbeats 2000000 in
theorem ok_deal {f T c0:Addr} {fd:FuncData} (F:Fun K "deal" "deal" sDeal f fd) (N:Names mg) (hcd:fd.code=.ref c0) (hch:PySem.W.codeHdIn K c0 T=true) (hbm:base.BuiltinsAt mg T):FnOk P w K mg base CX0 2 f fd ["room","weights"] (spDeal T):=by
 refine okC F scDeal (fun vs H Q E h=>?_) (fun cdv hce A outer s H vs Q E hr h=>?_)
 ·obtain ⟨d,R,ws,ps,e,_⟩:=h
  rw [e]
  rfl
 ·obtain ⟨d,R,ws,ps,e,hd,nd,hne,h64,hR,hR2,hw,hw2,hT,hT2,q⟩:=h
  subst e
  have hu:(A.deeper (PyProof.Rows.envOfC "deal" (defScope sDeal) s.heap.objs.size f cdv)).units + 1 < cLine:=by have:=hr.units; omega
  have hcdv:cdv=.ref c0:=hce.symm.trans hcd
  refine ⟨_,pss_cons (ps_set (i:=2) scDeal.nd rfl (Or.inl rfl) (pe_sumV rfl (pv 1) (by rfl) (by rfl) (by rfl) N.sum PyProof.Rows.boot_sum))
   (pss_cons (ps_if (pt_cmpR op_eq (pv 2) pe_int (nomark _)) (pss_one (ps_ret pe_never)) pss_nil)
   (pss_cons (ps_set (i:=3) scDeal.nd rfl (Or.inl rfl) pe_dnewK)
   (pss_cons (ps_set (i:=4) scDeal.nd rfl (Or.inr rfl) pe_dnewK)
   (pss_cons (ps_for PassesOwn.never rfl (pi_items (pv 1)) (pg_tup rfl (pgs_cons (pg_name (i:=5) scDeal.nd rfl (Or.inl rfl)) (pgs_cons (pg_name (i:=6) scDeal.nd rfl (Or.inl rfl)) pgs_nil)))
    (pss_cons (ps_dput hu (pv 3) (pv 5) (pe_op op_fdiv (pe_op op_mul (pv 0) (pv 6)) (pv 2)) rfl)
    (pss_one (ps_dput hu (pv 4) (pv 5) (pe_op op_sub (pe_op op_mul (pv 0) (pv 6)) (pe_op op_mul (pe_dget hu (pv 3) (pv 5) (fun _ _=>rfl)) (pv 2))) rfl))))
   (pss_cons (ps_set (i:=7) scDeal.nd rfl (Or.inl rfl) (pe_op op_sub (pv 0) (pe_sumV rfl (pv 3) (by rfl) (by rfl) (by rfl) N.sum PyProof.Rows.boot_sum)))
   (pss_cons (ps_set (i:=8) scDeal.nd rfl (Or.inl rfl) (pe_sortL (P:=T) (c0:=c0) (i:=4) (Nat.lt_of_le_of_lt (Nat.le_trans (Nat.le_add_right _ _) (Nat.le_add_right _ _)) hr.dp) (by rfl) (by exact Or.inr (Or.inl rfl)) (by rfl) hcdv hch hbm (by rfl) (by rfl) (by rfl) (by rfl) (by rfl) N.sorted PyProof.Rows.boot_sorted (pe_callTy (call_listD rfl) (by rfl) N.list PyProof.Rows.boot_list (pa_cons (pv 1) pa_nil))))
   (pss_cons (ps_for PassesOwn.never rfl (pi_list (pe_slice sl_list (pv 8) po_none (po_some (pv 7)))) (pg_name (i:=5) scDeal.nd rfl (Or.inl rfl))
    (pss_one (ps_dput hu (pv 3) (pv 5) (pe_op op_add (pe_dget hu (pv 3) (pv 5) (fun _ _=>rfl)) pe_int) rfl)))
   (pss_one (ps_ret (pv 3)))))))))),?_⟩
  refine ⟨_,rfl,d,_,ws.map (·.2),rfl,hd,kvW_vals ws,?_⟩
  have hW:DV.whole ws ≠ 0:=by omega
  refine ⟨_,rfl,rfl,_,rfl,?_⟩
  refine iteC (by show decide (V.int (DV.whole ws)=V.int 0)=false; exact decide_eq_false fun z=>hW (V.int.inj z)) ?_
  intro S hS B hB
  have hSB:S ≠ B:=fun z=>by rw [← z,upd_same] at hB; cases hB
  have hBH:H B=none:=by rw [upd_ne (Ne.symm hSB)] at hB; exact hB
  have k1:∀ b u,H b=some u→(upd (upd H S (.dK [])) B (.dK [])) b=some u:=fun b u e=>by rw [upd_ne (ne_of_none e hBH),upd_ne (ne_of_none e hS)]; exact e
  have hS1:(upd (upd H S (.dK [])) B (.dK [])) S=some (.dK []):=by rw [upd_ne hSB,upd_same]
  have hB1:(upd (upd H S (.dK [])) B (.dK [])) B=some (.dK []):=upd_same
  generalize upd (upd H S (.dK [])) B (.dK [])=H1 at *
  have hdn:H d ≠ none:=by rcases hd with r | ⟨_,r⟩ <;> rw [r] <;> exact fun z=>nomatch z
  have dS:S ≠ d:=fun z=>hdn (by rw [← z]; exact hS)
  have dB:B ≠ d:=fun z=>hdn (by rw [← z]; exact hBH)
  have dT:d ≠ T:=fun z=>by rw [z] at hd; rcases hd with r | ⟨_,r⟩ <;> rw [hT] at r <;> cases r
  refine ⟨_,rfl,d,_,rfl,hd.keep fun o e=>k1 _ _ e,fun o=>for_items (fun i σ H9=>∃ (u5 u6:Option V),σ=[some (.int R),some (.ref d),some (.int (DV.whole ws)),some (.ref S),some (.ref B),u5,u6,none,none] ∧
   H9 d=some (.frz o (.dK (kvW ws)))∧(∀ b u,b ≠ d→H b=some u→H9 b=some u)∧H9 S=some (.dK (kvW ((ws.take i).map fun p=>(p.1,DV.part R (DV.whole ws) p.2))))∧H9 B=some (.dK (kvW ((ws.take i).map fun p=>(p.1,DV.rest R (DV.whole ws) p.2)))))
   ⟨none,none,rfl,upd_same,fun b u hb e=>by rw [upd_ne hb]; exact k1 _ _ e,by rw [upd_ne dS]; exact hS1,by rw [upd_ne dB]; exact hB1⟩ (fun i σ H9 _ ⟨_,_,_,z,_⟩=>z) ?_ ?_⟩
  ·rintro i k v p0 σ H9 hkv hp0 ⟨u5,u6,rfl,h9d,h9k,h9S,h9B⟩
   obtain ⟨x,n,ex,rfl,rfl⟩:=kvW_at hkv
   have k10:∀ b u,H9 b=some u→(upd H9 p0 (.tup [kV (.inr x),.int n])) b=some u:=fun b u e=>by rw [upd_ne (ne_of_none e hp0)]; exact e
   have hp10:(upd H9 p0 (.tup [kV (.inr x),.int n])) p0=some (.tup [kV (.inr x),.int n]):=upd_same
   generalize upd H9 p0 (.tup [kV (.inr x),.int n])=H10 at *
   have hi:i < ws.length:=(List.getElem?_eq_some_iff.mp ex).1
   have lt:∀ f:Str × Int→Int,(kvW ((ws.take i).map fun p=>(p.1,f p))).length < sizeLine:=fun f=>by
    simp only [kvW,List.length_map,List.length_take,sizeLine_eq]; omega
   have cm1:CMul R n:=.inl ⟨by omega,by omega⟩
   refine ⟨p0,_,rfl,SqT.of hp10,rfl,_,_,rfl,_,_,rfl,rfl,?_⟩
   refine ⟨_,rfl,_,rfl,_,_,rfl,rfl,cm1,_,rfl,_,_,rfl,rfl,⟨hw,hw2⟩,_,rfl,_,rfl,S,_,rfl,DPut.k (k:=.inr x) (k10 _ _ h9S) (lt _),?_⟩
   rw [putTake nd ex (fun p=>DV.part R (DV.whole ws) p.2) (m:=R * n / DV.whole ws) rfl]
   have k11:∀ b u,b ≠ S→H10 b=some u→(upd H10 S (.dK (kvW ((ws.take (i + 1)).map fun p=>(p.1,DV.part R (DV.whole ws) p.2))))) b=some u:=fun b u hb e=>by rw [upd_ne hb]; exact e
   have h11:(upd H10 S (.dK (kvW ((ws.take (i + 1)).map fun p=>(p.1,DV.part R (DV.whole ws) p.2))))) S=some (.dK (kvW ((ws.take (i + 1)).map fun p=>(p.1,DV.part R (DV.whole ws) p.2)))):=upd_same
   generalize upd H10 S (.dK (kvW ((ws.take (i + 1)).map fun p=>(p.1,DV.part R (DV.whole ws) p.2))))=H11 at *
   have nd2:(((ws.take (i + 1)).map fun p=>(p.1,DV.part R (DV.whole ws) p.2)).map (·.1)).Nodup:=by
    rw [List.map_map]
    exact (List.Sublist.map _ (List.take_sublist _ _)).nodup nd
   have m2:(x,DV.part R (DV.whole ws) n) ∈ (ws.take (i + 1)).map fun p=>(p.1,DV.part R (DV.whole ws) p.2):=by
    rw [← take_next ex (fun p=>DV.part R (DV.whole ws) p.2)]
    simp
   have hv:DGet H11 S (kV (.inr x)) (some (.int (DV.part R (DV.whole ws) n))):=by
    rw [← valW nd2 m2]
    exact DGet.k h11
   have h11B:=k11 _ _ (Ne.symm hSB) (k10 _ _ h9B)
   refine ⟨_,rfl,_,rfl,_,_,rfl,rfl,cm1,_,rfl,_,rfl,S,_,rfl,hv,_,rfl,_,_,rfl,rfl,.inr ⟨by omega,by omega⟩,_,_,rfl,rfl,_,rfl,_,rfl,B,_,rfl,DPut.k (k:=.inr x) h11B (lt _),?_⟩
   rw [putTake nd ex (fun p=>DV.rest R (DV.whole ws) p.2) (m:=R * n - DV.part R (DV.whole ws) n * DV.whole ws) rfl]
   refine (show ∃ u5 u6,_ from ⟨_,_,rfl,?_,fun b u hb e=>?_,?_,upd_same⟩)
   ·rw [upd_ne (Ne.symm dB)]; exact k11 _ _ (Ne.symm dS) (k10 _ _ h9d)
   ·rw [upd_ne (ne_of_none e hBH)]; exact k11 _ _ (ne_of_none e hS) (k10 _ _ (h9k b u hb e))
   ·rw [upd_ne hSB]; exact h11
  ·rintro σ H9 ⟨u5,u6,rfl,h9d,h9k,h9S,h9B⟩
   rw [show (kvW ws).length=ws.length by simp [kvW],List.take_length] at h9S h9B
   refine ⟨_,rfl,_,rfl,S,_,(ws.map fun p=>DV.part R (DV.whole ws) p.2),rfl,.inl h9S,by simp [kvW],_,_,rfl,rfl,?_⟩
   refine ⟨_,rfl,d,_,rfl,.inr ⟨o,h9d⟩,fun l hl=>?_⟩
   rw [kvW_keys]
   have k10:∀ b u,H9 b=some u→(upd H9 l (.lst ((ws.map (·.1)).map V.str))) b=some u:=fun b u e=>by rw [upd_ne (ne_of_none e hl)]; exact e
   have h10l:(upd H9 l (.lst ((ws.map (·.1)).map V.str))) l=some (.lst ((ws.map (·.1)).map V.str)):=upd_same
   generalize upd H9 l (.lst ((ws.map (·.1)).map V.str))=H10 at *
   have hT10:H10 T=some (.tbl ps):=k10 _ _ (h9k _ _ (Ne.symm dT) hT)
   refine ⟨l,ws.map (·.1),B,_,restOf R ws,ps,rfl,SqL.of h10l,by rw [List.length_map]; exact h64,hT10,⟨hT2.1,hT2.2.imp id fun ⟨c,e1,e2⟩=>⟨c,e1,k10 _ _ (h9k _ _ (fun z=>by rw [z] at e2; rcases hd with r | ⟨_,r⟩ <;> rw [e2] at r <;> cases r) e2)⟩⟩,rfl,.inl (k10 _ _ h9B),fun x hx=>?_,fun D out H2 ps' hD hk hP' hT' hp hs=>?_⟩
   ·obtain ⟨p,hp,e⟩:=List.mem_map.mp hx
    have ew:wOf ws x=p.2:=wOf_of nd (by rw [← e]; exact hp)
    refine valW (by rw [List.map_map]; exact nd) ?_
    unfold restOf
    rw [ew,← e]
    exact List.mem_map_of_mem (f:=fun p:Str × Int=>(p.1,DV.rest R (DV.whole ws) p.2)) hp
   ·have hlf:=DV.left_ok (R:=R) hw hne
    have hS2:=hk _ _ (fun z=>by rw [z] at h9S; have:=h9k _ _ (Ne.symm dT) hT; rw [h9S] at this; cases this) (k10 _ _ h9S)
    have k3:∀ b u,H2 b=some u→(upd H2 D (.lst (out.map V.str))) b=some u:=fun b u e=>by rw [upd_ne (ne_of_none e hD)]; exact e
    have h3D:(upd H2 D (.lst (out.map V.str))) D=some (.lst (out.map V.str)):=upd_same
    generalize upd H2 D (.lst (out.map V.str))=H3 at *
    refine ⟨_,rfl,_,rfl,leftOf R ws,rfl,D,_,rfl,SqL.of h3D,fun L hL=>⟨L,rfl,⟨_,SqL.of upd_same⟩,?_⟩⟩
    have ec:cutV (out.map V.str) none (some (leftOf R ws))=(out.take (leftOf R ws).toNat).map V.str:=cut_take hlf.1
    rw [ec]
    have k4:∀ b u,H3 b=some u→(upd H3 L (.lst ((out.take (leftOf R ws).toNat).map V.str))) b=some u:=fun b u e=>by rw [upd_ne (ne_of_none e hL)]; exact e
    have h4L:(upd H3 L (.lst ((out.take (leftOf R ws).toNat).map V.str))) L=some (.lst ((out.take (leftOf R ws).toNat).map V.str)):=upd_same
    generalize upd H3 L (.lst ((out.take (leftOf R ws).toNat).map V.str))=H4 at *
    have ndo:(out.take (leftOf R ws).toNat).Nodup:=(List.take_sublist _ _).nodup (hp.nodup_iff.mpr nd)
    have sub:∀ x ∈ out.take (leftOf R ws).toNat,x ∈ ws.map (·.1):=fun x hx=>hp.mem_iff.mp (List.mem_of_mem_take hx)
    have h4S:H4 S=some (.dK (kvW (dealt R ws []))):=by
     rw [k4 _ _ (k3 _ _ hS2)]
     simp [dealt]
    have nLS:L ≠ S:=fun z=>by rw [z,h4S] at h4L; cases h4L
    generalize hmo:out.take (leftOf R ws).toNat=more at *
    refine for_list (xs:=more.map V.str) (fun j σ H9=>∃ (u5 u6:Option V),σ=[some (.int R),some (.ref d),some (.int (DV.whole ws)),some (.ref S),some (.ref B),u5,u6,some (.int (leftOf R ws)),some (.ref D)] ∧
     (∀ b u,b ≠ S→H4 b=some u→H9 b=some u)∧H9 S=some (.dK (kvW (dealt R ws (more.take j))))) ⟨_,_,rfl,fun _ _ _ e=>e,h4S⟩ (fun j σ H9 _ ⟨_,_,_,z,_⟩=>SqL.of (z _ _ nLS h4L)) ?_ ?_
    ·rintro j v σ H9' hv ⟨u5,u6,rfl,hk9,hS9⟩
     obtain ⟨x,ex,rfl⟩:∃ x,more[j]?=some x∧v=.str x:=by
      rw [List.getElem?_map] at hv
      cases e:more[j]? with
      | none=>rw [e] at hv; cases hv
      | some x=>rw [e] at hv; exact ⟨x,rfl,(Option.some.inj hv).symm⟩
     obtain ⟨p,hpm,e⟩:=List.mem_map.mp (sub x (List.mem_of_getElem? ex))
     have hxw:(x,p.2) ∈ ws:=by rw [← e]; exact hpm
     have nx:x ∉ more.take j:=notin_more ndo ex
     have hin:(x,DV.part R (DV.whole ws) p.2) ∈ dealt R ws (more.take j):=by
      refine List.mem_map.mpr ⟨p,hpm,?_⟩
      rw [e,if_neg nx,Int.add_zero]
     have ndd:((dealt R ws (more.take j)).map (·.1)).Nodup:=by unfold dealt; rw [List.map_map]; exact nd
     have hg:DGet H9' S (kV (.inr x)) (some (.int (DV.part R (DV.whole ws) p.2))):=by
      rw [← valW ndd hin]
      exact DGet.k hS9
     refine ⟨_,rfl,_,rfl,S,_,rfl,hg,_,_,rfl,rfl,_,rfl,_,rfl,S,_,rfl,DPut.k (k:=.inr x) hS9 (by simp only [kvW,dealt,List.length_map,sizeLine_eq]; omega),?_⟩
     rw [putW_old (n:=DV.part R (DV.whole ws) p.2 + 1) (List.mem_map_of_mem (f:=(·.1)) hin),dealt_next nd hxw ex]
     refine (show ∃ u5 u6,_ from ⟨_,_,rfl,fun b u hb e=>?_,upd_same⟩)
     rw [upd_ne hb]; exact hk9 b u hb e
    ·rintro σ H9' ⟨u5,u6,rfl,hk9,hS9⟩
     rw [List.length_map,List.take_length] at hS9
     have nTS:T ≠ S:=fun z=>by rw [z] at hT; rw [hT] at hS; cases hS
     have kk:∀ b u,b ≠ S→H3 b=some u→H9' b=some u:=fun b u hb e=>hk9 b u hb (k4 _ _ e)
     refine ⟨_,rfl,q S H9' ps' out hS (fun b u hbT hbd e=>kk b u (ne_of_none e hS) (k3 _ _ (hk b u hbT (k10 _ _ (h9k b u hbd e))))) (.inr ⟨o,kk d _ (Ne.symm dS) (k3 _ _ (hk d _ dT (k10 _ _ h9d)))⟩) (kk T _ nTS (k3 _ _ hP'))
      ⟨hT'.1,hT'.2.imp id fun ⟨c,e1,e2⟩=>⟨c,e1,kk c _ (fun z=>?_) (k3 _ _ e2)⟩⟩ hp hs (by rw [hmo]; exact hS9)⟩
     rw [z,hS2] at e2
     cases e2
end
end B04
namespace L2
open PySem
section
variable {prog:Program} {w:World} {A:Around} {R:Result→Shared→Prop} {I Z:Addr} {fp wr:List Addr} {n:Nat} {P:Nat→Value→Prop} {St:Nat→Heap→Prop} {Ok:Heap→Prop}
end
section
variable {prog:Program} {w:World} {A:Around} {E:Value→Shared→Prop} {s:Shared}
end
end L2
namespace L2
open PySem PySem.Spec PySem.W PyProof.Rows
section
variable {X:Cx}
def rCopyD:List V→Hp→VK→Prop:=fun xs H Q=>∃ (a:Addr) (kvs:List (Key × V)),xs=[.ref a]∧Rd H a (.dK kvs)∧∀ p,H p=none→Q (.ref p) (upd H p (.dK kvs))
theorem call_copyD:CallR X (.type "dict") rCopyD:=by
 intro pins s σ H xs us Q I r h
 obtain ⟨a,kvs,e1,d,q⟩:=h
 subst e1
 obtain ⟨u,e2,ru⟩:=vals1 r
 subst e2
 obtain rfl:u=Value.ref a:=ru
 exact d_copyOf I d fun p s' hp I'=>⟨.ref p,_,I',rfl,q p hp⟩
theorem strsAre_of:∀ {ss:List Str} {us:List Value},Vals (ss.map V.str) us→StrsAre us ss
 | [],_,.nil=>.nil
 | _ :: _,_,.cons ⟨t,e⟩ r=>by subst e; exact .cons _ t (strsAre_of r)
theorem vals_strs:∀ {us:List Value} {ss:List Str},StrsAre us ss→Vals (ss.map V.str) us
 | _,_,.nil=>.nil
 | _,_,.cons y t h=>.cons ⟨t,rfl⟩ (vals_strs h)
theorem keys_vals {P:Program} {w:World}:∀ {ks:List (Key × V)} {us:List (Key × Value)} {as:List Value},KV ks us→as.length=us.length→(∀ (j:Nat) (v:Value),as[j]?=some v→∃ k x,us[j]?=some (k,x)∧(mixKind P w).is k v=true)→Vals (ks.map fun kv=>kV kv.1) as:=by
 intro ks us as kv
 induction kv generalizing as with
 | nil=>intro l _; cases as with
  | nil=>exact .nil
  | cons=>cases l
 | cons p t ih =>
  intro l hh
  cases as with
  | nil=>cases l
  | cons v as =>
   refine .cons ?_ (ih (by simpa using l) fun j w e=>hh (j + 1) w (by simpa using e))
   obtain ⟨k,x,e,m⟩:=hh 0 v rfl
   have e':=Option.some.inj e
   show RelV (kV _) v
   rw [p.1,e']
   exact kV_of m
def rSortS (K:PySem.W.Frag):List V→Hp→VK→Prop:=fun xs H Q=>∃ (l:Addr) (ss:List Str),xs=[.ref l]∧(SqL K H l (ss.map V.str) ∨ ∃ kvs,Rd H l (.dK kvs)∧kvs.map (fun kv=>kV kv.1)=ss.map V.str)∧ss.length < 64 ∧
 ∀ (p:Addr) (out:List Str),H p=none→out.Perm ss→sortedS out=true→Q (.ref p) (upd H p (.lst (out.map V.str)))
theorem call_sortS (hc:X.calm=true):CallR X (.builtin "sorted") (rSortS X.K):=by
 intro pins s σ H xs us Q I r h
 obtain ⟨l,ss,e1,hS,h64,q⟩:=h
 subst e1
 obtain ⟨u,e2,ru⟩:=vals1 r
 subst e2
 obtain rfl:u=Value.ref l:=ru
 rcases hS with hS | ⟨kvs,hd,hks⟩
 ·obtain ⟨vs,rv,pl,hz⟩:=I.list hS
  have hlen:vs.length=ss.length:=by rw [← rv.length,List.length_map]
  refine sorted_strs pl.isList (strsAre_of rv) (by omega) fun out ss' a1 a2 a3=>?_
  obtain ⟨e,he⟩:=sortedAll_at s.heap vs out
  refine ⟨.ref (s.heap.objs.size + 1),_,I.laid (a:=s.heap.objs.size + 1) (o:=.lst (ss'.map V.str)) (t':=s.toks) (fun _ _=>sortedAll_old) (Nat.le_succ _) ⟨?_,out.toList,e,vals_strs a1,by simpa using he⟩,rfl,q _ ss' (I.hok.fresh (Nat.le_succ _)) a2 a3⟩
  rw [List.length_map,a2.length_eq,sizeLine_eq]; omega
 ·obtain ⟨z,hm,ws,rel,dd⟩:=dk_rd I.hok hd
  obtain ⟨ep,da⟩:=dictAt_of dd
  have kl:ss.length=kvs.length:=by rw [← List.length_map (f:=V.str),← hks,List.length_map]
  refine Calls.call_function_entry kind_sorted plain_sorted entry_sorted (args_sorted1 _) ?_
  unfold Builtin.«sorted»
  refine wpAny_bind (m:=checkCount "sorted" 1 1 _) (wpAny_pure ?_)
  refine wpAny_bind (kdu_collect (A:=X.A.in1) (kdl_dict (knd:=mixKind X.prog X.w) (kvs:=ws) (ep:=ep) hm) (I.ok.hd hc) da (by rw [← rel.length]; exact z) fun h' tk acc hk hacc=>?_)
  have rv:Vals (ss.map V.str) acc.toList:=by
   rw [← hks]
   exact keys_vals rel (by rw [Array.length_toList]; exact hacc.1) fun j v e=>hacc.2 j v (by rw [← Array.getElem?_toList]; exact e)
  have hlen:acc.toList.length=ss.length:=by rw [← rv.length,List.length_map]
  refine wpAny_bind (wpAny_newList ?_ (by rw [hlen,sizeLine_eq]; omega))
  have hoL:(h'.push (seqObj "list" acc.toList.toArray 0)).get? h'.objs.size=some (seqObj "list" acc.toList.toArray 0):=Heap.get?_push_size _ rfl
  have I':Inv X pins σ H { s with heap:=h',toks:=tk }:=I.kept hk
  have hS:=strsAre_of rv
  refine wpAny_bind (wpAny_holding (wpAny_call_entry slot_list_sort ⟨_,hoL,rfl⟩ entry_list_sort (list_sort_treeK strKind_oneLt hoL hS.keysOf (fun v₁ v₂ rest e=>keyKind_strs (by rw [← e]; exact hS)) (by rw [hlen]; exact h64) fun st' hp hs=>⟨_,rfl,?_⟩) (args_list_sort _)))
  obtain ⟨ss',b1,b2,b3⟩:=sorted_out_str hS hp hs
  obtain ⟨e,he⟩:=sortedHeap_at (out:=(arrOf st').map (·.2)) hoL
  refine wpAny_pure ⟨_,rfl,.ref h'.objs.size,_,I'.laid (a:=h'.objs.size) (o:=.lst (ss'.map V.str)) (t':=tk) (fun b u eb=>?_) (Nat.le_refl _) ⟨?_,((arrOf st').map (·.2)).toList,e,vals_strs b1,by rw [Array.toArray_toList]; exact he⟩,rfl,q _ ss' (I'.hok.fresh (Nat.le_refl _)) b2 b3⟩
  ·have hlt:b < h'.objs.size:=Heap.lt_size eb
   rw [sortedHeap_old (Nat.ne_of_lt hlt) (by rw [size_push']; exact Nat.lt_succ_of_lt hlt)]
   exact Heap.get?_push_of_some _ eb
  ·rw [List.length_map,b2.length_eq,sizeLine_eq]; omega
end
end L2
namespace DV
open PySem PySem.W PyProof.Rows
theorem lexA {a c:Int} {m k:Str} (h:¬ a=c):lexLt (a,m) (c,k)=decide (a < c):=by unfold lexLt; rw [if_neg h]
theorem lexB {a c:Int} {m k:Str} (h:a=c) (e:¬ m=k):lexLt (a,m) (c,k)=decide (m.cps.toList < k.cps.toList):=by unfold lexLt; rw [if_pos h,if_neg e]
section
variable {prog:Program} {w:World} {A:Around} {E:Value→Shared→Prop} {s:Shared} {Q:Value→Shared→Prop}
end
open PySem.SeqAt
open PySem.AutoSeq1 (wpAny_loadPart')
open PySem.MeetsSeq PySem.MeetsSeq2 PySem.MeetsSeq3
section
variable {prog:Program} {w:World} {A:Around} {E:Value→Shared→Prop} {s:Shared}
end
end DV
namespace DV
open PySem
theorem lexAnti {p q:Int × Str} (h1:lexLt p q=false) (h2:lexLt q p=false):p=q:=by
 obtain ⟨a,m⟩:=p
 obtain ⟨c,k⟩:=q
 by_cases h:a=c
 ·by_cases e:m=k
  ·rw [h,e]
  ·rw [lexB h e] at h1
   rw [lexB h.symm (fun z=>e z.symm)] at h2
   exfalso
   apply e
   have e1:m.cps.toList=k.cps.toList:=List.le_antisymm (List.not_lt.mp (of_decide_eq_false h2)) (List.not_lt.mp (of_decide_eq_false h1))
   have e2:m.cps=k.cps:=Array.toList_inj.mp e1
   cases m; cases k; simp_all
 ·rw [lexA h] at h1
  rw [lexA (fun z=>h z.symm)] at h2
  have:=of_decide_eq_false h1
  have:=of_decide_eq_false h2
  omega
end DV
namespace L2
open PySem PySem.Spec PySem.W PyProof.Rows
section
variable {X:Cx}
def rMulS:R2:=fun x y H Q=>∃ (z:Str) (n:Int),x=.str z∧y=.int n∧1 ≤ n∧n ≤ 1000∧z.length ≤ 1000∧∀ r:Str,r.length=z.length * n.toNat→Q (.str r) H
theorem rep_len (x:Array Nat):∀ (n:Nat) (acc:Array Nat),((List.replicate n x).foldl (· ++ ·) acc).size=acc.size + n * x.size
 | 0,acc=>by simp
 | n + 1,acc=>by
  rw [List.replicate_succ,List.foldl_cons,rep_len x n,Array.size_append,Nat.succ_mul]
  omega
theorem op_mulS:OpR X (binaryOp .Mult) rMulS:=by
 intro pins s σ H x y v u Q I rx ry h
 obtain ⟨z,n,e1,e2,h1,h2,h3,k⟩:=h
 subst e1 e2
 obtain ⟨t,rfl⟩:=rx
 obtain ⟨t2,rfl⟩:=ry
 have hm:z.length * n.toNat ≤ 1000 * 1000:=Nat.mul_le_mul h3 (by omega)
 refine P.mul_str ?_ (fun _ _=>?_) (fun _ _=>?_) ?_
 ·have a1:¬ n < -(2 ^ 63:Int):=by omega
  have a2:¬ n ≥ 2 ^ 63:=by omega
  rw [decide_eq_false a1,decide_eq_false a2]; rfl
 ·have q:(9223372036854775:Int) ≤ (2 ^ 63 - 1) / n:=by
   rw [Int.le_ediv_iff_mul_le (by omega)]
   omega
  omega
 ·show decide (z.length * n.toNat > sizeLine)=false
  exact decide_eq_false (by rw [sizeLine_eq]; omega)
 ·rw [if_neg (by omega)]
  by_cases c:(n == 1 || z.length == 0)=true
  ·rw [if_pos c]
   refine ⟨.str z,H,I,⟨t,rfl⟩,k z ?_⟩
   rw [Bool.or_eq_true] at c
   rcases c with c | c
   ·have:n=1:=by simpa using c
    subst this
    simp
   ·have:z.length=0:=by simpa using c
    rw [this]; simp
  ·rw [if_neg c]
   refine ⟨?_,.str _,H,I.tok _,⟨_,rfl⟩,k _ ?_⟩
   ·show (List.foldl (fun x1 x2=>x1 ++ x2) #[] (List.replicate n.toNat z.cps)).size ≤ _
    rw [rep_len]
    show 0 + n.toNat * z.cps.size ≤ sizeLine
    have e:z.cps.size * n.toNat ≤ 1000 * 1000:=hm
    rw [Nat.mul_comm] at e
    rw [sizeLine_eq]
    omega
   ·show (List.foldl (fun x1 x2=>x1 ++ x2) #[] (List.replicate n.toNat z.cps)).size=_
    rw [rep_len]
    show 0 + n.toNat * z.cps.size=z.cps.size * n.toNat
    rw [Nat.zero_add,Nat.mul_comm]
end
end L2
namespace B04
open PySem L2 S2
theorem perm_unique {α:Type} {le:α→α→Prop} (anti:∀ a b,le a b→le b a→a=b):∀ {l1 l2:List α},l1.Perm l2→l1.Pairwise le→l2.Pairwise le→l1=l2
 | [],l2,p,_,_=>(List.nil_perm.mp p).symm
 | a :: t1,l2,p,h1,h2=>by
  cases l2 with
  | nil=>exact absurd (List.perm_nil.mp p) (by simp)
  | cons b t2 =>
   rw [List.pairwise_cons] at h1 h2
   have e:a=b:=by
    rcases List.mem_cons.mp (p.mem_iff.mp (List.mem_cons_self (a:=a) (l:=t1))) with e | e
    ·exact e
    ·rcases List.mem_cons.mp (p.mem_iff.mpr (List.mem_cons_self (a:=b) (l:=t2))) with z | z
     ·exact z.symm
     ·exact anti _ _ (h1.1 b z) (h2.1 a e)
   subst e
   rw [perm_unique anti ((List.perm_cons a).mp p) h1.2 h2.2]
theorem sum_perm {α:Type} {f:α→Int} {l1 l2:List α} (p:l1.Perm l2):(l1.map f).sum=(l2.map f).sum:=by
 induction p with
 | nil=>rfl
 | cons x _ ih=>simp only [List.map_cons,List.sum_cons,ih]
 | swap x y l=>simp only [List.map_cons,List.sum_cons]; omega
 | trans _ _ h1 h2=>exact h1.trans h2
abbrev keyOf (R:Int) (ws:List (Str × Int)) (x:Str):Int × Str:=(-(restOf R ws x),x)
abbrev InTurn (R:Int) (ws:List (Str × Int)) (out:List Str):Prop:=out.Pairwise (fun x y=>DV.lexLt (keyOf R ws y) (keyOf R ws x)=false)
theorem turn_unique {R:Int} {ws:List (Str × Int)} {o1 o2:List Str} (p:o1.Perm o2) (h1:InTurn R ws o1) (h2:InTurn R ws o2):o1=o2 :=
 perm_unique (fun a b e1 e2=>congrArg Prod.snd (DV.lexAnti e2 e1)) p h1 h2
theorem ones_of {out:List Str} (nd:out.Nodup) {n:Nat} (hn:n ≤ out.length):(out.map fun x=>if x ∈ out.take n then (1:Int) else 0).sum=n:=by
 have h1:∀ l:List Str,(∀ x ∈ l,x ∈ out.take n)→(l.map fun x=>if x ∈ out.take n then (1:Int) else 0).sum=l.length:=by
  intro l
  induction l with
  | nil=>intro _; rfl
  | cons a l ih =>
   intro h
   rw [List.map_cons,List.sum_cons,ih fun x hx=>h x (List.mem_cons_of_mem _ hx),if_pos (h a List.mem_cons_self),List.length_cons]
   omega
 have h0:∀ l:List Str,(∀ x ∈ l,x ∉ out.take n)→(l.map fun x=>if x ∈ out.take n then (1:Int) else 0).sum=0:=by
  intro l
  induction l with
  | nil=>intro _; rfl
  | cons a l ih =>
   intro h
   rw [List.map_cons,List.sum_cons,ih fun x hx=>h x (List.mem_cons_of_mem _ hx),if_neg (h a List.mem_cons_self)]
   rfl
 have nd':(out.take n ++ out.drop n).Nodup:=by rw [List.take_append_drop]; exact nd
 have hdis:=(List.pairwise_append.mp nd').2.2
 have a1:=h1 (out.take n) fun _ h=>h
 have a2:=h0 (out.drop n) fun x hx hx2=>hdis x hx2 x hx rfl
 have e:(out.map fun x=>if x ∈ out.take n then (1:Int) else 0).sum=((out.take n).map fun x=>if x ∈ out.take n then (1:Int) else 0).sum + ((out.drop n).map fun x=>if x ∈ out.take n then (1:Int) else 0).sum:=by
  rw [← List.sum_append,← List.map_append,List.take_append_drop]
 rw [e,a1,a2,List.length_take,Nat.min_eq_left hn]
 omega
theorem dealt_sum {R:Int} {ws:List (Str × Int)} (nd:(ws.map (·.1)).Nodup) (hw:0 < DV.whole ws) (hne:ws ≠ []) {out:List Str} (p:out.Perm (ws.map (·.1))):((dealt R ws (out.take (leftOf R ws).toNat)).map (·.2)).sum=R:=by
 obtain ⟨l0,l1⟩:=DV.left_ok (R:=R) hw hne
 have hlen:out.length=ws.length:=by rw [p.length_eq,List.length_map]
 have l0':0 ≤ leftOf R ws:=l0
 have l1':leftOf R ws < ws.length:=l1
 have o1:=ones_of (p.nodup_iff.mpr nd) (n:=(leftOf R ws).toNat) (by omega)
 rw [sum_perm p,List.map_map] at o1
 unfold dealt
 rw [List.map_map]
 have add:∀ (f g:Str × Int→Int) (l:List (Str × Int)),(l.map fun p=>f p + g p).sum=(l.map f).sum + (l.map g).sum:=by
  intro f g l
  induction l with
  | nil=>rfl
  | cons a l ih=>simp only [List.map_cons,List.sum_cons,ih]; omega
 have e:=add (fun p=>DV.part R (DV.whole ws) p.2) (fun p=>if p.1 ∈ out.take (leftOf R ws).toNat then 1 else 0) ws
 have e2:(ws.map ((fun x:Str × Int=>x.2) ∘ fun p=>(p.1,DV.part R (DV.whole ws) p.2 + if p.1 ∈ out.take (leftOf R ws).toNat then 1 else 0))).sum=R:=by
  refine Eq.trans e ?_
  have o2:(ws.map fun p=>if p.1 ∈ out.take (leftOf R ws).toNat then (1:Int) else 0).sum=((leftOf R ws).toNat:Int):=o1
  rw [o2]
  have:leftOf R ws=R - (ws.map fun p=>DV.part R (DV.whole ws) p.2).sum:=rfl
  omega
 exact e2
theorem pw_rising:∀ (p:Str) (l:List Str),PyProof.Rows.risingS p l=true→(p :: l).Pairwise (fun a b=>PySem.Spec.ltCps b.cps.toList a.cps.toList=false)
 | p,[],_=>by simp
 | p,x :: r,h=>by
  have h':(!PySem.Spec.ltCps x.cps.toList p.cps.toList && PyProof.Rows.risingS x r)=true:=h
  rw [Bool.and_eq_true] at h'
  have h1:PySem.Spec.ltCps x.cps.toList p.cps.toList=false:=by simpa using h'.1
  have ih:=pw_rising x r h'.2
  refine List.pairwise_cons.mpr ⟨fun b hb=>?_,ih⟩
  rcases List.mem_cons.mp hb with e | e
  ·rw [e]; exact h1
  ·have h3:=(List.pairwise_cons.mp ih).1 b e
   rw [PyProof.Rows.ltCps_eq] at h1 h3 ⊢
   refine decide_eq_false fun z=>?_
   exact (List.not_lt.mpr (List.le_trans (List.not_lt.mp (of_decide_eq_false h1)) (List.not_lt.mp (of_decide_eq_false h3)))) z
theorem sortedS_unique {l1 l2:List Str} (p:l1.Perm l2) (h1:PyProof.Rows.sortedS l1=true) (h2:PyProof.Rows.sortedS l2=true):l1=l2:=by
 have go:∀ l:List Str,PyProof.Rows.sortedS l=true→l.Pairwise (fun a b=>PySem.Spec.ltCps b.cps.toList a.cps.toList=false):=fun l h=>by
  cases l with
  | nil=>exact .nil
  | cons x r=>exact pw_rising x r h
 refine perm_unique (fun a b e1 e2=>?_) p (go _ h1) (go _ h2)
 rw [PyProof.Rows.ltCps_eq] at e1 e2
 have e:a.cps.toList=b.cps.toList:=List.le_antisymm (List.not_lt.mp (of_decide_eq_false e1)) (List.not_lt.mp (of_decide_eq_false e2))
 have e3:a.cps=b.cps:=Array.toList_inj.mp e
 cases a; cases b; simp_all
abbrev alpha:Str:="abcdefghijklmnopqrstuvwxyz"
theorem alpha_at {i:Int} (h0:0 ≤ i) (h1:i < 26):atI alpha.cps.toList i=some (97 + i.toNat):=by
 obtain ⟨k,rfl,hk⟩:=nat_of (z:=i) (n:=26) h0 h1
 have:=(by decide +kernel:∀ k:Fin 26,alpha.cps.toList[k.val]?=some (97 + k.val)) ⟨k,hk⟩
 exact atI_nat this
theorem alpha_len:alpha.length=26:=by decide +kernel
abbrev twoOf (c:Int) (j:Nat):Str:=⟨#[97 + (((j:Int) + c) % 26).toNat]⟩ ++ ⟨#[97 + ((j:Int) / 26 + c / 26 % 20).toNat]⟩
theorem names_nodup {c:Int} {nms:List Str} (h:∀ (j:Nat) (x:Str),nms[j]?=some x→∃ r:Str,x=twoOf c j ++ r):nms.Nodup:=by
 refine List.pairwise_iff_getElem.mpr fun i j hi hj hij e=>?_
 obtain ⟨r,e1⟩:=h i _ (List.getElem?_eq_getElem hi)
 obtain ⟨r',e2⟩:=h j _ (List.getElem?_eq_getElem hj)
 rw [e1,e2] at e
 have q:[97 + (((i:Int) + c) % 26).toNat,97 + ((i:Int) / 26 + c / 26 % 20).toNat] ++ r.cps.toList=[97 + (((j:Int) + c) % 26).toNat,97 + ((j:Int) / 26 + c / 26 % 20).toNat] ++ r'.cps.toList:=by
  have:=congrArg (fun s:Str=>s.cps.toList) e
  have a:∀ (k:Nat) (r:Str),(twoOf c k ++ r).cps.toList=[97 + (((k:Int) + c) % 26).toNat,97 + ((k:Int) / 26 + c / 26 % 20).toNat] ++ r.cps.toList:=fun k r=>by
   show ((#[97 + (((k:Int) + c) % 26).toNat] ++ #[97 + ((k:Int) / 26 + c / 26 % 20).toNat]) ++ r.cps).toList=_
   rw [Array.toList_append]
   rfl
  rw [← a,← a]
  exact this
 injection q with q1 q2
 injection q2 with q3 _
 omega
abbrev Itm:=Str × Int × Int
abbrev wI (x:Itm):Int:=x.2.1
abbrev cI (x:Itm):Int:=x.2.2
def smI (g:Itm→Int) (l:List Itm):Int:=(l.map g).sum
theorem smI_cons (g:Itm→Int) (x:Itm) (l:List Itm):smI g (x :: l)=g x + smI g l:=by unfold smI; rw [List.map_cons,List.sum_cons]
theorem smI_nil (g:Itm→Int):smI g []=0:=rfl
theorem smI_split (g:Itm→Int) (f:Itm→Bool):∀ l:List Itm,smI g l=smI g (l.filter f) + smI g (l.filter fun x=>!f x)
 | []=>rfl
 | x :: l=>by
  have ih:=smI_split g f l
  cases h:f x
  ·rw [List.filter_cons_of_neg (by simp [h]),List.filter_cons_of_pos (by simp [h]),smI_cons,smI_cons]; omega
  ·rw [List.filter_cons_of_pos h,List.filter_cons_of_neg (by simp [h]),smI_cons,smI_cons]; omega
theorem smI_nonneg {g:Itm→Int}:∀ {l:List Itm},(∀ x ∈ l,0 ≤ g x)→0 ≤ smI g l
 | [],_=>Int.le_refl 0
 | x :: l,h=>by
  have:=smI_nonneg (g:=g) (l:=l) fun y hy=>h y (List.mem_cons_of_mem _ hy)
  have:=h x List.mem_cons_self
  rw [smI_cons]; omega
theorem smI_pos {g:Itm→Int} {l:List Itm} (hne:l ≠ []) (h:∀ x ∈ l,0 < g x):0 < smI g l:=by
 cases l with
 | nil=>exact absurd rfl hne
 | cons x l =>
  have:=smI_nonneg (g:=g) (l:=l) fun y hy=>Int.le_of_lt (h y (List.mem_cons_of_mem _ hy))
  have:=h x List.mem_cons_self
  rw [smI_cons]; omega
theorem smI_le {g h:Itm→Int}:∀ {l:List Itm},(∀ x ∈ l,g x ≤ h x)→smI g l ≤ smI h l
 | [],_=>Int.le_refl _
 | x :: l,e=>by
  have:=smI_le (g:=g) (h:=h) (l:=l) fun y hy=>e y (List.mem_cons_of_mem _ hy)
  have:=e x List.mem_cons_self
  rw [smI_cons,smI_cons]; omega
theorem smI_eq {g h:Itm→Int}:∀ {l:List Itm},(∀ x ∈ l,g x=h x)→smI g l=smI h l
 | [],_=>rfl
 | x :: l,e=>by
  have:=smI_eq (g:=g) (h:=h) (l:=l) fun y hy=>e y (List.mem_cons_of_mem _ hy)
  have:=e x List.mem_cons_self
  rw [smI_cons,smI_cons]; omega
theorem smI_mul (g:Itm→Int) (k:Int):∀ l:List Itm,smI (fun x=>g x * k) l=smI g l * k
 | []=>by rw [smI_nil,smI_nil,Int.zero_mul]
 | x :: l=>by rw [smI_cons,smI_cons,smI_mul g k l,Int.add_mul]
def fullB (p q:Int) (x:Itm):Bool:=decide (cI x * q ≤ wI x * p)
structure Lev (S:List Itm) (R:Int) (left:Int) (f:Itm→Bool):Prop where
 ne:S.filter f ≠ []
 eq:left=R - smI cI S + smI cI (S.filter f)
 ge:0 ≤ left
 out:∀ x ∈ S,f x=false→cI x * smI wI (S.filter f) ≤ wI x * left
theorem memF {f:Itm→Bool} {l:List Itm} {x:Itm} (h:x ∈ l.filter f):x ∈ l:=(List.mem_filter.mp h).1
section
variable {S:List Itm} {R:Int}
theorem Lev.start (hne:S ≠ []) (hR:0 ≤ R):Lev S R R (fun _=>true):=by
 have e:S.filter (fun _=>true)=S:=List.filter_eq_self.mpr fun _ _=>rfl
 exact ⟨by rw [e]; exact hne,by rw [e]; omega,hR,fun x _ h=>nomatch h⟩
theorem Lev.wpos (L:Lev S R left f) (hw:∀ x ∈ S,0 < wI x):0 < smI wI (S.filter f):=smI_pos L.ne fun x hx=>hw x (memF hx)
theorem Lev.next {left:Int} {f:Itm→Bool} (hw:∀ x ∈ S,0 < wI x) (hc:∀ x ∈ S,0 ≤ cI x) (hC:R < smI cI S) (L:Lev S R left f) :
  Lev S R (left - smI cI (S.filter f) + smI cI ((S.filter f).filter fun x=>!fullB left (smI wI (S.filter f)) x)) (fun x=>f x && !fullB left (smI wI (S.filter f)) x):=by
 obtain ⟨ne,eq,ge,out⟩:=L
 have hW:0 < smI wI (S.filter f):=smI_pos ne fun x hx=>hw x (memF hx)
 generalize hWd:smI wI (S.filter f)=W at *
 have eF:S.filter (fun x=>f x && !fullB left W x)=(S.filter f).filter fun x=>!fullB left W x:=by
  rw [List.filter_filter]
  congr 1
  funext x
  exact Bool.and_comm _ _
 have hsC:=smI_split cI (fullB left W) (S.filter f)
 have hsW:=smI_split wI (fullB left W) (S.filter f)
 rw [hWd] at hsW
 -- the full ones: their caps times W are at most their weights times left
 have hfull:smI cI ((S.filter f).filter (fullB left W)) * W ≤ smI wI ((S.filter f).filter (fullB left W)) * left:=by
  rw [← smI_mul,← smI_mul]
  refine smI_le fun x hx=>?_
  exact of_decide_eq_true (List.mem_filter.mp hx).2
 have hWo:0 ≤ smI wI ((S.filter f).filter fun x=>!fullB left W x):=smI_nonneg fun x hx=>Int.le_of_lt (hw x (memF (memF hx)))
 have hWf:0 ≤ smI wI ((S.filter f).filter (fullB left W)):=smI_nonneg fun x hx=>Int.le_of_lt (hw x (memF (memF hx)))
 generalize hA:smI cI ((S.filter f).filter (fullB left W))=A at *
 generalize hB:smI cI ((S.filter f).filter fun x=>!fullB left W x)=B at *
 generalize hD:smI wI ((S.filter f).filter (fullB left W))=D at *
 generalize hE:smI wI ((S.filter f).filter fun x=>!fullB left W x)=E at *
 -- A W <= D left <= W left,so A <= left
 have hDW:D * left ≤ W * left:=Int.mul_le_mul_of_nonneg_right (by omega) ge
 have hAl:A ≤ left:=by
  have:A * W ≤ left * W:=by rw [Int.mul_comm left W]; omega
  exact Int.le_of_mul_le_mul_right this hW
 refine ⟨fun z=>?_,by rw [eF,hB]; omega,by omega,fun x hx hf=>?_⟩
 ·rw [eF] at z
  rw [z,smI_nil] at hB hE
  -- all are full: the room would do
  have:A ≤ left:=hAl
  omega
 ·rw [eF,hE]
  have hup:left * E ≤ (left - smI cI (S.filter f) + B) * W:=by
   have e1:left - smI cI (S.filter f) + B=left - A:=by omega
   rw [e1,Int.sub_mul]
   have e2:left * W=left * D + left * E:=by rw [← Int.mul_add]; congr 1
   have e3:left * D=D * left:=Int.mul_comm _ _
   omega
  have hwx:=hw x hx
  have hcx:=hc x hx
  have low:cI x * W ≤ wI x * left:=by
   cases h1:f x with
   | false=>exact out x hx h1
   | true =>
    rw [h1,Bool.true_and] at hf
    have:fullB left W x=true:=by simpa using hf
    exact of_decide_eq_true this
  generalize (left - smI cI (S.filter f) + B)=l' at *
  have s1:cI x * W * E ≤ wI x * left * E:=Int.mul_le_mul_of_nonneg_right low hWo
  have s2:wI x * (left * E) ≤ wI x * (l' * W):=Int.mul_le_mul_of_nonneg_left hup (Int.le_of_lt hwx)
  have s3:(cI x * E) * W ≤ (wI x * l') * W:=by
   have a1:(cI x * E) * W=cI x * W * E:=by rw [Int.mul_assoc,Int.mul_comm E W,← Int.mul_assoc]
   have a2:wI x * left * E=wI x * (left * E):=Int.mul_assoc _ _ _
   have a3:(wI x * l') * W=wI x * (l' * W):=Int.mul_assoc _ _ _
   omega
  exact Int.le_of_mul_le_mul_right s3 hW
end
theorem lev_sum {S:List Itm} {R left:Int} {f:Itm→Bool} (hw:∀ x ∈ S,0 < wI x) (L:Lev S R left f) (hopen:∀ x ∈ S,f x=true→fullB left (smI wI (S.filter f)) x=false) {p q:Int} (hq:0 < q) (hpq:p * smI wI (S.filter f)=left * q) :
  (∀ x ∈ S,fullB p q x=!f x)∧smI (fun x=>min (cI x * q) (wI x * p)) S=R * q:=by
 have hW:=L.wpos hw
 have key:∀ x ∈ S,fullB p q x=!f x:=fun x hx=>by
  have hout:=L.out x hx
  generalize smI wI (S.filter f)=W at *
  have e1:∀ c w:Int,(c * q ≤ w * p ↔ c * W ≤ w * left):=fun c w=>by
   have a1:(c * q) * W=(c * W) * q:=by rw [Int.mul_assoc,Int.mul_comm q W,← Int.mul_assoc]
   have a2:(w * p) * W=(w * left) * q:=by rw [Int.mul_assoc,hpq,Int.mul_assoc]
   constructor
   ·intro h
    have:=Int.mul_le_mul_of_nonneg_right h (Int.le_of_lt hW)
    rw [a1,a2] at this
    exact Int.le_of_mul_le_mul_right this hq
   ·intro h
    have:=Int.mul_le_mul_of_nonneg_right h (Int.le_of_lt hq)
    rw [← a1,← a2] at this
    exact Int.le_of_mul_le_mul_right this hW
  cases hf:f x with
  | false=>exact decide_eq_true ((e1 _ _).mpr (hout hf))
  | true=>exact decide_eq_false fun z=>of_decide_eq_false (hopen x hx hf) ((e1 _ _).mp z)
 refine ⟨key,?_⟩
 rw [smI_split _ f S]
 have h1:smI (fun x=>min (cI x * q) (wI x * p)) (S.filter f)=smI (fun x=>wI x * p) (S.filter f):=smI_eq fun x hx=>by
  have:=key x (memF hx)
  rw [(List.mem_filter.mp hx).2] at this
  have:=of_decide_eq_false this
  show min (cI x * q) (wI x * p)=wI x * p
  omega
 have h2:smI (fun x=>min (cI x * q) (wI x * p)) (S.filter fun x=>!f x)=smI (fun x=>cI x * q) (S.filter fun x=>!f x):=smI_eq fun x hx=>by
  have:=key x (memF hx)
  rw [(List.mem_filter.mp hx).2] at this
  have:=of_decide_eq_true this
  show min (cI x * q) (wI x * p)=cI x * q
  omega
 rw [h1,h2,smI_mul,smI_mul,Int.mul_comm _ p,hpq]
 have e:=L.eq
 have s:=smI_split cI f S
 rw [← Int.add_mul]
 congr 1
 omega
theorem gcd_level {a b:Nat} (hb:0 < b):0 < b / Nat.gcd a b∧Nat.gcd (a / Nat.gcd a b) (b / Nat.gcd a b)=1∧((a / Nat.gcd a b:Nat):Int) * (b:Int)=(a:Int) * ((b / Nat.gcd a b:Nat):Int):=by
 have hg:0 < Nat.gcd a b:=Nat.gcd_pos_of_pos_right _ hb
 obtain ⟨x,hx⟩:=Nat.gcd_dvd_left a b
 obtain ⟨y,hy⟩:=Nat.gcd_dvd_right a b
 refine ⟨Nat.div_pos (Nat.le_of_dvd hb (Nat.gcd_dvd_right a b)) hg,?_,?_⟩
 ·rw [Nat.gcd_div (Nat.gcd_dvd_left a b) (Nat.gcd_dvd_right a b),Nat.div_self hg]
 ·generalize Nat.gcd a b=g at *
  have h1:a / g=x:=by rw [hx]; exact Nat.mul_div_cancel_left _ hg
  have h2:b / g=y:=by rw [hy]; exact Nat.mul_div_cancel_left _ hg
  rw [h1,h2]
  have:x * b=a * y:=by rw [hx,hy,← Nat.mul_assoc,Nat.mul_comm x g]
  exact_mod_cast this
theorem smI_lt {g h:Itm→Int}:∀ {l:List Itm},(∀ x ∈ l,g x ≤ h x)→(∃ x ∈ l,g x < h x)→smI g l < smI h l
 | [],_,⟨x,hx,_⟩=>nomatch hx
 | y :: l,e,⟨x,hx,hlt⟩=>by
  have hy:=e y List.mem_cons_self
  have hl:=smI_le (g:=g) (h:=h) (l:=l) fun z hz=>e z (List.mem_cons_of_mem _ hz)
  rw [smI_cons,smI_cons]
  rcases List.mem_cons.mp hx with z | z
  ·rw [← z]
   rw [← z] at hy
   omega
  ·have:=smI_lt (g:=g) (h:=h) (l:=l) (fun z hz=>e z (List.mem_cons_of_mem _ hz)) ⟨x,z,hlt⟩
   omega
theorem lev_less {S:List Itm} {R:Int} {a b p q:Nat} (hw:∀ x ∈ S,0 < wI x) (hb:0 < b) (hq:0 < q) (hC:R < smI cI S)
  (h1:smI (fun x=>min (cI x * b) (wI x * a)) S=R * b) (h2:smI (fun x=>min (cI x * q) (wI x * p)) S=R * q) (hlt:a * q < p * b):False:=by
 have hlt':(a:Int) * q < (p:Int) * b:=by exact_mod_cast hlt
 have hb':(0:Int) < b:=by omega
 have hq':(0:Int) < q:=by omega
 -- each
 have each:∀ x ∈ S,min (cI x * (b:Int)) (wI x * (a:Int)) * (q:Int) ≤ min (cI x * (q:Int)) (wI x * (p:Int)) * (b:Int)∧(wI x * (a:Int) < cI x * (b:Int)→min (cI x * (b:Int)) (wI x * (a:Int)) * (q:Int) < min (cI x * (q:Int)) (wI x * (p:Int)) * (b:Int)):=fun x hx=>by
  have hwx:=hw x hx
  have e1:wI x * (a:Int) * q < wI x * (p:Int) * b:=by
   rw [Int.mul_assoc,Int.mul_assoc]
   exact Int.mul_lt_mul_of_pos_left hlt' hwx
  have e2:cI x * (b:Int) * q=cI x * (q:Int) * b:=by rw [Int.mul_assoc,Int.mul_comm (b:Int),← Int.mul_assoc]
  have m1:∀ u v k:Int,0 < k→min u v * k=min (u * k) (v * k):=fun u v k hk=>by
   by_cases z:u ≤ v
   ·rw [Int.min_eq_left z,Int.min_eq_left (Int.mul_le_mul_of_nonneg_right z (Int.le_of_lt hk))]
   ·rw [Int.min_eq_right (by omega),Int.min_eq_right (Int.mul_le_mul_of_nonneg_right (by omega) (Int.le_of_lt hk))]
  rw [m1 _ _ _ hq',m1 _ _ _ hb',e2]
  refine ⟨by omega,fun z=>?_⟩
  have:=Int.mul_lt_mul_of_pos_right z hq'
  omega
 by_cases hall:∀ x ∈ S,cI x * (b:Int) ≤ wI x * (a:Int)
 ·have:smI (fun x=>min (cI x * (b:Int)) (wI x * (a:Int))) S=smI (fun x=>cI x * (b:Int)) S:=smI_eq fun x hx=>Int.min_eq_left (hall x hx)
  rw [this,smI_mul] at h1
  have:=Int.eq_of_mul_eq_mul_right (by omega) h1
  omega
 ·have hex:∃ x ∈ S,wI x * (a:Int) < cI x * (b:Int):=by
   by_cases z:∃ x ∈ S,wI x * (a:Int) < cI x * (b:Int)
   ·exact z
   ·exact absurd (fun x hx=>by
     by_cases y:cI x * (b:Int) ≤ wI x * (a:Int)
     ·exact y
     ·exact absurd ⟨x,hx,by omega⟩ z) hall
  obtain ⟨x,hx,hlx⟩:=hex
  have:=smI_lt (l:=S) (g:=fun x=>min (cI x * (b:Int)) (wI x * (a:Int)) * (q:Int)) (h:=fun x=>min (cI x * (q:Int)) (wI x * (p:Int)) * (b:Int)) (fun x hx=>(each x hx).1) ⟨x,hx,(each x hx).2 hlx⟩
  rw [smI_mul (fun x=>min (cI x * (b:Int)) (wI x * (a:Int))),smI_mul (fun x=>min (cI x * (q:Int)) (wI x * (p:Int))),h1,h2] at this
  have e:R * (b:Int) * q=R * (q:Int) * b:=by rw [Int.mul_assoc,Int.mul_comm (b:Int),← Int.mul_assoc]
  omega
theorem lowest_unique {a b p q:Nat} (hb:0 < b) (hq:0 < q) (g1:Nat.gcd a b=1) (g2:Nat.gcd p q=1) (e:a * q=p * b):a=p∧b=q:=by
 have d1:b ∣ q:=by
  have:b ∣ a * q:=⟨p,by rw [e,Nat.mul_comm]⟩
  exact (Nat.Coprime.dvd_of_dvd_mul_left (show Nat.Coprime b a from (Nat.gcd_comm b a).trans g1) this)
 have d2:q ∣ b:=by
  have:q ∣ p * b:=⟨a,by rw [← e,Nat.mul_comm]⟩
  exact (Nat.Coprime.dvd_of_dvd_mul_left (show Nat.Coprime q p from (Nat.gcd_comm q p).trans g2) this)
 have eb:b=q:=Nat.dvd_antisymm d1 d2
 subst eb
 exact ⟨Nat.eq_of_mul_eq_mul_right hb e,rfl⟩
theorem lev_unique {S:List Itm} {R:Int} {a b p q:Nat} (hw:∀ x ∈ S,0 < wI x) (hb:0 < b) (hq:0 < q) (hC:R < smI cI S)
  (h1:smI (fun x=>min (cI x * b) (wI x * a)) S=R * b) (h2:smI (fun x=>min (cI x * q) (wI x * p)) S=R * q) (g1:Nat.gcd a b=1) (g2:Nat.gcd p q=1):a=p∧b=q:=by
 rcases Nat.lt_trichotomy (a * q) (p * b) with h | h | h
 ·exact (lev_less hw hb hq hC h1 h2 h).elim
 ·exact lowest_unique hb hq g1 g2 h
 ·exact (lev_less hw hq hb hC h2 h1 h).elim
end B04
namespace L2
open PySem PySem.Spec PyProof.Rows S2
section
variable {X:Cx}
end
end L2
namespace L2
open PySem PySem.Spec PySem.W PyProof.Rows S2
def Itk (a:Addr) (o:Obj) (kvs:List (Key × V)):It :=
 ⟨fun i H=>H a=some (.frz o (.dK kvs))∧i < kvs.length,fun i H x H'=>H'=H∧∃ k v,kvs[i]?=some (k,v)∧x=kV k,fun i H=>H a=some (.frz o (.dK kvs))∧kvs.length ≤ i⟩
theorem turn_keys {P:Program} {w:World} {K:PySem.W.Frag} {tg:Expr} {it a:Addr} {o:Obj} {kvs:List (Key × V)} {vs:List (Key × Value)} {ep:Nat} (hne:a ≠ it) (rel:KV kvs vs)
  (da:∀ h:Heap,h.get? a=some o→h.DictAt (mixKind P w) a vs ep) :
  Turn P w K tg (Itk a o kvs) [it] it (fun i h=>h.IsKeyIter it a i vs.length ep) where
 mem:=by simp
 obj:=fun i h st c hc=>by
  obtain ⟨o',ho,hc',hd⟩:=st
  cases (List.mem_singleton.mp hc)
  exact ⟨_,ho,fun v q=>by rw [hd] at q; cases q⟩
 keep:=fun i h h' st kk=>by
  obtain ⟨o',ho,hc',hd⟩:=st
  exact ⟨o',kk it (by simp) _ ho,hc',hd⟩
 item:=by
  intro X hP hw hK hc i pins s σ H E I hf st hg
  subst hP hw hK
  obtain ⟨hz,hi⟩:=hg
  obtain ⟨⟨k,x⟩,hx⟩:∃ p,kvs[i]?=some p:=⟨kvs[i],by simp [hi]⟩
  obtain ⟨v,hv,rv⟩:=kvAt rel hx
  have ho:=(I.hok a _ hz).1
  refine wpAny_pyNext_dict_item st (da _ ho) hv fun key h' hkey hit' hs'=>⟨_,rfl,?_⟩
  obtain ⟨o',ho',hc',hd'⟩:=id hit'
  refine go_of ho' hc' hd' (by decide) ⟨kV k,H,?_,kV_of hkey,⟨rfl,k,x,hx,rfl⟩,hit',fun c hb=>(hf c hb).1⟩
  exact I.turnedL (t':=s.toks) (ch:=[it]) (fun c o hb q=>(hs'.2 c (fun z=>hb (by simp [z]))).trans q) hf
 done:=by
  intro X hP hw hK hc i pins s σ H E I hf st hg
  subst hP hw hK
  obtain ⟨hz,hi⟩:=hg
  have ho:=(I.hok a _ hz).1
  have el:=rel.length
  refine wpAny_pyNext_dict_end (I.ok.hd hc) st (da _ ho) (List.getElem?_eq_none_iff.mpr (by omega)) fun h' kp=>⟨rfl,I.turnedL (t':=s.toks) (ch:=[it]) (fun c o hb q=>?_) hf⟩
  exact kp c o (fun z=>hb (by simp [z])) q
 self:=fun _ _ _ _ _ st h=>wpAny_pyIter_keyiter st h
def iKeys (td:TE):TI:=fun σ H R=>td σ H fun x H1=>∃ a kvs,x=.ref a∧Rd H1 a (.dK kvs)∧∀ o,R (Itk a o kvs) (upd H1 a (.frz o (.dK kvs)))
section
variable {X:Cx} {o tg:Expr} {td:TE}
theorem pi_keys (ho:PE X o td):PI X tg o (iKeys td):=by
 intro pins s σ H R I h
 refine thn (ho pins s σ H _ I h) fun u s1 ⟨x,H1,I1,rx,a,kvs,ex,d,q1⟩=>?_
 subst ex
 obtain rfl:u=Value.ref a:=rx
 obtain ⟨t1,t2,hd⟩:=isD_at I1 (.inl ⟨kvs,d⟩)
 obtain ⟨ob,I2,hob,vs,ep,rel,da⟩:=I1.freeze d
 refine wpAny_pyIter_dict (knd:=mixKind X.prog X.w) (d:=a) (kvs:=vs) (ep:=ep) hd da ?_
 have la:a < s1.heap.objs.size:=Heap.lt_size hob
 refine ⟨_,[_],_,_,_,rfl,I2.kept (t':=s1.toks) fun b o e=>Heap.get?_push_of_some _ e,turn_keys (ep:=ep) (Nat.ne_of_lt la) rel (fun h e=>da.at' fun o' e'=>by rw [hob] at e'; cases e'; exact e),⟨_,Heap.get?_push_size _ rfl,rfl,rfl⟩,fun b hb=>?_,q1 ob⟩
 cases (List.mem_singleton.mp hb)
 exact I2.fpOk (Nat.le_refl _) (I2.hok.fresh (Nat.le_refl _))
end
theorem for_keys {a:Addr} {o:Obj} {kvs:List (Key × V)} {g:TG} {tb:TS} {D:Ends} {σ:St} {H:Hp} (Pv:Nat→St→Hp→Prop) (h0:Pv 0 σ H) (hl:∀ i σ H,i ≤ kvs.length→Pv i σ H→H a=some (.frz o (.dK kvs)))
  (hs:∀ (i:Nat) (k:Key) (v:V) (σ:St) (H:Hp),kvs[i]?=some (k,v)→Pv i σ H→g (kV k) σ H fun σ2 H2=>tb { D with nx:=Pv (i + 1),ct:=Pv (i + 1),bk:=D.nx } σ2 H2) (hd:∀ σ H,Pv kvs.length σ H→D.nx σ H) :
  ∃ W:Nat→Nat→St→Hp→Prop,(∃ m,W 0 m σ H)∧∀ i m σ H,W i m σ H →
   ((Itk a o kvs).stop i H∧D.nx σ H) ∨ ((Itk a o kvs).go i H∧∃ N:St→Hp→Prop,(∀ σ' H',N σ' H'→∃ m',m' < m∧W (i + 1) m' σ' H')∧∀ x H',(Itk a o kvs).yld i H x H'→g x σ H' fun σ2 H2=>tb { D with nx:=N,ct:=N,bk:=D.nx } σ2 H2):=by
 refine ⟨fun i m σ H=>m=kvs.length - i∧i ≤ kvs.length∧Pv i σ H,⟨kvs.length,by simp,Nat.zero_le _,h0⟩,?_⟩
 rintro i m σ H ⟨rfl,hi,p⟩
 have q:=hl i σ H hi p
 by_cases hlt:i < kvs.length
 ·refine .inr ⟨⟨q,hlt⟩,Pv (i + 1),fun σ' H' p'=>⟨kvs.length - (i + 1),by omega,rfl,hlt,p'⟩,fun x H' y=>?_⟩
  obtain ⟨e1,k,v,e3,e2⟩:=y
  subst e1 e2
  exact hs i k v σ _ e3 p
 ·have e:i=kvs.length:=by omega
  subst e
  exact .inl ⟨⟨q,Nat.le_refl _⟩,hd σ H p⟩
def IsIt (J:It) (H:Hp) (xs:List V):Prop :=
 (∀ i H',Same H H'→i < xs.length→J.go i H')∧(∀ H',Same H H'→J.stop xs.length H')∧∀ i x H' H'',Same H H'→J.yld i H' x H''→H''=H'∧xs[i]?=some x
theorem IsIt.list {K:PySem.W.Frag} {a:Addr} {H:Hp} {xs:List V} (h:SqL K H a xs):IsIt (Itl K a) H xs :=
 ⟨fun i H' s hi=>⟨xs,xs[i],s.seq h,by simp [hi]⟩,fun H' s=>⟨xs,s.seq h,Nat.le_refl _⟩,fun i x H' H'' s y=>by
  obtain ⟨e,y⟩:=y
  exact ⟨e,y xs (s.seq h)⟩⟩
theorem IsIt.keys {a:Addr} {o:Obj} {H:Hp} {kvs:List (Key × V)} (h:H a=some (.frz o (.dK kvs))):IsIt (Itk a o kvs) H (kvs.map fun kv=>kV kv.1) :=
 ⟨fun i H' s hi=>⟨s _ _ h,by rw [List.length_map] at hi; exact hi⟩,fun H' s=>⟨s _ _ h,by rw [List.length_map]; exact Nat.le_refl _⟩,fun i x H' H'' s y=>by
  obtain ⟨e,k,v,e1,e2⟩:=y
  exact ⟨e,by rw [List.getElem?_map,e1,e2]; rfl⟩⟩
theorem take_filter {α:Type} {l:List α} {c:α→Bool} {i:Nat} {x:α} (h:l[i]?=some x):(l.take (i + 1)).filter c=(l.take i).filter c ++ if c x=true then [x] else []:=by
 rw [List.take_succ,h,List.filter_append]
 congr 1
 cases hc:c x <;> simp [hc]
theorem comp_of {α:Type} {J:It} {l:List α} {tt:TT} {te:TE} {σ:St} {H:Hp} {Q:VK} (inj:α→V) (c:α→Bool) (f:α→V) (hJ:IsIt J H (l.map inj)) (hn:l.length < sizeLine)
  (ht:∀ (x:α) (H':Hp) (Q':Bool→Hp→Prop),x ∈ l→Same H H'→(∀ H'',Same H' H''→Q' (c x) H'')→tt (some (inj x) :: σ) H' Q')
  (he:∀ (x:α) (H':Hp) (Q':VK),c x=true→x ∈ l→Same H H'→(∀ H'',Same H' H''→Q' (f x) H'')→te (some (inj x) :: σ) H' Q')
  (hd:∀ D H',H D=none→Same H H'→H' D=some (.lst ((l.filter c).map f))→Q (.ref D) H'):CompGo J H σ tt te Q:=by
 intro D hD
 refine ⟨fun i m H'=>m=l.length - i∧i ≤ l.length∧Same H H'∧H' D=some (.lst (((l.take i).filter c).map f)),⟨_,rfl,Nat.zero_le _,Same.put1 (Same.refl H) hD,upd_same⟩,?_⟩
 rintro i m H' ⟨rfl,hi,s1,hl⟩
 by_cases hlt:i < l.length
 ·refine .inr ⟨hJ.1 i H' s1 (by rw [List.length_map]; exact hlt),fun x H2 y=>?_⟩
  obtain ⟨e,eu⟩:=hJ.2.2 i x H' H2 s1 y
  subst e
  have ex:l[i]?=some l[i]:=List.getElem?_eq_getElem hlt
  rw [List.getElem?_map,ex] at eu
  cases eu
  have hm:=List.mem_of_getElem? ex
  generalize l[i]=x at *
  refine ht x _ _ hm s1 fun H3 s3=>?_
  have hl3:=s3 _ _ hl
  have s13:=Same.trans s1 s3
  cases hc:c x with
  | true =>
   refine iteT (he x _ _ hc hm s13 fun H4 s4=>⟨_,s4 _ _ hl3,?_,_,Nat.sub_succ_lt_self _ _ hlt,rfl,hlt,Same.put1 (Same.trans s13 s4) hD,?_⟩)
   ·rw [List.length_map]
    exact Nat.lt_of_le_of_lt (Nat.le_trans (List.length_filter_le _ _) (by rw [List.length_take]; omega)) hn
   ·rw [upd_same,take_filter ex,if_pos hc,List.map_append]
    rfl
  | false =>
   refine iteF ⟨_,Nat.sub_succ_lt_self _ _ hlt,rfl,hlt,s13,?_⟩
   rw [hl3,take_filter ex,if_neg (by rw [hc]; exact Bool.false_ne_true),List.append_nil]
 ·have e:i=l.length:=by omega
  have:=hJ.2.1 H' s1
  rw [List.length_map] at this
  rw [e]
  refine .inl ⟨this,?_⟩
  rw [e,List.take_length] at hl
  exact hd D H' hD s1 hl
theorem comp_ofT {α:Type} {J:It} {l:List α} {tt:TT} {te:TE} {σ:St} {H:Hp} {Q:VK} (inj:α→V) (c:α→Bool) (f:α→List V) (hJ:IsIt J H (l.map inj)) (hn:l.length < sizeLine)
  (ht:∀ (x:α) (H':Hp) (Q':Bool→Hp→Prop),x ∈ l→Same H H'→(∀ H'',Same H' H''→Q' (c x) H'')→tt (some (inj x) :: σ) H' Q')
  (he:∀ (x:α) (H':Hp) (Q':VK),c x=true→x ∈ l→Same H H'→(∀ t,H' t=none→Q' (.ref t) (upd H' t (.tup (f x))))→te (some (inj x) :: σ) H' Q')
  (hd:∀ (D:Addr) (bs:List Addr) (H':Hp),H D=none→Same H H'→H' D=some (.lst (bs.map V.ref))→RowsOf H' bs ((l.filter c).map f)→Q (.ref D) H'):CompGo J H σ tt te Q:=by
 intro D hD
 refine ⟨fun i m H'=>m=l.length - i∧i ≤ l.length∧Same H H'∧∃ bs:List Addr,H' D=some (.lst (bs.map V.ref))∧RowsOf H' bs (((l.take i).filter c).map f),⟨_,rfl,Nat.zero_le _,Same.put1 (Same.refl H) hD,[],upd_same,RowsOf.nil⟩,?_⟩
 rintro i m H' ⟨rfl,hi,s1,bs,hl,hr⟩
 by_cases hlt:i < l.length
 ·refine .inr ⟨hJ.1 i H' s1 (by rw [List.length_map]; exact hlt),fun x H2 y=>?_⟩
  obtain ⟨e,eu⟩:=hJ.2.2 i x H' H2 s1 y
  subst e
  have ex:l[i]?=some l[i]:=List.getElem?_eq_getElem hlt
  rw [List.getElem?_map,ex] at eu
  cases eu
  have hm:=List.mem_of_getElem? ex
  generalize l[i]=x at *
  refine ht x _ _ hm s1 fun H3 s3=>?_
  have hl3:=s3 _ _ hl
  have hr3:=hr.same s3
  have s13:=Same.trans s1 s3
  have hbl:bs.length ≤ i:=by
   rw [hr.1,List.length_map]
   exact Nat.le_trans (List.length_filter_le _ _) (by rw [List.length_take]; omega)
  cases hc:c x with
  | true =>
   refine iteT (he x _ _ hc hm s13 fun t htn=>?_)
   have s4:Same H3 (upd H3 t (.tup (f x))):=Same.put1 (Same.refl _) htn
   have h4:(upd H3 t (.tup (f x))) t=some (.tup (f x)):=upd_same
   have hl4:=s4 _ _ hl3
   have hr4:=hr3.same s4
   generalize upd H3 t (.tup (f x))=H4 at *
   have kt:∀ b xs,H4 b=some (.tup xs)→(upd H4 D (.lst (bs.map V.ref ++ [V.ref t]))) b=some (.tup xs):=fun b xs e=>by rw [upd_ne (ne_of e hl4 (by intro z; cases z))]; exact e
   refine ⟨_,hl4,?_,_,Nat.sub_succ_lt_self _ _ hlt,rfl,hlt,Same.put1 (Same.trans s13 s4) hD,bs ++ [t],by rw [upd_same,List.map_append]; rfl,?_⟩
   ·rw [List.length_map]
    exact Nat.lt_of_le_of_lt hbl (by omega)
   ·rw [take_filter ex,if_pos hc,List.map_append]
    refine RowsOf.snoc (H:=upd H4 D (.lst (bs.map V.ref ++ [V.ref t]))) ⟨hr4.1,fun i p r e1 e2=>kt _ _ (hr4.2 i p r e1 e2)⟩ (Same.refl _) (kt _ _ h4)
  | false =>
   refine iteF ⟨_,Nat.sub_succ_lt_self _ _ hlt,rfl,hlt,s13,bs,hl3,?_⟩
   rw [take_filter ex,if_neg (by rw [hc]; exact Bool.false_ne_true),List.append_nil]
   exact hr3
 ·have e:i=l.length:=by omega
  have:=hJ.2.1 H' s1
  rw [List.length_map] at this
  rw [e]
  refine .inl ⟨this,?_⟩
  rw [e,List.take_length] at hr
  exact hd D bs H' hD s1 hl hr
end L2
namespace PySem
open Sem (wp)
theorem dm_list_getattr_none:typeLookup (.type "list") "__getattr__"=pure none:=by rw [typeLookup_type,builtinLookup_eq_fast]; kernel_rfl
theorem dm_list_keys_none:typeLookup (.type "list") "keys"=pure none:=by rw [typeLookup_type,builtinLookup_eq_fast]; kernel_rfl
section
variable {prog:Program} {w:World} {A:Around} {E:Value→Shared→Prop} {h:Heap} {g:Array GenState} {d:Drawn} {t:Nat} {os:OsState} {a:Addr} {o:Obj}
theorem dm_entry {tk:Tok} {Q:Fin→Shared→Prop} {its:Array Value} {n:Nat} (hx:h.get? a=some { cls:=.type "list",data:=.seq its n }) (hh:A.handled=none)
  (hE:∀ h' tk e,Heap.NewAttrErr h h' e (.ref a) "keys"→E (.ref e) ⟨h',g,d,tk,os⟩) :
  wpAny (model prog w) A (Builtin.«object.__getattribute__» ⟨[.ref a,.str "keys" tk],[]⟩) Q E ⟨h,g,d,t,os⟩:=by
 have hT:(⟨h,g,d,t,os⟩:Shared).TypeIs (.ref a) "list":=⟨_,hx,rfl⟩
 have f4:=dm_list_keys_none
 unfold Builtin.«object.__getattribute__»
 repeat (any_goals (first | assumption | wp_step))
 exact wpAny_raiseAttrError hh hE (attrMsg_fits (by decide +kernel) (by decide +kernel))
theorem dm_call {tk:Tok} {R:Result→Shared→Prop} {its:Array Value} {n:Nat} (hx:h.get? a=some { cls:=.type "list",data:=.seq its n }) (hh:A.handled=none)
  (hE:∀ h' tk e,Heap.NewAttrErr h h' e (.ref a) "keys"→R (.error (.ref e)) ⟨h',g,d,tk,os⟩) :
  codeAny (model prog w) A (.call (.builtin "list.__getattribute__") ⟨[.ref a,.str "keys" tk],[]⟩) R ⟨h,g,d,t,os⟩ :=
 codeAny_call_builtin F.slot_list_getattribute.plain F.entry_list_ga (F.slot_list_getattribute.check _ _ _ _ _ _ _ _ (show (⟨h,g,d,t,os⟩:Shared).TypeIs (.ref a) "list" from ⟨_,hx,rfl⟩) (F.args_list_getattribute_2 _ _) (dm_entry hx hh hE))
theorem dm_by {tk:Tok} {Q:Value→Shared→Prop} {its:Array Value} {n:Nat} (hx:h.get? a=some { cls:=.type "list",data:=.seq its n }) (hh:A.handled=none)
  (hE:∀ h' tk e,Heap.NewAttrErr h h' e (.ref a) "keys"→E (.ref e) ⟨h',g,d,tk,os⟩) :
  wpAny (model prog w) A (getAttrBy (.ref a) (.str "keys" tk) false) Q E ⟨h,g,d,t,os⟩:=by
 have hT:(⟨h,g,d,t,os⟩:Shared).TypeIs (.ref a) "list":=⟨_,hx,rfl⟩
 have f1:=sub_AttributeError
 have f2:=F.slot_list_getattribute.lookup
 have f3:=F.slot_list_getattribute.bind (.ref a)
 have f5:=dm_list_getattr_none
 repeat (any_goals (first | assumption | wp_step))
 refine dm_call hx hh fun h' tk e hx'=>?_
 obtain ⟨t',u',he⟩:=hx'.there
 repeat (any_goals (first | assumption | wp_step))
 exact hE _ _ _ hx'
theorem dm_keys {Q:Option Value→Shared→Prop} {its:Array Value} {n:Nat} (hx:h.get? a=some { cls:=.type "list",data:=.seq its n }) (hh:A.handled=none)
  (hq:∀ h' tk,(∀ b ob,h.get? b=some ob→h'.get? b=some ob)→Q none ⟨h',g,d,tk,os⟩) :
  wpAny (model prog w) A (getAttr? (.ref a) "keys") Q E ⟨h,g,d,t,os⟩:=by
 unfold getAttr? getAttrBy?
 have f1:=sub_AttributeError
 repeat (any_goals (first | assumption | (with_reducible apply dm_by hx hh) | wp_step))
 intro h' tk e hx'
 obtain ⟨t',u',he⟩:=hx'.there
 repeat (any_goals (first | assumption | wp_step))
 exact hq _ _ hx'.keeps
end
end PySem
namespace PySem.F
theorem entry_dul:entryFor table "dict.update.loop"=some Builtin.«dict.update.loop»:=entryFor_of_tree (by kernel_rfl)
theorem plain_dul:plainId "dict.update.loop"=true:=by decide +kernel
end PySem.F
namespace L2
open PySem PySem.Spec PyProof.Rows S2
section
variable {X:Cx} {pins:List (Addr × Obj)} {σ:St}
end
end L2
namespace L2
open PySem PySem.Spec PyProof.Rows S2
theorem dm_keysS {prog:Program} {w:World} {A:Around} {E:Value→Shared→Prop} {s:Shared} {a:Addr} {Q:Option Value→Shared→Prop} {its:Array Value} {n:Nat} (hx:s.heap.get? a=some { cls:=.type "list",data:=.seq its n }) (hh:A.handled=none)
  (hq:∀ h' tk,(∀ b ob,s.heap.get? b=some ob→h'.get? b=some ob)→Q none { s with heap:=h',toks:=tk }) :
  wpAny (model prog w) A (getAttr? (.ref a) "keys") Q E s:=by
 obtain ⟨h,g,d,t,os⟩:=s
 exact dm_keys hx hh hq
section
variable {X:Cx}
end
end L2
namespace L2
open PySem PySem.Spec PyProof.Rows S2
def mergeP (kvs ps:List (Key × V)):List (Key × V):=ps.foldl (fun acc p=>putK acc p.1 p.2) kvs
theorem mergeP_len (ps:List (Key × V)):∀ kvs,(mergeP kvs ps).length ≤ kvs.length + ps.length:=by
 induction ps with
 | nil=>intro kvs; exact Nat.le_refl _
 | cons p r ih =>
  intro kvs
  have h1:=ih (putK kvs p.1 p.2)
  have h2:=length_putK kvs p.1 p.2
  show (mergeP (putK kvs p.1 p.2) r).length ≤ _
  rw [List.length_cons]
  omega
def PairsAtK (H:Hp) (qs:List Addr) (ps:List (Key × V)):Prop:=qs.length=ps.length∧∀ (i:Nat) (q:Addr) (x:Key × V),qs[i]?=some q→ps[i]?=some x→H q=some (.tup [kV x.1,x.2])
theorem PairsAtK.upd {H:Hp} {qs:List Addr} {ps kvs:List (Key × V)} {d:Addr} {o:HO} (h:PairsAtK H qs ps) (hd:H d=some (.dK kvs)):PairsAtK (L2.upd H d o) qs ps:=⟨h.1,fun i q x e1 e2=>by
 have h1:=h.2 i q x e1 e2
 rw [upd_ne (ne_of h1 hd (fun z=>nomatch z))]
 exact h1⟩
section
variable {X:Cx} {pins:List (Addr × Obj)} {σ:St}
theorem d_dictSetK {H:Hp} {s:Shared} {a:Addr} {kvs:List (Key × V)} {k:Key} {v:V} {u r:Value} {A:Around} {E:Value→Shared→Prop} {Q:Unit→Shared→Prop} (I:Inv X pins σ H s) (e:H a=some (.dK kvs)) (ru:RelV (kV k) u) (l:kvs.length < sizeLine) (rv:RelV v r)
  (h:∀ h' t',Heap.SameBut a s.heap h'→Inv X pins σ (upd H a (.dK (putK kvs k v))) { s with heap:=h',toks:=t' }→Q () { s with heap:=h',toks:=t' }) :
  wpAny (model X.prog X.w) A (dictSet a u r) Q E s:=by
 obtain ⟨z,hd,vs,rel,dd⟩:=dk_of I.hok e
 have hz:vs.length ≤ sizeLine:=by rw [← rel.length]; exact z
 have hl:(putK kvs k v).length ≤ sizeLine:=by have:=length_putK kvs k v; omega
 refine wpAny_dictSet_pairs (hsz:=hz) (kV_is ru) dd fun h' dd' hs=>h _ _ hs ?_
 have he:∃ q,h'.get? a=some q:=let ⟨q,_,_,hq,_⟩:=dd'; ⟨q,hq⟩
 exact d_write I (by rw [e]; exact True.intro) hs he (dk_new hl hd (rel.put k rv) dd')
theorem dul_loopK {A:Around} {d it ax:Addr} {its:List Value} {qs:List Addr} {ps:List (Key × V)} {R:Result→Shared→Prop} (hh:A.in1.handled=none) (hne:ax ≠ it) (hdi:d ≠ it) (hdx:d ≠ ax) (hv:Vals (qs.map V.ref) its) :
  ∀ (k i:Nat) (s:Shared) (H:Hp) (kvs:List (Key × V)) (tk:Tok),qs.length - i=k→i ≤ qs.length→Inv X pins σ H s→FpOk X pins H it→H d=some (.dK kvs)→PairsAtK H qs ps→(s.heap.IsListIter it ax i∧s.heap.IsList ax its.toArray)→kvs.length + (qs.length - i) < sizeLine →
   (∀ h' t',Inv X pins σ (upd H d (.dK (mergeP kvs (ps.drop i)))) { s with heap:=h',toks:=t' }→R (.ok (.ret .none)) { s with heap:=h',toks:=t' }) →
   codeAny (model X.prog X.w) A (.builtin "dict.update.loop" ⟨[.ref d,.ref it,.int i tk,.none],[]⟩) R s:=by
 have hlen:its.length=qs.length:=by rw [← hv.length,List.length_map]
 intro k
 induction k with
 | zero =>
  intro i s H kvs tk hk hi I fp hd hP st hsz hR
  have hin:i=qs.length:=by omega
  subst hin
  have W:=Walks.list (prog:=X.prog) (w:=X.w) (A:=A.in1) hh it ax hne its.toArray
  refine codeAny_builtin F.entry_dul ?_
  rw [Around.under_plainId F.plain_dul _]
  show wpAny _ A.in1 (pyNext (.ref it) >>= _) _ _ s
  refine wpAny_bind (W.done s _ _ (by rw [List.size_toArray,hlen]; exact st) fun h' tk hk'=>?_)
  have e0:upd H d (.dK (mergeP kvs (ps.drop qs.length)))=H:=by
   rw [hP.1,List.drop_length]
   funext b
   by_cases e:b=d
   ·rw [e,upd_same]; exact hd.symm
   ·rw [upd_ne e]
  have I1:Inv X pins σ H { s with heap:=h',toks:=tk }:=I.turnedL (t':=tk) (ch:=[it]) hk' fun b hb=>by rw [List.mem_singleton.mp hb]; exact fp
  rw [← e0] at I1
  exact wpAny_bind (wpAny_pure (wpAny_pure (hR h' tk I1)))
 | succ k ih =>
  intro i s H kvs tk hk hi I fp hd hP st hsz hR
  have hlt:i < qs.length:=by omega
  have W:=Walks.list (prog:=X.prog) (w:=X.w) (A:=A.in1) hh it ax hne its.toArray
  refine codeAny_builtin F.entry_dul ?_
  rw [Around.under_plainId F.plain_dul _]
  show wpAny _ A.in1 (pyNext (.ref it) >>= _) _ _ s
  refine wpAny_bind (W.item i s _ _ (by rw [List.size_toArray,hlen]; exact hlt) st fun v h' tk' hv' st' hk'=>?_)
  have I1:Inv X pins σ H { s with heap:=h',toks:=tk' }:=I.turnedL (t':=tk') (ch:=[it]) hk' fun b hb=>by rw [List.mem_singleton.mp hb]; exact fp
  have hv'':its[i]?=some v:=by simpa using hv'
  obtain ⟨x0,ex0,rx0⟩:=hv.at hv''
  obtain ⟨q,eq,rfl⟩:∃ q,qs[i]?=some q∧x0=.ref q:=by
   rw [List.getElem?_map] at ex0
   cases e1:qs[i]? with
   | none=>rw [e1] at ex0; cases ex0
   | some q=>rw [e1] at ex0; cases ex0; exact ⟨q,rfl,rfl⟩
  obtain rfl:v=Value.ref q:=rx0
  have hip:i < ps.length:=by rw [← hP.1]; exact hlt
  have hq:=hP.2 i q ps[i] eq (List.getElem?_eq_getElem hip)
  obtain ⟨_,its2,r2,o,g1,g2,n2,g3⟩:=(show ObjOk X.prog X.w H h' q (.tup [kV ps[i].1,ps[i].2]) from I1.hok q _ hq)
  obtain ⟨u,r,ru,rr,rfl⟩:∃ u r,RelV (kV ps[i].1) u∧RelV ps[i].2 r∧its2=[u,r]:=by
   cases r2 with
   | cons h1 t1 =>
    cases t1 with
    | cons h2 t2 =>
     cases t2
     exact ⟨_,_,h1,h2,rfl⟩
  have tq:({ s with heap:=h',toks:=tk' }:Shared).TypeIs (.ref q) "tuple":=⟨o,g1,g2⟩
  show wpAny _ A.in1 (holding [Value.ref q] _ >>= _) _ _ _
  refine wpAny_bind (wpAny_holding (wpAny_bind (wpAny_tryCatch ?_)))
  unfold Builtin.Dict.pairItems
  refine wpAny_bind (wpAny_typeOf tq ?_)
  rw [if_pos (by decide)]
  refine wpAny_bind (wpAny_seqItems g1 g3 (wpAny_pure ?_))
  show wpAny _ A.in1 (holding [u,r] (dictSet d u r)) _ _ _
  refine wpAny_holding (d_dictSetK I1 hd ru (by omega) rr fun h2 t2 hs I2=>?_)
  refine wpAny_pure ⟨plainId_quiet F.plain_dul _,?_⟩
  have fp2:FpOk X pins (upd H d (.dK (putK kvs ps[i].1 ps[i].2))) it:=⟨by rw [upd_ne (Ne.symm hdi)]; exact fp.1,fp.2⟩
  have ed:mergeP kvs (ps.drop i)=mergeP (putK kvs ps[i].1 ps[i].2) (ps.drop (i + 1)):=by rw [List.drop_eq_getElem_cons hip]; rfl
  have hl2:=length_putK kvs ps[i].1 ps[i].2
  have:=ih (i + 1) _ (upd H d (.dK (putK kvs ps[i].1 ps[i].2))) (putK kvs ps[i].1 ps[i].2) 0 (by omega) hlt I2 fp2 upd_same (hP.upd hd) ⟨st'.1.at fun o e=>(hs.2 it (Ne.symm hdi)).trans e,st'.2.at fun o e=>(hs.2 ax (Ne.symm hdx)).trans e⟩ (by omega) (fun h3 t3 I3=>by
   rw [upd_upd,← ed] at I3
   exact hR h3 t3 I3)
  exact this
end
section
variable {X:Cx}
def rDictPK:List V→Hp→VK→Prop:=fun xs H Q=>∃ (l:Addr) (qs:List Addr) (ps:List (Key × V)),xs=[.ref l]∧H l=some (.lst (qs.map V.ref))∧PairsAtK H qs ps∧qs.length < sizeLine∧∀ p,H p=none→Q (.ref p) (upd H p (.dK (mergeP [] ps)))
theorem call_dictPK (hc:X.calm=true):CallR X (.type "dict") rDictPK:=by
 intro pins s σ H xs us Q I r h
 obtain ⟨l,qs,ps,e1,hH,hP,hsz,q⟩:=h
 subst e1
 obtain ⟨u,e2,ru⟩:=vals1 r
 subst e2
 obtain rfl:u=Value.ref l:=ru
 obtain ⟨z,its,n,rv,hl,e⟩:=I.lstM hH
 have hp0:H s.heap.objs.size=none:=I.hok.fresh (Nat.le_refl _)
 have npl:s.heap.objs.size ≠ l:=fun z=>by rw [z,hH] at hp0; cases hp0
 have I1:Inv X pins σ (upd H s.heap.objs.size (.dK [])) { s with heap:=s.heap.push { cls:=.type "dict",data:=.dict #[] } }:=I.laid (a:=s.heap.objs.size) (o:=.dK []) (t':=s.toks) (fun _ _ q=>Heap.get?_push_of_some _ q) (Nat.le_refl _) (dk_empty s.heap I.big)
 have e':(s.heap.push { cls:=.type "dict",data:=.dict #[] }).get? l=some { cls:=.type "list",data:=.seq its.toArray n }:=Heap.get?_push_of_some _ e
 have hP1:PairsAtK (upd H s.heap.objs.size (.dK [])) qs ps:=⟨hP.1,fun i a x e1 e2=>by
  have h1:=hP.2 i a x e1 e2
  rw [upd_ne (ne_of_none h1 hp0)]
  exact h1⟩
 refine callType_codes (Q₁:=fun obj s₁=>obj=.ref s.heap.objs.size∧s₁={ s with heap:=s.heap.push { cls:=.type "dict",data:=.dict #[] } }) F.kt_called_dict (F.kt_typeCall_dict_1 _) F.entry_dict_init (kt_code_dict_new _ ⟨rfl,rfl⟩) ?_
 rintro obj s₁ ⟨rfl,rfl⟩
 have hT:({ s with heap:=s.heap.push { cls:=.type "dict",data:=.dict #[] } }:Shared).TypeIs (.ref s.heap.objs.size) "dict":=⟨_,Heap.get?_push_size _ rfl,rfl⟩
 have hTl:({ s with heap:=s.heap.push { cls:=.type "dict",data:=.dict #[] } }:Shared).TypeIs (.ref l) "list":=⟨_,e',rfl⟩
 refine ⟨hT,F.args_dict_init_2 _ _,?_⟩
 unfold Builtin.«dict.__init__»
 refine wpAny_bind ?_
 unfold Builtin.Dict.selfAndRest
 refine wpAny_bind (wpAny_notOrdered_dict hT ?_)
 show wpAny _ _ (pure (s.heap.objs.size,[Value.ref l])) _ _ _
 refine wpAny_pure ?_
 show wpAny _ _ (Builtin.Dict.updateFrom "dict.__init__" s.heap.objs.size (.ref l) [] .none) _ _ _
 unfold Builtin.Dict.updateFrom
 refine wpAny_bind (wpAny_typeOf hTl ?_)
 rw [if_pos (by decide)]
 refine wpAny_bind (dm_keysS e' (I.ok.hd hc) fun h2 t2 hk2=>?_)
 rw [if_pos (show (none:Option Value).isNone=true from rfl)]
 have I2:=I1.kept (t':=t2) hk2
 have hH1:(upd H s.heap.objs.size (.dK [])) l=some (.lst (qs.map V.ref)):=by rw [upd_ne (Ne.symm npl)]; exact hH
 obtain ⟨its',rv',pl,hz'⟩:=I2.list (SqL.of hH1)
 have hL:=pl.isList
 refine wpAny_bind (wpAny_rule (wpAny_bind (wpAny_pyIter_list hL ?_)))
 have hfr:(upd H s.heap.objs.size (.dK [])) h2.objs.size=none:=I2.hok.fresh (Nat.le_refl _)
 have ndi:s.heap.objs.size ≠ h2.objs.size:=ne_of_none (H:=upd H s.heap.objs.size (.dK [])) upd_same hfr
 have nxi:l ≠ h2.objs.size:=ne_of_none hH1 hfr
 refine wpAny_pure ⟨plainId_quiet F.plain_dul _,?_⟩
 refine dul_loopK (X:=X) (pins:=pins) (σ:=σ) (A:=X.A.in1) (its:=its') (qs:=qs) (ps:=ps) (I.ok.hd hc) nxi ndi npl rv' qs.length 0 _ (upd H s.heap.objs.size (.dK [])) [] 0 (by omega) (Nat.zero_le _) (I2.kept (t':=t2) fun _ _ q=>Heap.get?_push_of_some _ q) (I2.fpOk (Nat.le_refl _) hfr) upd_same hP1 ⟨⟨_,Heap.get?_push_size _ rfl,rfl,rfl⟩,hL.push _⟩ (by show 0 + (qs.length - 0) < sizeLine; omega) ?_
 ·intro h' t' I'
  rw [upd_upd,List.drop_zero] at I'
  exact ⟨rfl,.ref s.heap.objs.size,_,I',rfl,q _ hp0⟩
end
end L2
namespace L2
open PySem PySem.Spec PyProof.Rows S2
section
variable {X:Cx}
theorem kv_merged {more:List (Key × V)} {us:List (Key × Value)} (r:KV more us):∀ {kvs:List (Key × V)} {vs:List (Key × Value)},KV kvs vs→KV (mergeP kvs more) (merged vs us):=by
 induction r with
 | nil=>intro kvs vs h; exact h
 | @cons p q l1 l2 h t ih =>
  intro kvs vs r0
  show KV (mergeP (putK kvs p.1 p.2) l1) (merged (stored vs q.1 q.2) l2)
  rw [← h.1]
  exact ih (r0.put p.1 h.2)
def rUpdK:V→List V→Hp→VK→Prop:=fun x vs H Q=>∃ (d o:Addr) (kvs more:List (Key × V)),x=.ref d∧vs=[.ref o]∧d ≠ o∧H d=some (.dK kvs)∧Rd H o (.dK more)∧kvs.length + more.length ≤ sizeLine∧Q .non (upd H d (.dK (mergeP kvs more)))
theorem mt_updateK:MtM X "dict.update" rUpdK:=by
 intro pins s σ H x vs v us Q I rx rv h
 obtain ⟨d,o,kvs,more,rfl,rfl,hdo,hd,ho,hsz,q⟩:=h
 cases rx
 obtain ⟨u,rfl,ru⟩:=rv.one
 obtain rfl:u=Value.ref o:=ru
 obtain ⟨z,hdS,xs,rel,dd⟩:=dk_rd I.hok (.inl hd)
 obtain ⟨z2,hoS,ys,rel2,dd2⟩:=dk_rd I.hok ho
 have lx:=Paired.length rel
 have ly:=Paired.length rel2
 refine call_meetsIn PySem.F.slot_dict_update dd.typeIs PySem.F.entry_dict_update (PySem.F.args_dict_update_2 _ _) (meets_dict_update (mixKind X.prog X.w) d o hdo hoS) ⟨xs,ys,dd,dd2,by omega,fun h' dd' _ hs=>?_⟩
 have hl:(mergeP kvs more).length ≤ sizeLine:=by have:=mergeP_len more kvs; omega
 obtain ⟨qo,es,ep,hq,rest⟩:=id dd'
 have I':Inv X pins σ (upd H d (.dK (mergeP kvs more))) { s with heap:=h' }:=d_write I (by rw [hd]; exact True.intro) hs ⟨qo,hq⟩ ⟨hl,hdS,_,kv_merged rel2 rel,dd'⟩
 exact ⟨.non,_,I',rfl,q⟩
def rUpdP:V→List V→Hp→VK→Prop:=fun x vs H Q=>∃ (d l:Addr) (kvs:List (Key × V)) (qs:List Addr) (ps:List (Key × V)),x=.ref d∧vs=[.ref l]∧H d=some (.dK kvs)∧H l=some (.lst (qs.map V.ref))∧PairsAtK H qs ps∧kvs.length + qs.length < sizeLine∧Q .non (upd H d (.dK (mergeP kvs ps)))
theorem mt_updateP (hc:X.calm=true):MtM X "dict.update" rUpdP:=by
 intro pins s σ H x vs v us Q I rx rv h
 obtain ⟨d,l,kvs,qs,ps,rfl,rfl,hd,hH,hP,hsz,q⟩:=h
 cases rx
 obtain ⟨u,rfl,ru⟩:=rv.one
 obtain rfl:u=Value.ref l:=ru
 obtain ⟨z,hdS,xs,rel,dd⟩:=dk_rd I.hok (.inl hd)
 obtain ⟨z2,its,n,rv2,hl,e⟩:=I.lstM hH
 have ndl:d ≠ l:=ne_of hd hH (by intro z; cases z)
 have hTl:s.TypeIs (.ref l) "list":=⟨_,e,rfl⟩
 refine wpAny_call (codeAny_call_builtin F.slot_dict_update.plain F.entry_dict_update (F.slot_dict_update.check _ _ _ _ _ _ _ _ dd.typeIs (F.args_dict_update_2 _ _) ?_))
 unfold Builtin.«dict.update»
 refine wpAny_bind ?_
 unfold Builtin.Dict.selfAndRest
 refine wpAny_bind (wpAny_notOrdered_dict dd.typeIs ?_)
 show wpAny _ _ (pure (d,[Value.ref l])) _ _ s
 refine wpAny_pure ?_
 show wpAny _ _ (Builtin.Dict.updateFrom "dict.update" d (.ref l) [] .none) _ _ s
 unfold Builtin.Dict.updateFrom
 refine wpAny_bind (wpAny_typeOf hTl ?_)
 rw [if_pos (by decide)]
 refine wpAny_bind (dm_keysS e (I.ok.hd hc) fun h2 t2 hk2=>?_)
 rw [if_pos (show (none:Option Value).isNone=true from rfl)]
 have I2:=I.kept (t':=t2) hk2
 obtain ⟨its',rv',pl,hz'⟩:=I2.list (SqL.of hH)
 have hL:=pl.isList
 refine wpAny_bind (wpAny_rule (wpAny_bind (wpAny_pyIter_list hL ?_)))
 have hfr:H h2.objs.size=none:=I2.hok.fresh (Nat.le_refl _)
 have ndi:d ≠ h2.objs.size:=ne_of_none hd hfr
 have nxi:l ≠ h2.objs.size:=ne_of_none hH hfr
 refine wpAny_pure ⟨plainId_quiet F.plain_dul _,?_⟩
 refine dul_loopK (X:=X) (pins:=pins) (σ:=σ) (A:=X.A) (its:=its') (qs:=qs) (ps:=ps) (I.ok.hd hc) nxi ndi ndl rv' qs.length 0 _ H kvs 0 (by omega) (Nat.zero_le _) (I2.kept (t':=t2) fun _ _ q=>Heap.get?_push_of_some _ q) (I2.fpOk (Nat.le_refl _) hfr) hd hP ⟨⟨_,Heap.get?_push_size _ rfl,rfl,rfl⟩,hL.push _⟩ (by show kvs.length + (qs.length - 0) < sizeLine; omega) ?_
 intro h' t' I'
 rw [List.drop_zero] at I'
 exact ⟨.non,_,I',rfl,q⟩
end
end L2
namespace L2
open PySem PySem.Spec PySem.W PyProof.Rows PySem.MeetsSeq PySem.MeetsSeq2 PySem.MeetsSeq3 PySem.SeqRoads2
def EqW (P:Program) (w:World) (A:Around) (s:Shared) (y x:Value):Prop:=∀ (E:Value→Shared→Prop) (Q:Bool→Shared→Prop),Q true s→wpAny (model P w) A (eqBool y x) Q E s
section
variable {P:Program} {w:World}
theorem eqW_tuple (l b:Addr) (us vs:Array Value) (n m:Nat) (d1 d2:Option Addr) (sa sb:Array (Option Value)) (hsz:us.size=vs.size) :
  MeetsIn P w (Builtin.«tuple.__eq__» ⟨[.ref l,.ref b],[]⟩)
   (fun A R s=>s.heap.get? l=some { cls:=.type "tuple",dict:=d1,data:=.seq us n,slots:=sa }∧s.heap.get? b=some { cls:=.type "tuple",dict:=d2,data:=.seq vs m,slots:=sb } ∧
    (∀ j (z1:j < us.size) (z2:j < vs.size),EqW P w A.in1 s us[j] vs[j])∧R (.ok (.ret (.bool true))) s) :=
 .of_wp fun A R s h=>by
  obtain ⟨hp,g,d,tk,os⟩:=s; obtain ⟨hL,hB,hE,h⟩:=h
  have f2:=AutoSeq1.sub_tuple_tuple
  wp_walk using wpAny_loadPart' hL,wpAny_loadPart' hB,wpAny_forIn_list _ (fun rest b s'=>b.1=none∧s'=⟨hp,g,d,tk,os⟩∧∃ i,rest=(us.toList.zip vs.toList).drop i) _
  case turn =>
   rintro ⟨y,x⟩ rest b s' ⟨hb',rfl,i,hz⟩
   have hlt:i < (us.toList.zip vs.toList).length:=by
    by_cases q:i < (us.toList.zip vs.toList).length
    ·exact q
    ·rw [List.drop_of_length_le (by omega)] at hz; cases hz
   have hm:i < us.size∧i < vs.size:=by
    rw [List.length_zip] at hlt
    simp only [Array.length_toList] at hlt
    omega
   rw [List.drop_eq_getElem_cons hlt] at hz
   injection hz with hyx hrest
   have ey:y=us[i]'hm.1:=by have:=congrArg Prod.fst hyx; simpa using this
   have ex:x=vs[i]'hm.2:=by have:=congrArg Prod.snd hyx; simpa using this
   subst ey ex
   refine wpAny_bind (hE i hm.1 hm.2 _ _ ?_)
   wp_walk
   exact ⟨rfl,rfl,i + 1,hrest⟩
  case fin =>
   rintro ⟨b1,b2⟩ s' ⟨hb',rfl,i,hz⟩
   simp only at hb'
   subst hb'
   wp_walk
   exact ⟨_,rfl,by simpa [Builtin.Tuple.tupleCompareSizes,hsz] using h⟩
  case h =>
   exact ⟨rfl,rfl,0,rfl⟩
end
section
variable {X:Cx}
end
end L2
namespace L2
open PySem PySem.Spec PyProof.Rows
def ItRev (K:PySem.W.Frag) (a:Addr) (n:Nat):It :=
 ⟨fun i H=>∃ xs x,SqL K H a xs∧xs.length=n∧i < n∧xs[n - 1 - i]?=some x,fun i H x H'=>H'=H∧∀ xs,SqL K H a xs→xs[n - 1 - i]?=some x,fun i H=>n ≤ i⟩
theorem turn_rev {P:Program} {w:World} {K:PySem.W.Frag} {tg:Expr} (a it:Addr) (n:Nat):Turn P w K tg (ItRev K a n) [it] it (fun i h=>i ≤ n∧h.IsRevIter it a ((n:Int) - 1 - (i:Int))) where
 mem:=by simp
 obj:=fun i h st b hb=>by
  have e:b=it:=by simpa using hb
  subst e
  obtain ⟨_,o,e,c,d⟩:=st
  exact ⟨o,e,fun v z=>by rw [d] at z; cases z⟩
 keep:=fun i h h' st k=>⟨st.1,st.2.at fun o e=>k it (by simp) o e⟩
 item:=by
  intro X hP hw hK hc i pins s σ H E I hf st hg
  subst hP hw hK
  obtain ⟨xs,x,hq,hlen,hi,hx⟩:=hg
  obtain ⟨its,rv,p,hz⟩:=I.list hq
  obtain ⟨u,hu,ru⟩:=rv.get hx
  obtain ⟨f0,f1,f2,f3,f4,f5⟩:=hf it (by simp)
  have e1:(n:Int) - 1 - (i:Int)=((n - 1 - i:Nat):Int):=by omega
  have st':=st.2
  rw [e1] at st'
  refine wpAny_pyNext_rev_item st' p.isList (x:=u) (by simpa using hu) fun h' st2 sb=>?_
  have I1:Inv X pins σ H { s with heap:=h' }:=I.turned (t':=s.toks) (fun b o hb e=>(sb.2 b hb).trans e) f0 f1 f3 f4 f5
  have e2:((n - 1 - i:Nat):Int) - 1=(n:Int) - 1 - ((i + 1:Nat):Int):=by omega
  rw [e2] at st2
  obtain ⟨o,e,c,d⟩:=id st2
  exact ⟨u,rfl,go_of (s:={ s with heap:=h' }) e c d (by decide) ⟨x,H,I1,ru,⟨rfl,fun ys hy=>by rw [I.list_inj hy hq]; exact hx⟩,⟨hi,st2⟩,fun b hb=>(hf b hb).1⟩⟩
 done:=by
  intro X hP hw hK hc i pins s σ H E I hf st hg
  subst hP hw hK
  obtain ⟨f0,f1,f2,f3,f4,f5⟩:=hf it (by simp)
  have hg':n ≤ i:=hg
  have e1:(n:Int) - 1 - (i:Int)=-1:=by have:=st.1; omega
  have st':=st.2
  rw [e1] at st'
  exact wpAny_pyNext_rev_end (I.ok.hd hc) st' fun h' eb=>⟨rfl,I.turned (t':=s.toks) (fun b o hb e=>eb b o hb e) f0 f1 f3 f4 f5⟩
 self:=fun _ _ _ _ _ st h=>wpAny_pyIter_revIter st.2 h
section
variable {X:Cx} {tg:Expr}
def iRev (K:PySem.W.Frag) (ta:TA):TI:=fun σ H R=>ta σ H fun vs H1=>∃ a xs,vs=[.ref a]∧SqL K H1 a xs∧R (ItRev K a xs.length) H1
theorem pi_rev {l:Expr} {ta:TA} {p pos:Pos} (hg:Gl X "reversed") (hm:X.mg "reversed"=none) (hv:bootBuiltins "reversed"=some (.type "reversed")) (ha:PA X [l] ta) (hs:starEach [l] X.env=[(false,eval l X.env)]:=by rfl) :
  PI X tg (.Call (.Name "reversed" p) [l] [] pos) (iRev X.K ta):=by
 intro pins s σ H R I h
 refine Call_ (ld_blt I hg hm hv (PyProof.Rows.callWith_type1 (thn (ha pos pins s σ H _ I h) fun us s1 ⟨vs,H1,I1,r1,q1⟩=>?_) hs rfl))
 obtain ⟨a,xs,e1,hq,q⟩:=q1
 subst e1
 obtain ⟨u,e1,r3⟩:=vals1 r1
 subst e1
 obtain rfl:u=Value.ref a:=r3
 obtain ⟨its,rv,pl,hz⟩:=I1.list hq
 have hl:=rv.length
 refine call_reversed_list pl.isList ?_
 have I2:Inv X pins σ H1 { s1 with heap:=s1.heap.push (revObj a ((its.toArray.size:Int) - 1)) }:=I1.kept (t':=s1.toks) fun b o e=>Heap.get?_push_of_some _ e
 have st:Heap.IsRevIter (s1.heap.push (revObj a ((its.toArray.size:Int) - 1))) s1.heap.objs.size a ((xs.length:Int) - 1 - ((0:Nat):Int)):=by
  refine ⟨_,Heap.get?_push_size _ rfl,rfl,?_⟩
  rw [List.size_toArray,← hl]
  simp [revObj]
 refine wpAny_pyIter_revIter st ⟨s1.heap.objs.size,[s1.heap.objs.size],_,_,H1,rfl,I2,turn_rev a _ xs.length,⟨Nat.zero_le _,st⟩,fun b hb=>?_,q⟩
 have e:b=s1.heap.objs.size:=by simpa using hb
 subst e
 exact I1.fpOk (Nat.le_refl _) (I1.hok.fresh (Nat.le_refl _))
end
theorem for_rev {K:PySem.W.Frag} {a:Addr} {xs:List V} {g:TG} {tb:TS} {D:Ends} {σ:St} {H:Hp} (Pv:Nat→St→Hp→Prop) (h0:Pv 0 σ H) (hl:∀ i σ H,i ≤ xs.length→Pv i σ H→SqL K H a xs)
  (hs:∀ i x σ H,i < xs.length→xs[xs.length - 1 - i]?=some x→Pv i σ H→g x σ H fun σ2 H2=>tb { D with nx:=Pv (i + 1),ct:=Pv (i + 1),bk:=D.nx } σ2 H2) (hd:∀ σ H,Pv xs.length σ H→D.nx σ H) :
  ∃ W:Nat→Nat→St→Hp→Prop,(∃ m,W 0 m σ H)∧∀ i m σ H,W i m σ H →
   ((ItRev K a xs.length).stop i H∧D.nx σ H) ∨ ((ItRev K a xs.length).go i H∧∃ N:St→Hp→Prop,(∀ σ' H',N σ' H'→∃ m',m' < m∧W (i + 1) m' σ' H')∧∀ x H',(ItRev K a xs.length).yld i H x H'→g x σ H' fun σ2 H2=>tb { D with nx:=N,ct:=N,bk:=D.nx } σ2 H2):=by
 refine ⟨fun i m σ H=>m=xs.length - i∧i ≤ xs.length∧Pv i σ H,⟨xs.length,by simp,Nat.zero_le _,h0⟩,?_⟩
 rintro i m σ H ⟨rfl,hi,p⟩
 have q:=hl i σ H hi p
 by_cases hlt:i < xs.length
 ·have hk:xs.length - 1 - i < xs.length:=by omega
  refine .inr ⟨⟨xs,xs[xs.length - 1 - i],q,rfl,hlt,by simp [hk]⟩,Pv (i + 1),fun σ' H' p'=>⟨xs.length - (i + 1),by omega,rfl,hlt,p'⟩,fun x H' y=>?_⟩
  obtain ⟨e1,y⟩:=y
  subst e1
  exact hs i x σ _ hlt (y xs q) p
 ·have e:i=xs.length:=by omega
  subst e
  exact .inl ⟨Nat.le_refl _,hd σ H p⟩
end L2
namespace L2
open PySem PySem.Spec PySem.W PyProof.Rows
section
variable {X:Cx} {pins:List (Addr × Obj)} {σ:St} {E:Value→Shared→Prop}
end
section
variable {X:Cx} {pins:List (Addr × Obj)} {σ:St} {E:Value→Shared→Prop}
end
end L2
namespace DV
open PySem PySem.W PyProof.Rows
section
variable {prog:Program} {w:World} {A:Around} {E:Value→Shared→Prop} {s:Shared}
end
end DV
namespace L2
open PySem PySem.Spec PySem.W PyProof.Rows
section
variable {X:Cx}
end
end L2
namespace L2
open PySem PySem.Spec PySem.W PyProof.Rows
section
variable {X:Cx} {e st:Expr} {te:TE} {tst:TO} {p2 pos:Pos}
end
theorem comp_itemsF {K:PySem.W.Frag} {a:Addr} {o:Obj} {kvs:List (Key × V)} {tt:TT} {te:TE} {σ:St} {H:Hp} {Q:VK} (Pv:Addr→Nat→List V→Hp→Prop) (hn:kvs.length < sizeLine) (h0:∀ D,H D=none→Pv D 0 [] (upd H D (.lst [])))
  (hs:∀ D i l H',Pv D i l H'→H' a=some (.frz o (.dK kvs))) (hl:∀ D i l H',Pv D i l H'→l.length ≤ i)
  (he:∀ (D:Addr) (i:Nat) (k:Key) (v:V) (p:Addr) (l:List V) (H':Hp) (Q1:Bool→Hp→Prop),kvs[i]?=some (k,v)→H' p=none→Pv D i l H' →
   (∀ b H2,(b=false→Pv D (i + 1) l H2)→(b=true→∀ Q':VK,(∀ y H3,H3 D=some (.lst l)→Pv D (i + 1) (l ++ [y]) (upd H3 D (.lst (l ++ [y])))→Q' y H3)→te (some (kV k) :: some v :: σ) H2 Q')→Q1 b H2)→tt (some (kV k) :: some v :: σ) (upd H' p (.tup [kV k,v])) Q1)
  (hd:∀ D l H',H D=none→Pv D kvs.length l H'→Q (.ref D) H'):CompGoN (Itd a o kvs) H 2 σ (gTwo K) tt te Q:=by
 intro D hD
 refine ⟨fun i m H'=>m=kvs.length - i∧i ≤ kvs.length∧∃ l,Pv D i l H',⟨kvs.length,by omega,Nat.zero_le _,[],h0 D hD⟩,?_⟩
 rintro i m H' ⟨rfl,hi,l,hp⟩
 have q:=hs D i l H' hp
 by_cases hlt:i < kvs.length
 ·refine .inr ⟨⟨q,hlt⟩,fun x H2 ρ lρ y=>?_⟩
  obtain ⟨b,k,v,e1,hb,e3,e2⟩:=y
  subst e1 e2
  match ρ,lρ with
  | [r0,r1],_ =>
   refine ⟨b,_,rfl,SqT.of upd_same,rfl,_,_,rfl,_,_,rfl,rfl,⟨[some (kV k),some v],rfl,rfl⟩,?_⟩
   refine he D i k v b l H' _ e3 hb hp fun c H3 hf ht=>?_
   cases c with
   | false =>
    refine iteF ?_
    exact ⟨kvs.length - (i + 1),by omega,rfl,hlt,l,hf rfl⟩
   | true =>
    refine iteT (ht rfl _ fun v H4 z1 z2=>?_)
    have hl2:=hl D i l H' hp
    exact ⟨l,z1,Nat.lt_of_le_of_lt hl2 (by omega),kvs.length - (i + 1),by omega,rfl,hlt,l ++ [v],z2⟩
 ·have e:i=kvs.length:=by omega
  subst e
  exact .inl ⟨⟨q,Nat.le_refl _⟩,hd D l H' hD hp⟩
end L2
namespace B04
open PySem L2 S2
theorem pg_twoK {X:Cx} {K:PySem.W.Frag} (hK:X.K=K) {x y:Str} {px py pt:Pos} {kk:Nat} (hc:X.calm=true) (hN:X.N.Nodup) (h0:X.N[0]?=some x) (h1:X.N[1]?=some y) (hx:X.env.scope.names.lookup x=some .local) (hy:X.env.scope.names.lookup y=some .local)
  (ha:(assignEach [.Name x px,.Name y py] X.env).map (·.2)=[assign (.Name x px) X.env,assign (.Name y py) X.env]:=by rfl) (hb:(assignEach [.Name y py] X.env).map (·.2)=[assign (.Name y py) X.env]:=by rfl)
  (hn:(assignEach [.Name x px,.Name y py] X.env).length=2:=by rfl) (hst:(assignEach [.Name x px,.Name y py] X.env).findIdx? (·.1)=none:=by rfl):PG X (.Tuple [.Name x px,.Name y py] kk pt) (gTwo K):=by
 subst hK
 exact pg_tup hc (pgs_cons (pg_name hN h0 (.inl hx) (.inr hx)) (pgs_cons (pg_name hN h1 (.inl hy) (.inr hy)) pgs_nil (by rw [hb]; rfl)) (by rw [ha,hb])) hn hst
theorem tops2 {k:Nat} {a b:Nat} (hb:0 < b) (h:b * 2 ^ k ≤ a) (ha:a < 2 ^ 40):k < 40:=by
 by_cases z:k < 40
 ·exact z
 ·have h1:2 ^ 40 ≤ 2 ^ k:=Nat.pow_le_pow_right (by decide) (by omega)
  have h2:1 * 2 ^ k ≤ b * 2 ^ k:=Nat.mul_le_mul_right _ hb
  omega
def dbl (b k:Nat):List Int:=(List.range (k + 1)).map fun i=>((b * 2 ^ i:Nat):Int)
theorem dbl_len (b k:Nat):(dbl b k).length=k + 1:=by unfold dbl; rw [List.length_map,List.length_range]
theorem dbl_succ (b k:Nat):dbl b (k + 1)=dbl b k ++ [((b * 2 ^ (k + 1):Nat):Int)]:=by unfold dbl; rw [List.range_succ,List.map_append]; rfl
theorem dbl_at {b k i:Nat} (h:i ≤ k):(dbl b k)[i]?=some ((b * 2 ^ i:Nat):Int):=by
 unfold dbl
 rw [List.getElem?_map,List.getElem?_range (by omega)]
 rfl
theorem at_last {α:Type} {xs:List α} {y:α} (h:xs[xs.length - 1]?=some y):atI xs (-1)=some y:=by
 have hl:=get_lt h
 have e:=List.take_succ (l:=xs) (i:=xs.length - 1)
 rw [h,show xs.length - 1 + 1=xs.length by omega,List.take_length] at e
 have:=atI_last (xs.take (xs.length - 1)) y
 rw [show xs.take (xs.length - 1) ++ [y]=xs from e.symm] at this
 exact this
def spWeighted:Sp:=fun vs H Q _=>∃ (d:Addr) (ws:List (Str × Int)),vs=[.ref d]∧Rd H d (.dK (kvW ws))∧ws.length ≤ 60 ∧
 ∀ (l:Addr) (H':Hp),H l=none→(∀ b u,b ≠ d→H b=some u→H' b=some u)→Rd H' d (.dK (kvW ws))→H' l=some (.lst (((ws.filter fun p=>decide (0 < p.2)).map (·.1)).map V.str))→Q (.ref l) H'
def spTotal:Sp:=fun vs H Q _=>∃ (d l:Addr) (ws:List (Str × Int)) (nms:List Str),vs=[.ref d,.ref l]∧Rd H d (.dK (kvW ws))∧(ws.map (·.1)).Nodup∧H l=some (.lst (nms.map V.str))∧(∀ x ∈ nms,x ∈ ws.map (·.1))∧nms.length ≤ 1000 ∧
 ∀ H':Hp,Same H H'→Q (.int (nms.map (wOf ws)).sum) H'
def spFills:Sp:=fun vs H Q _=>∃ (t:Addr) (p q w c:Int),vs=[.ref t,.int w,.int c]∧H t=some (.tup [.int p,.int q])∧0 ≤ w∧w < 2 ^ 32∧0 ≤ c∧c < 2 ^ 32∧Q (.bl (decide (c * q ≤ w * p))) H
def spRest:Sp:=fun vs H Q _=>∃ a b:Nat,vs=[.int a,.int b]∧0 < b∧a < 2 ^ 40∧∀ H':Hp,Same H H'→Q (.int ((a % b:Nat):Int)) H'
def spCommon:Sp:=fun vs H Q _=>∃ a b:Nat,vs=[.int a,.int b]∧a < 2 ^ 40∧b < 2 ^ 40∧∀ H':Hp,Same H H'→Q (.int ((Nat.gcd a b:Nat):Int)) H'
theorem wOf_mem {ws:List (Str × Int)} (nd:(ws.map (·.1)).Nodup) {x:Str} (h:x ∈ ws.map (·.1)):(x,wOf ws x) ∈ ws:=by
 obtain ⟨p,hp,e⟩:=List.mem_map.mp h
 have hp':(x,p.2) ∈ ws:=by rw [← e]; exact hp
 rw [wOf_of nd hp']
 exact hp'
theorem get_wOf {H:Hp} {d:Addr} {ws:List (Str × Int)} (hd:Rd H d (.dK (kvW ws))) (nd:(ws.map (·.1)).Nodup) {x:Str} (h:x ∈ ws.map (·.1)):DGet H d (kV (.inr x)) (some (.int (wOf ws x))):=by
 rw [← valW nd (wOf_mem nd h)]
 exact .inl ⟨_,_,hd,rfl,rfl⟩
section
variable {P:Program} {w:World} {K:PySem.W.Frag} {mg:Str→Option Value} {base:Heap}
abbrev nW2:List Str:=["name","weight","weights"]
theorem ndW2:nW2.Nodup:=by decide +kernel
theorem scWeighted:FnScope ["weights"] ["weights"] (defScope sWeighted):=⟨rfl,rfl,rfl,by decide +kernel,rfl,by decide +kernel,by decide +kernel⟩
set_option maxHeartbeats 4000000 in
theorem ok_weighted {f:Addr} {fd:FuncData} (F:Fun K "weighted" "weighted" sWeighted f fd):FnOk P w K mg base CX0 1 f fd ["weights"] spWeighted:=by
 refine F.ok scWeighted (fun vs H Q E h=>?_) (fun cdv A outer s H vs Q E hr h=>?_)
 ·obtain ⟨d,ws,e,_⟩:=h
  rw [e]
  rfl
 ·obtain ⟨d,ws,e,hd,hl,k⟩:=h
  subst e
  refine ⟨_,pss_one (ps_ret (pe_compN (k:=2) (N':=nW2) (compScN_mk (fs:=defScope sWeighted) (N:=["weights"]) rfl rfl (by decide +kernel)) rfl (pi_items (pv 0)) (fun _ _ _ _ _=>pg_twoK (K:=K) rfl rfl ndW2 rfl rfl rfl rfl) (fun _ _ _ _ _=>pts_one (pt_cmpR op_gt (pv 1) pe_int (nomark _))) (fun _ _ _ _ _=>pv 0))),?_⟩
  refine ⟨_,rfl,d,_,rfl,hd,fun o=>?_⟩
  have h1:(upd H d (.frz o (.dK (kvW ws)))) d=some (.frz o (.dK (kvW ws))):=upd_same
  have k1:∀ b u,b ≠ d→H b=some u→(upd H d (.frz o (.dK (kvW ws)))) b=some u:=fun b u hb e=>by rw [upd_ne hb]; exact e
  have f1:∀ b,(upd H d (.frz o (.dK (kvW ws)))) b=none→H b=none:=fun b e=>by
   by_cases z:b=d
   ·rw [z,upd_same] at e; cases e
   ·rw [upd_ne z] at e; exact e
  generalize upd H d (.frz o (.dK (kvW ws)))=H1 at *
  have hkl:(kvW ws).length=ws.length:=by unfold kvW; rw [List.length_map]
  refine comp_itemsF (K:=K) (fun D j l H'=>H1 D=none∧Same H1 H'∧H' D=some (.lst l)∧l=(((ws.take j).filter fun p=>decide (0 < p.2)).map (·.1)).map V.str) (small (by omega))
   (fun D hD=>⟨hD,Same.put (Same.refl _) hD,upd_same,rfl⟩) (fun D j l H' ⟨_,s,_⟩=>s _ _ h1) (fun D j l H' ⟨_,_,_,e⟩=>by rw [e,List.length_map,List.length_map]; exact Nat.le_trans (List.length_filter_le _ _) (by rw [List.length_take]; omega)) ?_ ?_
  ·rintro D j kk v p l H' Q1 hkv hp ⟨hD,s1,hl1,rfl⟩ hq
   obtain ⟨x,n,ex,rfl,rfl⟩:=kvW_at hkv
   have s2:Same H' (upd H' p (.tup [kV (.inr x),.int n])):=Same.put (Same.refl _) hp
   generalize upd H' p (.tup [kV (.inr x),.int n])=H2 at *
   refine ⟨_,rfl,_,_,rfl,rfl,_,rfl,hq _ _ (fun hb=>⟨hD,Same.trans s1 s2,s2 _ _ hl1,?_⟩) (fun hb Q' hq'=>⟨_,rfl,hq' _ _ (s2 _ _ hl1) ⟨hD,Same.put (Same.trans s1 s2) hD,upd_same,?_⟩⟩)⟩
   ·rw [take_filter ex,if_neg (by rw [show decide (0 < n)=false from hb]; exact Bool.false_ne_true),List.append_nil]
   ·rw [take_filter ex,if_pos hb,List.map_append,List.map_append]
    rfl
  ·rintro D l H' hD ⟨hD1,s1,hl1,rfl⟩
   rw [hkl,List.take_length] at hl1
   exact k D H' (f1 _ hD1) (fun b u hb e=>s1 _ _ (k1 b u hb e)) (.inr ⟨o,s1 _ _ h1⟩) hl1
theorem scTotal:FnScope ["numbers","names"] ["numbers","names"] (defScope sTotal):=⟨rfl,rfl,rfl,by decide +kernel,rfl,by decide +kernel,by decide +kernel⟩
set_option maxHeartbeats 4000000 in
theorem ok_total {f:Addr} {fd:FuncData} (F:Fun K "total_of" "total_of" sTotal f fd) (N:Names mg):FnOk P w K mg base CX0 1 f fd ["numbers","names"] spTotal:=by
 refine F.ok scTotal (fun vs H Q E h=>?_) (fun cdv A outer s H vs Q E hr h=>?_)
 ·obtain ⟨d,l,ws,nms,e,_⟩:=h
  rw [e]
  rfl
 ·obtain ⟨d,l,ws,nms,e,hd,nd,hl,hin,hln,k⟩:=h
  subst e
  have hu:(A.deeper (PyProof.Rows.envOfC "total_of" (defScope sTotal) s.heap.objs.size f cdv)).units + 1 < cLine:=by have:=hr.units; omega
  refine ⟨_,pss_one (ps_ret (pe_callB (call_sumL rfl) (by rfl) N.sum PyProof.Rows.boot_sum (pa_cons (pe_comp (compSc_mk (fs:=defScope sTotal) (N:=["numbers","names"]) rfl rfl (by decide +kernel)) rfl (pi_list (pv 1)) (fun _ _ _ _ _=>pts_nil) (fun _ _ _ _ _=>pe_dget hu (pv 1) (pv 0) (fun _ _=>rfl))) pa_nil))),?_⟩
  refine ⟨_,rfl,l,rfl,⟨_,SqL.of hl⟩,comp_of (α:=Str) V.str (fun _=>true) (fun x=>.int (wOf ws x)) (IsIt.list (SqL.of hl)) (small (by omega)) (fun x H' Q' _ _ hq=>hq _ (Same.refl _)) (fun x H' Q' _ hx s1 hq=>?_) fun D H' hD s1 h1=>?_⟩
  ·exact ⟨_,rfl,_,rfl,d,_,rfl,get_wOf (hd.keep fun o e=>s1 _ _ e) nd (hin x hx),hq _ (Same.refl _)⟩
  ·have e:(nms.filter fun _=>true)=nms:=List.filter_eq_self.mpr fun _ _=>rfl
   rw [e] at h1
   have h2:H' D=some (.lst ((nms.map (wOf ws)).map V.int)):=by rw [h1,List.map_map]; rfl
   exact ⟨D,_,rfl,SqL.of h2,k H' s1⟩
theorem scFills:FnScope ["level","weight","cap"] ["level","weight","cap"] (defScope sFills):=⟨rfl,rfl,rfl,by decide +kernel,rfl,by decide +kernel,by decide +kernel⟩
theorem ok_fills {f:Addr} {fd:FuncData} (F:Fun K "fills" "fills" sFills f fd):FnOk P w K mg base CX0 1 f fd ["level","weight","cap"] spFills:=by
 refine F.ok scFills (fun vs H Q E h=>?_) (fun cdv A outer s H vs Q E hr h=>?_)
 ·obtain ⟨t,p,q,w,c,e,_⟩:=h
  rw [e]
  rfl
 ·obtain ⟨t,p,q,w,c,e,ht,w0,w1,c0,c1,k⟩:=h
  subst e
  refine ⟨_,pss_one (ps_ret (pe_cmpR op_le (pe_op op_mul (pv 2) (pe_ix ix_tup (pv 0) pe_int (fun _ _=>rfl))) (pe_op op_mul (pv 1) (pe_ix ix_tup (pv 0) pe_int (fun _ _=>rfl))) (nomark _))),?_⟩
  exact ⟨_,rfl,_,rfl,t,_,_,_,rfl,rfl,SqT.of ht,rfl,_,_,rfl,rfl,.inl ⟨by omega,by omega⟩,_,rfl,_,rfl,t,_,_,_,rfl,rfl,SqT.of ht,rfl,_,_,rfl,rfl,.inl ⟨by omega,by omega⟩,_,_,rfl,rfl,k⟩
theorem scRest:FnScope ["number","by","doubles","rest","double"] ["number","by"] (defScope sRest):=⟨rfl,rfl,rfl,by decide +kernel,rfl,by decide +kernel,by decide +kernel⟩
set_option maxHeartbeats 4000000 in
theorem ok_rest {f:Addr} {fd:FuncData} (F:Fun K "rest_of" "rest_of" sRest f fd) (N:Names mg):FnOk P w K mg base CX0 1 f fd ["number","by"] spRest:=by
 refine F.ok scRest (fun vs H Q E h=>?_) (fun cdv A outer s H vs Q E hr h=>?_)
 ·obtain ⟨a,b,e,_⟩:=h
  rw [e]
  rfl
 ·obtain ⟨a,b,e,hb,ha,k⟩:=h
  subst e
  refine ⟨_,pss_cons (ps_set (i:=2) scRest.nd rfl (Or.inl rfl) (pe_lst (pa_cons (pv 1) pa_nil)))
   (pss_cons (ps_while PassesOwn.never (pt_cmpR op_le (pe_op op_mul (pe_ix ix_list (pv 2) (pe_un un_neg pe_int) (fun _ _=>rfl)) pe_int) (pv 0) (nomark _))
    (pss_one (ps_expr (pe_bm PySem.F.plainAttrs_list PySem.F.slot_list_append PySem.F.type_list_append mt_append (pv 2) (pa_cons (pe_op op_mul (pe_ix ix_list (pv 2) (pe_un un_neg pe_int) (fun _ _=>rfl)) pe_int) pa_nil)))))
   (pss_cons (ps_set (i:=3) scRest.nd rfl (Or.inl rfl) (pv 0))
   (pss_cons (ps_for PassesOwn.never rfl (pi_rev rfl N.rev PyProof.Rows.boot_reversed (pa_cons (pv 2) pa_nil)) (pg_name (i:=4) scRest.nd rfl (Or.inl rfl))
    (pss_one (ps_if (pt_cmpR op_le (pv 4) (pv 3) (nomark _)) (pss_one (ps_set (i:=3) scRest.nd rfl (Or.inl rfl) (pe_op op_sub (pv 3) (pv 4)))) pss_nil)))
   (pss_one (ps_ret (pv 3)))))),?_⟩
  refine ⟨_,rfl,smallE (by simp),fun l hl=>?_⟩
  have s0:Same H (upd H l (.lst [.int (b:Int)])):=Same.put (Same.refl H) hl
  have h0:(upd H l (.lst [.int (b:Int)])) l=some (.lst ((dbl b 0).map V.int)):=by
   rw [upd_same]
   show _=some (HO.lst [V.int ((b * 2 ^ 0:Nat):Int)])
   rw [Nat.pow_zero,Nat.mul_one]
  generalize upd H l (.lst [.int (b:Int)])=H1 at *
  refine ⟨fun m σ H9=>∃ j:Nat,σ=[some (.int a),some (.int b),some (.ref l),none,none]∧Same H H9∧H9 l=some (.lst ((dbl b j).map V.int))∧(j=0 ∨ b * 2 ^ j ≤ a)∧m=a + 1 - b * 2 ^ j,⟨_,0,rfl,s0,h0,.inl rfl,rfl⟩,?_⟩
  rintro m σ H2 ⟨j,rfl,s2,h2,hj,rfl⟩
  have hjj:j < 40:=by
   rcases hj with z | z
   ·omega
   ·exact tops2 hb z ha
  have hlen:((dbl b j).map V.int).length=j + 1:=by rw [List.length_map,dbl_len]
  have hat:atI ((dbl b j).map V.int) (-1)=some (.int ((b * 2 ^ j:Nat):Int)):=at_last (by rw [hlen,Nat.add_sub_cancel,List.getElem?_map,dbl_at (Nat.le_refl _)]; rfl)
  have e2:((b * 2 ^ j:Nat):Int) * 2=((b * 2 ^ (j + 1):Nat):Int):=by rw [Nat.pow_succ,← Nat.mul_assoc]; rfl
  refine ⟨_,rfl,_,rfl,l,_,_,_,rfl,rfl,SqL.of h2,hat,_,_,rfl,rfl,.inr ⟨by decide,by decide⟩,_,rfl,_,_,rfl,rfl,_,rfl,?_⟩
  dsimp only
  rw [e2]
  refine ite2 (fun hc=>?_) (fun hc=>?_)
  ·have hc':b * 2 ^ (j + 1) ≤ a:=by have:=of_decide_eq_true hc; omega
   refine ⟨fun σ' H9=>σ'=[some (.int a),some (.int b),some (.ref l),none,none]∧Same H H9∧H9 l=some (.lst ((dbl b (j + 1)).map V.int)),fun σ' H9 ⟨x1,x2,x3⟩=>⟨a + 1 - b * 2 ^ (j + 1),?_,j + 1,x1,x2,x3,.inr hc',rfl⟩,?_⟩
   ·have h1:b * 2 ^ (j + 1)=b * 2 ^ j * 2:=by rw [Nat.pow_succ,Nat.mul_assoc]
    have h3:0 < b * 2 ^ j:=Nat.mul_pos hb (Nat.pow_pos (by decide))
    omega
   refine ⟨_,rfl,.inl ⟨rfl,_,SqL.of h2⟩,_,rfl,_,rfl,l,_,_,_,rfl,rfl,SqL.of h2,hat,_,_,rfl,rfl,.inr ⟨by decide,by decide⟩,l,_,_,rfl,rfl,h2,small (by rw [hlen]; omega),?_⟩
   dsimp only
   rw [e2]
   refine ⟨rfl,Same.put s2 hl,?_⟩
   rw [upd_same,dbl_succ,List.map_append]
   rfl
  ·have hc':a < b * 2 ^ (j + 1):=by
    by_cases z:a < b * 2 ^ (j + 1)
    ·exact z
    ·exact absurd (decide_eq_true (by omega)) hc
   refine ⟨_,rfl,?_⟩
   refine ⟨_,rfl,l,_,rfl,SqL.of h2,for_rev (K:=K) (a:=l) (xs:=(dbl b j).map V.int) (fun i σ H9=>∃ (r:Nat) (u4:Option V),H9=H2∧σ=[some (.int a),some (.int b),some (.ref l),some (.int r),u4]∧r % b=a % b∧(i ≤ j + 1→r < b * 2 ^ (j + 1 - i))) ⟨a,none,rfl,rfl,rfl,fun _=>hc'⟩ (fun i σ H9 _ ⟨_,_,e,_⟩=>by rw [e]; exact SqL.of h2) ?_ ?_⟩
   ·rintro i x σ H9 hi hx ⟨r,u4,rfl,rfl,hr1,hr2⟩
    rw [hlen] at hi hx
    have hx':x=.int ((b * 2 ^ (j - i):Nat):Int):=by
     rw [List.getElem?_map,show j + 1 - 1 - i=j - i by omega,dbl_at (by omega)] at hx
     exact (Option.some.inj hx).symm
    subst hx'
    have hr3:=hr2 (by omega)
    have hp:b * 2 ^ (j + 1 - i)=b * 2 ^ (j - i) * 2:=by rw [show j + 1 - i=(j - i) + 1 by omega,Nat.pow_succ,Nat.mul_assoc]
    refine ⟨_,rfl,_,rfl,_,_,rfl,rfl,_,rfl,ite2 (fun hc2=>?_) (fun hc2=>?_)⟩
    ·have hc3:b * 2 ^ (j - i) ≤ r:=by have:=of_decide_eq_true hc2; omega
     refine ⟨_,rfl,_,rfl,_,_,rfl,rfl,(show ∃ (r:Nat) (u4:Option V),_ from ⟨r - b * 2 ^ (j - i),some (.int ((b * 2 ^ (j - i):Nat):Int)),rfl,?_,?_,fun _=>by rw [show j + 1 - (i + 1)=j - i by omega]; omega⟩)⟩
     ·rw [Int.ofNat_sub hc3]
      rfl
     ·rw [Nat.sub_mul_mod hc3]
      exact hr1
    ·have hc3:r < b * 2 ^ (j - i):=by
      by_cases z:r < b * 2 ^ (j - i)
      ·exact z
      ·exact absurd (decide_eq_true (by omega)) hc2
     exact ⟨r,_,rfl,rfl,hr1,fun _=>by rw [show j + 1 - (i + 1)=j - i by omega]; exact hc3⟩
   ·rintro σ H9 ⟨r,u4,rfl,rfl,hr1,hr2⟩
    rw [hlen] at hr2
    have hr3:=hr2 (Nat.le_refl _)
    rw [Nat.sub_self,Nat.pow_zero,Nat.mul_one] at hr3
    have er:r=a % b:=by rw [← hr1,Nat.mod_eq_of_lt hr3]
    rw [er]
    exact ⟨_,rfl,k _ s2⟩
theorem scCommon:FnScope ["one","other","rest"] ["one","other"] (defScope sCommon):=⟨rfl,rfl,rfl,by decide +kernel,rfl,by decide +kernel,by decide +kernel⟩
set_option maxHeartbeats 4000000 in
theorem ok_common {f f1:Addr} {fd d1:FuncData} (F:Fun K "common_of" "common_of" sCommon f fd)
  (G1:FnOk P w K mg base CX0 1 f1 d1 ["number","by"] spRest) (b1:Binds K d1 ["number","by"] []) (m1:mg "rest_of"=some (.ref f1)) (k1:PySem.W.keepIn K (.ref f1)=true):FnOk P w K mg base CX0 2 f fd ["one","other"] spCommon:=by
 refine F.ok scCommon (fun vs H Q E h=>?_) (fun cdv A outer s H vs Q E hr h=>?_)
 ·obtain ⟨a,b,e,_⟩:=h
  rw [e]
  rfl
 ·obtain ⟨a,b,e,ha,hb,k⟩:=h
  subst e
  refine ⟨_,pss_cons (ps_while PassesOwn.never (pt_cmpR op_gt (pv 1) pe_int (nomark _))
    (pss_cons (ps_set (i:=2) scCommon.nd rfl (Or.inl rfl) (pe_call G1 hr (by rfl) m1 k1 b1 .nil pass0 (pa_cons (pv 0) (pa_cons (pv 1) pa_nil))))
    (pss_cons (ps_set (i:=0) scCommon.nd rfl (Or.inl rfl) (pv 1))
    (pss_one (ps_set (i:=1) scCommon.nd rfl (Or.inl rfl) (pv 2))))))
   (pss_one (ps_ret (pv 0))),?_⟩
  refine ⟨fun m σ H9=>∃ (x y:Nat) (u2:Option V),σ=[some (.int x),some (.int y),u2]∧Same H H9∧x < 2 ^ 40∧y < 2 ^ 40∧Nat.gcd x y=Nat.gcd a b∧m=y,⟨_,a,b,none,rfl,Same.refl _,ha,hb,rfl,rfl⟩,?_⟩
  rintro m σ H2 ⟨x,y,u2,rfl,s2,hx,hy,hg,rfl⟩
  refine ⟨_,rfl,_,_,rfl,rfl,_,rfl,ite2 (fun hc=>?_) (fun hc=>?_)⟩
  ·have hy0:0 < m:=by have:=of_decide_eq_true hc; omega
   refine ⟨fun σ' H9=>∃ u2:Option V,σ'=[some (.int m),some (.int ((x % m:Nat):Int)),u2]∧Same H H9,fun σ' H9 ⟨u2,e1,e2⟩=>⟨x % m,Nat.mod_lt _ hy0,m,x % m,u2,e1,e2,hy,Nat.lt_trans (Nat.mod_lt _ hy0) hy,?_,rfl⟩,?_⟩
   ·rw [← hg,Nat.gcd_comm x m,Nat.gcd_rec m x,Nat.gcd_comm]
   ·exact ⟨_,rfl,_,rfl,x,m,rfl,hy0,hx,fun H3 s3=>⟨_,rfl,_,rfl,_,rfl,Same.trans s2 s3⟩⟩
  ·have hy0:m=0:=by
    by_cases z:m=0
    ·exact z
    ·exact absurd (decide_eq_true (by omega)) hc
   subst hy0
   rw [Nat.gcd_zero_right] at hg
   rw [hg]
   exact ⟨_,rfl,k _ s2⟩
end
end B04
namespace PySem
namespace DT
section
variable {prog:Program} {w:World} {A:Around} {E:Value→Shared→Prop} {s:Shared}
end
end DT
end PySem
namespace PySem
namespace DT
section
variable {prog:Program} {w:World} {A:Around} {E:Value→Shared→Prop} {s:Shared}
end
section
variable {prog:Program} {w:World} {A:Around} {s:Shared} {R:Result→Shared→Prop}
end
section
variable {prog:Program} {w:World} {A:Around} {E:Value→Shared→Prop} {s:Shared}
end
end DT
end PySem
namespace L2
open PySem PySem.Spec PyProof.Rows
section
variable {X:Cx}
end
end L2
namespace PySem
namespace DT
section
variable {prog:Program} {w:World} {A:Around} {E:Value→Shared→Prop} {s:Shared}
end
end DT
end PySem
namespace PySem
namespace DT
section
variable {prog:Program} {w:World} {A:Around} {E:Value→Shared→Prop} {s:Shared}
end
end DT
end PySem
namespace L2
open PySem PySem.Spec PyProof.Rows
section
variable {X:Cx} {es:List Expr} {kk:Nat} {pt:Pos}
end
end L2
namespace PySem
namespace DT
section
variable {prog:Program} {w:World} {A:Around} {R:Result→Shared→Prop} {I:Addr} {fp wr:List Addr} {n:Nat} {P:Nat→Value→Prop} {St:Nat→Heap→Prop}
end
section
variable {prog:Program} {w:World} {A:Around} {E:Value→Shared→Prop} {s:Shared} {l:Addr}
end
end DT
end PySem
namespace L2
open PySem PySem.Spec PyProof.Rows
section
variable {X:Cx}
end
end L2
namespace L2
open PySem PySem.Spec PySem.W PyProof.Rows
section
variable {X:Cx}
end
end L2
namespace L2
open PySem PySem.Spec PySem.W PyProof.Rows
section
variable {X:Cx}
def CDivC (_ j:Int):Prop:=0 < j∧j.natAbs.log2 < 9000
theorem op_fdivC:OpR X (binaryOp .FloorDiv) (rI CDivC fun i j=>.int (i / j)):=opI fun i j _ _ _ _ _ hc q=>by
 have h1:(0:Int) < j:=hc.1
 exact floordiv_int (by omega) (by rw [Int.fdiv_eq_ediv_of_nonneg i (by omega)]; exact q) (.inl (PyProof.noPylong_of_log2 hc.2))
end
end L2
namespace B04
open PySem L2 S2
abbrev nV (x:Itm):V:=V.str x.1
def wsI (l:List Itm):List (Str × Int):=l.map fun x=>(x.1,wI x)
def szI (sz:Itm→Int) (l:List Itm):List (Str × Int):=l.map fun x=>(x.1,sz x)
theorem szI_keys (sz:Itm→Int) (l:List Itm):(szI sz l).map (·.1)=l.map (·.1):=by unfold szI; rw [List.map_map]; rfl
theorem wsI_sz (l:List Itm):wsI l=szI wI l:=rfl
theorem szI_len (sz:Itm→Int) (l:List Itm):(szI sz l).length=l.length:=by unfold szI; rw [List.length_map]
theorem kvW_len (ws:List (Str × Int)):(kvW ws).length=ws.length:=by unfold kvW; rw [List.length_map]
theorem nmV (l:List Itm):(l.map (·.1)).map V.str=l.map nV:=by rw [List.map_map]; rfl
theorem wOf_sz {sz:Itm→Int} {it:List Itm} (nd:(it.map (·.1)).Nodup) {x:Itm} (h:x ∈ it):wOf (szI sz it) x.1=sz x :=
 wOf_of (p:=(x.1,sz x)) (by rw [szI_keys]; exact nd) (List.mem_map_of_mem (f:=fun x:Itm=>(x.1,sz x)) h)
theorem tot_sz {sz:Itm→Int} {it l:List Itm} (nd:(it.map (·.1)).Nodup) (h:∀ x ∈ l,x ∈ it):((l.map (·.1)).map (wOf (szI sz it))).sum=smI sz l:=by
 unfold smI
 rw [List.map_map]
 congr 1
 exact List.map_congr_left fun x hx=>wOf_sz nd (h x hx)
theorem get_sz {H:Hp} {d:Addr} {sz:Itm→Int} {it:List Itm} (hd:Rd H d (.dK (kvW (szI sz it)))) (nd:(it.map (·.1)).Nodup) {x:Itm} (h:x ∈ it):DGet H d (kV (.inr x.1)) (some (.int (sz x))):=by
 have:=get_wOf hd (by rw [szI_keys]; exact nd) (x:=x.1) (by rw [szI_keys]; exact List.mem_map_of_mem h)
 rw [wOf_sz nd h] at this
 exact this
def CapsOk (cs:List (Str × Int)) (it:List Itm):Prop:=(cs.map (·.1)).Nodup∧∀ x ∈ it,(x.1,cI x) ∈ cs
theorem wOf_cs {cs:List (Str × Int)} {it:List Itm} (h:CapsOk cs it) {x:Itm} (hx:x ∈ it):wOf cs x.1=cI x:=wOf_of (p:=(x.1,cI x)) h.1 (h.2 x hx)
theorem mem_cs {cs:List (Str × Int)} {it:List Itm} (h:CapsOk cs it) {x:Itm} (hx:x ∈ it):x.1 ∈ cs.map (·.1):=List.mem_map_of_mem (f:=(·.1)) (h.2 x hx)
theorem tot_cs {cs:List (Str × Int)} {it l:List Itm} (hc:CapsOk cs it) (h:∀ x ∈ l,x ∈ it):((l.map (·.1)).map (wOf cs)).sum=smI cI l:=by
 unfold smI
 rw [List.map_map]
 congr 1
 exact List.map_congr_left fun x hx=>wOf_cs hc (h x hx)
theorem get_cs {H:Hp} {d:Addr} {cs:List (Str × Int)} {it:List Itm} (hd:Rd H d (.dK (kvW cs))) (hc:CapsOk cs it) {x:Itm} (h:x ∈ it):DGet H d (kV (.inr x.1)) (some (.int (cI x))):=by
 have:=get_wOf hd hc.1 (x:=x.1) (mem_cs hc h)
 rw [wOf_cs hc h] at this
 exact this
def posB (x:Itm):Bool:=decide (0 < wI x)
theorem weighted_names (it:List Itm):((wsI it).filter fun p=>decide (0 < p.2)).map (·.1)=(it.filter posB).map (·.1):=by
 unfold wsI
 rw [List.filter_map,List.map_map]
 rfl
theorem nd_filter {it:List Itm} (nd:(it.map (·.1)).Nodup) (f:Itm→Bool):((it.filter f).map (·.1)).Nodup:=List.Nodup.sublist (List.Sublist.map _ List.filter_sublist) nd
def InB (it:List Itm):Prop:=(it.map (·.1)).Nodup∧it.length ≤ 60∧∀ x ∈ it,0 ≤ wI x∧wI x ≤ 1000∧0 ≤ cI x∧cI x ≤ 1000000
theorem smI_bound {g:Itm→Int} {B:Int}:∀ {l:List Itm},(∀ x ∈ l,g x ≤ B)→smI g l ≤ B * l.length
 | [],_=>by rw [smI_nil]; simp
 | x :: l,h=>by
  have:=smI_bound (g:=g) (B:=B) (l:=l) fun y hy=>h y (List.mem_cons_of_mem _ hy)
  have:=h x List.mem_cons_self
  rw [smI_cons,List.length_cons]
  have e:B * ((l.length + 1:Nat):Int)=B * l.length + B:=by rw [Int.natCast_add,Int.mul_add]; simp
  omega
def LevOk (it:List Itm) (R:Int) (p q:Nat):Prop:=0 < q∧Nat.gcd p q=1∧∃ (left:Int) (f:Itm→Bool),Lev (it.filter posB) R left f∧(∀ x ∈ it.filter posB,f x=true→fullB left (smI wI ((it.filter posB).filter f)) x=false)∧(p:Int) * smI wI ((it.filter posB).filter f)=left * q
def spLevelOf:Sp:=fun vs H Q _=>∃ (dW dC:Addr) (it:List Itm) (cs:List (Str × Int)) (R:Int),vs=[.int R,.ref dW,.ref dC]∧dW ≠ dC∧Rd H dW (.dK (kvW (wsI it)))∧Rd H dC (.dK (kvW cs))∧CapsOk cs it∧InB it∧0 ≤ R∧R < smI cI (it.filter posB) ∧
 ∀ (t:Addr) (p q:Nat) (H':Hp),H t=none→(∀ b u,b ≠ dW→H b=some u→H' b=some u)→Rd H' dW (.dK (kvW (wsI it)))→H' t=some (.tup [.int p,.int q])→LevOk it R p q→Q (.ref t) H'
theorem keepD {H H':Hp} {d dW:Addr} {u:HO} (h:Rd H d u) (ne:d ≠ dW) (k:∀ b u,b ≠ dW→H b=some u→H' b=some u):Rd H' d u:=h.keep fun o e=>k _ _ ne e
theorem free_kept {H H':Hp} {dW b:Addr} {u:HO} (hd:Rd H' dW u) (k:∀ b u,b ≠ dW→H b=some u→H' b=some u) (h:H' b=none):H b=none:=by
 by_cases e:b=dW
 ·subst e
  rcases hd with z | ⟨_,z⟩ <;> (rw [h] at z; cases z)
 ·cases hb:H b with
  | none=>rfl
  | some u=>rw [k b u e hb] at h; cases h
section
variable {P:Program} {w:World} {K:PySem.W.Frag} {mg:Str→Option Value} {base:Heap}
abbrev nLevelOf:List Str:=["room","weights","caps","left","names","level","others","common"]
theorem scLevelOf:FnScope nLevelOf ["room","weights","caps"] (defScope sLevelOf):=⟨rfl,rfl,rfl,by decide +kernel,rfl,by decide +kernel,by decide +kernel⟩
set_option maxHeartbeats 16000000 in
theorem ok_levelOf {f f1 f2 f3 f4:Addr} {fd d1 d2 d3 d4:FuncData} (F:Fun K "level_of" "level_of" sLevelOf f fd) (N:Names mg)
  (G1:FnOk P w K mg base CX0 1 f1 d1 ["weights"] spWeighted) (b1:Binds K d1 ["weights"] []) (m1:mg "weighted"=some (.ref f1)) (k1:PySem.W.keepIn K (.ref f1)=true)
  (G2:FnOk P w K mg base CX0 1 f2 d2 ["numbers","names"] spTotal) (b2:Binds K d2 ["numbers","names"] []) (m2:mg "total_of"=some (.ref f2)) (k2:PySem.W.keepIn K (.ref f2)=true)
  (G3:FnOk P w K mg base CX0 1 f3 d3 ["level","weight","cap"] spFills) (b3:Binds K d3 ["level","weight","cap"] []) (m3:mg "fills"=some (.ref f3)) (k3:PySem.W.keepIn K (.ref f3)=true)
  (G4:FnOk P w K mg base CX0 2 f4 d4 ["one","other"] spCommon) (b4:Binds K d4 ["one","other"] []) (m4:mg "common_of"=some (.ref f4)) (k4:PySem.W.keepIn K (.ref f4)=true) :
  FnOk P w K mg base CX0 3 f fd ["room","weights","caps"] spLevelOf:=by
 refine F.ok scLevelOf (fun vs H Q E h=>?_) (fun cdv A outer s H vs Q E hr h=>?_)
 ·obtain ⟨dW,dC,it,cs,R,e,_⟩:=h
  rw [e]
  rfl
 ·obtain ⟨dW,dC,it,cs,R,e,nWC,hW,hC,hcs,⟨nd,hlen,hB⟩,hR,hRC,k⟩:=h
  subst e
  have hr1:=hr.mono (j:=1) (by decide)
  have hu:(A.deeper (PyProof.Rows.envOfC "level_of" (defScope sLevelOf) s.heap.objs.size f cdv)).units + 1 < cLine:=by have:=hr.units; omega
  refine ⟨_,pss_cons (ps_set (i:=3) scLevelOf.nd rfl (Or.inl rfl) (pv 0))
   (pss_cons (ps_set (i:=4) scLevelOf.nd rfl (Or.inl rfl) (pe_call G1 hr1 (by rfl) m1 k1 b1 .nil pass0 (pa_cons (pv 1) pa_nil)))
   (pss_cons (ps_set (i:=5) scLevelOf.nd rfl (Or.inr rfl) (pe_tup (pa_cons (pv 3) (pa_cons (pe_call G2 hr1 (by rfl) m2 k2 b2 .nil pass0 (pa_cons (pv 1) (pa_cons (pv 4) pa_nil))) pa_nil))))
   (pss_cons (ps_setComp (i:=6) (compSc_mk (fs:=defScope sLevelOf) (N:=nLevelOf) rfl rfl (by decide +kernel)) rfl scLevelOf.nd rfl (Or.inl rfl) (pi_list (pv 4)) (fun _ _ _ _ _=>pts_one (pt_not (pt_val (pe_call G3 hr1 (by rfl) m3 k3 b3 .nil pass0 (pa_cons (pv 6) (pa_cons (pe_dget hu (pv 2) (pv 0) (fun _ _=>rfl)) (pa_cons (pe_dget hu (pv 3) (pv 0) (fun _ _=>rfl)) pa_nil))))))) (fun _ _ _ _ _=>pv 0) rfl)
   (pss_cons (ps_while PassesOwn.never (pt_cmpR op_lt (pe_callB call_len_seq (by rfl) N.len PySem.boot_len (pa_cons (pv 6) pa_nil)) (pe_callB call_len_seq (by rfl) N.len PySem.boot_len (pa_cons (pv 4) pa_nil)) (nomark _))
    (pss_cons (ps_set (i:=3) scLevelOf.nd rfl (Or.inl rfl) (pe_op op_add (pe_op op_sub (pv 3) (pe_call G2 hr1 (by rfl) m2 k2 b2 .nil pass0 (pa_cons (pv 2) (pa_cons (pv 4) pa_nil)))) (pe_call G2 hr1 (by rfl) m2 k2 b2 .nil pass0 (pa_cons (pv 2) (pa_cons (pv 6) pa_nil)))))
    (pss_cons (ps_set (i:=4) scLevelOf.nd rfl (Or.inl rfl) (pv 6))
    (pss_cons (ps_set (i:=5) scLevelOf.nd rfl (Or.inr rfl) (pe_tup (pa_cons (pv 3) (pa_cons (pe_call G2 hr1 (by rfl) m2 k2 b2 .nil pass0 (pa_cons (pv 1) (pa_cons (pv 4) pa_nil))) pa_nil))))
    (pss_one (ps_setComp (i:=6) (compSc_mk (fs:=defScope sLevelOf) (N:=nLevelOf) rfl rfl (by decide +kernel)) rfl scLevelOf.nd rfl (Or.inl rfl) (pi_list (pv 4)) (fun _ _ _ _ _=>pts_one (pt_not (pt_val (pe_call G3 hr1 (by rfl) m3 k3 b3 .nil pass0 (pa_cons (pv 6) (pa_cons (pe_dget hu (pv 2) (pv 0) (fun _ _=>rfl)) (pa_cons (pe_dget hu (pv 3) (pv 0) (fun _ _=>rfl)) pa_nil))))))) (fun _ _ _ _ _=>pv 0) rfl))))))
   (pss_cons (ps_set (i:=7) scLevelOf.nd rfl (Or.inl rfl) (pe_call G4 hr (by rfl) m4 k4 b4 .nil pass0 (pa_cons (pe_ix ix_tup (pv 5) pe_int (fun _ _=>rfl)) (pa_cons (pe_ix ix_tup (pv 5) pe_int (fun _ _=>rfl)) pa_nil))))
   (pss_one (ps_ret (pe_tup (pa_cons (pe_op op_fdivC (pe_ix ix_tup (pv 5) pe_int (fun _ _=>rfl)) (pv 7)) (pa_cons (pe_op op_fdivC (pe_ix ix_tup (pv 5) pe_int (fun _ _=>rfl)) (pv 7)) pa_nil)))))))))),?_⟩
  have hSin:∀ x ∈ it.filter posB,x ∈ it:=fun x hx=>memF hx
  have hw0:∀ x ∈ it.filter posB,0 < wI x:=fun x hx=>of_decide_eq_true (List.mem_filter.mp hx).2
  have hc0:∀ x ∈ it.filter posB,0 ≤ cI x:=fun x hx=>(hB x (memF hx)).2.2.1
  have hSl:(it.filter posB).length ≤ 60:=Nat.le_trans (List.length_filter_le _ _) hlen
  generalize hS:it.filter posB=S at *
  refine ⟨_,rfl,?_⟩
  refine ⟨_,rfl,dW,wsI it,rfl,hW,by rw [wsI_sz,szI_len]; exact hlen,fun ln H1 hln k01 hW1 h1=>?_⟩
  rw [weighted_names,hS,nmV] at h1
  have hC1:Rd H1 dC (.dK (kvW (cs))):=keepD hC (Ne.symm nWC) k01
  -- the total and the test,at any (left,names)
  have key:∀ (g:Itm→Bool),((S.filter g).map (·.1)).length ≤ 1000∧(∀ x ∈ (S.filter g).map (·.1),x ∈ (wsI it).map (·.1))∧(∀ x ∈ (S.filter g).map (·.1),x ∈ cs.map (·.1))∧∀ x ∈ S.filter g,x ∈ it:=fun g=>by
   have z:∀ x ∈ S.filter g,x ∈ it:=fun x hx=>hSin x (memF hx)
   refine ⟨?_,?_,?_,z⟩
   ·rw [List.length_map]
    have:=List.length_filter_le g S
    omega
   ·rw [wsI_sz,szI_keys]
    intro x hx
    obtain ⟨y,hy,rfl⟩:=List.mem_map.mp hx
    exact List.mem_map_of_mem (z y hy)
   ·intro x hx
    obtain ⟨y,hy,rfl⟩:=List.mem_map.mp hx
    exact mem_cs hcs (z y hy)
  have ndW:((wsI it).map (·.1)).Nodup:=by rw [wsI_sz,szI_keys]; exact nd
  have ndC:(cs.map (·.1)).Nodup:=hcs.1
  have eT:S.filter (fun _=>true)=S:=List.filter_eq_self.mpr fun _ _=>rfl
  have k0:=key fun _=>true
  rw [eT] at k0
  refine ⟨_,rfl,_,rfl,_,rfl,dW,ln,wsI it,S.map (·.1),rfl,hW1,ndW,by rw [nmV]; exact h1,k0.2.1,k0.1,fun H2 s2=>?_⟩
  rw [wsI_sz,tot_sz nd hSin]
  refine ⟨(by show 2 ≤ sizeLine; decide),fun t ht=>?_⟩
  have s3:Same H2 (upd H2 t (.tup [.int R,.int (smI wI S)])):=Same.put (Same.refl _) ht
  have h3:(upd H2 t (.tup [.int R,.int (smI wI S)])) t=some (.tup [.int R,.int (smI wI S)]):=upd_same
  generalize upd H2 t (.tup [.int R,.int (smI wI S)])=H3 at *
  have s13:=Same.trans s2 s3
  have h13:=s13 _ _ h1
  have k03:∀ b u,b ≠ dW→H b=some u→H3 b=some u:=fun b u hb e=>s13 _ _ (k01 b u hb e)
  have hW3:Rd H3 dW (.dK (kvW (wsI it))):=hW1.keep fun o e=>s13 _ _ e
  have hC3:Rd H3 dC (.dK (kvW (cs))):=hC1.keep fun o e=>s13 _ _ e
  refine ⟨_,rfl,ln,rfl,⟨_,SqL.of h13⟩,comp_of (α:=Itm) nV (fun x=>!fullB R (smI wI S) x) nV (IsIt.list (SqL.of h13)) (small (by omega)) (fun x H' Q' hx s' hq=>?_) (fun x H' Q' _ hx s' hq=>⟨_,rfl,hq _ (Same.refl _)⟩) fun lo H4 hlo s4 h4=>?_⟩
  ·obtain ⟨a1,a2,a3,a4⟩:=hB x (hSin x hx)
   exact ⟨_,rfl,_,rfl,_,rfl,dW,_,rfl,get_sz (hW3.keep fun o e=>s' _ _ e) nd (hSin x hx),_,rfl,_,rfl,dC,_,rfl,get_cs (hC3.keep fun o e=>s' _ _ e) hcs (hSin x hx),t,R,smI wI S,_,_,rfl,s' _ _ h3,a1,by omega,a3,by omega,_,rfl,hq _ (Same.refl _)⟩
  have hne:S ≠ []:=fun z=>by rw [z,smI_nil] at hRC; omega
  refine ⟨fun m σ H9=>∃ (left:Int) (g:Itm→Bool) (ln t lo:Addr),σ=[some (.int R),some (.ref dW),some (.ref dC),some (.int left),some (.ref ln),some (.ref t),some (.ref lo),none]∧(∀ b u,b ≠ dW→H b=some u→H9 b=some u)∧Rd H9 dW (.dK (kvW (wsI it)))∧H9 ln=some (.lst ((S.filter g).map nV))∧H9 t=some (.tup [.int left,.int (smI wI (S.filter g))])∧H9 lo=some (.lst (((S.filter g).filter fun x=>!fullB left (smI wI (S.filter g)) x).map nV))∧Lev S R left g∧m=(S.filter g).length,
   ⟨_,R,(fun _=>true),ln,t,lo,rfl,fun b u hb e=>s4 _ _ (k03 b u hb e),hW3.keep fun o e=>s4 _ _ e,by rw [eT]; exact s4 _ _ h13,by rw [eT]; exact s4 _ _ h3,by rw [eT]; exact h4,Lev.start hne hR,rfl⟩,?_⟩
  clear h13 k03 hW3 hC3 h3 s13 s3 s2 h4 s4 hlo h1 hC1 hW1 k01 hln
  rintro m σ H5 ⟨left,g,ln,t,lo,rfl,k5,hW5,hn5,ht5,ho5,L,rfl⟩
  have hC5:Rd H5 dC (.dK (kvW (cs))):=keepD hC (Ne.symm nWC) k5
  have hWp:=L.wpos hw0
  have hSg:(S.filter g).length ≤ 60:=Nat.le_trans (List.length_filter_le _ _) hSl
  refine ⟨_,rfl,lo,_,rfl,.inl (SqL.of ho5),_,rfl,ln,_,rfl,.inl (SqL.of hn5),_,_,rfl,rfl,_,rfl,ite2 (fun hc=>?_) (fun hc=>?_)⟩
  ·have hc':((S.filter g).filter fun x=>!fullB left (smI wI (S.filter g)) x).length < (S.filter g).length:=by
    have:=of_decide_eq_true hc
    rw [List.length_map,List.length_map] at this
    omega
   have hnext:=L.next hw0 hc0 hRC
   have eF:S.filter (fun x=>g x && !fullB left (smI wI (S.filter g)) x)=(S.filter g).filter fun x=>!fullB left (smI wI (S.filter g)) x:=by
    rw [List.filter_filter]
    congr 1
    funext x
    exact Bool.and_comm _ _
   have kg:=key g
   have kg':=key fun x=>g x && !fullB left (smI wI (S.filter g)) x
   rw [eF] at kg'
   have eC:(((S.filter g).map (·.1)).map (wOf (cs))).sum=smI cI (S.filter g):=tot_cs hcs kg.2.2.2
   have eC':((((S.filter g).filter fun x=>!fullB left (smI wI (S.filter g)) x).map (·.1)).map (wOf (cs))).sum=smI cI ((S.filter g).filter fun x=>!fullB left (smI wI (S.filter g)) x):=tot_cs hcs kg'.2.2.2
   have eW':((((S.filter g).filter fun x=>!fullB left (smI wI (S.filter g)) x).map (·.1)).map (wOf (wsI it))).sum=smI wI ((S.filter g).filter fun x=>!fullB left (smI wI (S.filter g)) x):=tot_sz (sz:=wI) nd kg'.2.2.2
   refine ⟨fun σ' H9=>∃ (left':Int) (g':Itm→Bool) (ln t lo:Addr),σ'=[some (.int R),some (.ref dW),some (.ref dC),some (.int left'),some (.ref ln),some (.ref t),some (.ref lo),none]∧(∀ b u,b ≠ dW→H b=some u→H9 b=some u)∧Rd H9 dW (.dK (kvW (wsI it)))∧H9 ln=some (.lst ((S.filter g').map nV))∧H9 t=some (.tup [.int left',.int (smI wI (S.filter g'))])∧H9 lo=some (.lst (((S.filter g').filter fun x=>!fullB left' (smI wI (S.filter g')) x).map nV))∧Lev S R left' g'∧(S.filter g').length < (S.filter g).length,
    fun σ' H9 ⟨left',g',ln,t,lo,x1,x2,x3,x4,x5,x6,x7,x8⟩=>⟨_,x8,left',g',ln,t,lo,x1,x2,x3,x4,x5,x6,x7,rfl⟩,?_⟩
   generalize hO:((S.filter g).filter fun x=>!fullB left (smI wI (S.filter g)) x)=O at *
   generalize hgd:(fun x=>g x && !fullB left (smI wI (S.filter g)) x)=g' at *
   refine ⟨_,rfl,_,rfl,_,rfl,dC,ln,cs,(S.filter g).map (·.1),rfl,hC5,ndC,by rw [nmV]; exact hn5,kg.2.2.1,kg.1,fun H6 s6=>⟨_,_,rfl,rfl,_,rfl,_,rfl,dC,lo,cs,O.map (·.1),rfl,hC5.keep fun o e=>s6 _ _ e,ndC,by rw [nmV]; exact s6 _ _ ho5,kg'.2.2.1,kg'.1,fun H7 s7=>⟨_,_,rfl,rfl,?_⟩⟩⟩
   dsimp only
   rw [eC,eC']
   generalize hl':left - smI cI (S.filter g) + smI cI O=left' at *
   have s57:=Same.trans s6 s7
   refine ⟨_,rfl,?_⟩
   refine ⟨_,rfl,_,rfl,_,rfl,dW,lo,wsI it,O.map (·.1),rfl,hW5.keep fun o e=>s57 _ _ e,ndW,by rw [nmV]; exact s57 _ _ ho5,kg'.2.1,kg'.1,fun H8 s8=>?_⟩
   rw [eW']
   refine ⟨(by show 2 ≤ sizeLine; decide),fun t' ht'=>?_⟩
   have s9:Same H8 (upd H8 t' (.tup [.int left',.int (smI wI O)])):=Same.put (Same.refl _) ht'
   have h9:(upd H8 t' (.tup [.int left',.int (smI wI O)])) t'=some (.tup [.int left',.int (smI wI O)]):=upd_same
   generalize upd H8 t' (.tup [.int left',.int (smI wI O)])=H9 at *
   have s59:=Same.trans s57 (Same.trans s8 s9)
   have ho9:=s59 _ _ ho5
   have hW9:Rd H9 dW (.dK (kvW (wsI it))):=hW5.keep fun o e=>s59 _ _ e
   have hC9:Rd H9 dC (.dK (kvW (cs))):=hC5.keep fun o e=>s59 _ _ e
   refine ⟨_,rfl,lo,rfl,⟨_,SqL.of ho9⟩,comp_of (α:=Itm) nV (fun x=>!fullB left' (smI wI O) x) nV (IsIt.list (SqL.of ho9)) (small (by omega)) (fun x H' Q' hx s' hq=>?_) (fun x H' Q' _ hx s' hq=>⟨_,rfl,hq _ (Same.refl _)⟩) fun lo' HA hlo' sA hA=>?_⟩
   ·have hxi:=kg'.2.2.2 x hx
    obtain ⟨a1,a2,a3,a4⟩:=hB x hxi
    exact ⟨_,rfl,_,rfl,_,rfl,dW,_,rfl,get_sz (hW9.keep fun o e=>s' _ _ e) nd hxi,_,rfl,_,rfl,dC,_,rfl,get_cs (hC9.keep fun o e=>s' _ _ e) hcs hxi,t',left',smI wI O,_,_,rfl,s' _ _ h9,a1,by omega,a3,by omega,_,rfl,hq _ (Same.refl _)⟩
   ·refine (show ∃ (left':Int) (g':Itm→Bool) (ln t lo:Addr),_ from ⟨left',g',lo,t',lo',rfl,fun b u hb e=>sA _ _ (s59 _ _ (k5 b u hb e)),hW9.keep fun o e=>sA _ _ e,by rw [eF]; exact sA _ _ ho9,by rw [eF]; exact sA _ _ h9,by rw [eF]; exact hA,hnext,by rw [eF]; exact hc'⟩)
  ·have hall:((S.filter g).filter fun x=>!fullB left (smI wI (S.filter g)) x).length=(S.filter g).length:=by
    have h1:=List.length_filter_le (fun x=>!fullB left (smI wI (S.filter g)) x) (S.filter g)
    by_cases z:((S.filter g).filter fun x=>!fullB left (smI wI (S.filter g)) x).length < (S.filter g).length
    ·exact absurd (decide_eq_true (by rw [List.length_map,List.length_map]; omega)) hc
    ·omega
   have hopen:∀ x ∈ S,g x=true→fullB left (smI wI (S.filter g)) x=false:=fun x hx hg=>by
    have:=List.length_filter_eq_length_iff.mp hall x (List.mem_filter.mpr ⟨hx,hg⟩)
    simpa using this
   obtain ⟨a,rfl⟩:=Int.eq_ofNat_of_zero_le L.ge
   obtain ⟨b,eb⟩:=Int.eq_ofNat_of_zero_le (Int.le_of_lt hWp)
   have hb0:0 < b:=by omega
   have ha40:a < 2 ^ 40:=by
    have h1:=L.eq
    have h2:smI cI S ≤ 1000000 * S.length:=smI_bound fun x hx=>(hB x (hSin x hx)).2.2.2
    have h3:=smI_split cI g S
    have h4:0 ≤ smI cI (S.filter fun x=>!g x):=smI_nonneg fun x hx=>hc0 x (memF hx)
    omega
   have hb40:b < 2 ^ 40:=by
    have h2:smI wI (S.filter g) ≤ 1000 * (S.filter g).length:=smI_bound fun x hx=>(hB x (hSin x (memF hx))).2.1
    omega
   rw [eb] at ht5
   refine ⟨_,rfl,t,_,_,_,rfl,rfl,SqT.of ht5,rfl,_,rfl,t,_,_,_,rfl,rfl,SqT.of ht5,rfl,a,b,rfl,ha40,hb40,fun H6 s6=>?_⟩
   have ht6:=s6 _ _ ht5
   have hg0:0 < Nat.gcd a b:=Nat.gcd_pos_of_pos_right _ hb0
   have hg40:Nat.gcd a b < 2 ^ 40:=Nat.lt_of_le_of_lt (Nat.le_of_dvd hb0 (Nat.gcd_dvd_right a b)) hb40
   have hlog:(((Nat.gcd a b:Nat):Int)).natAbs.log2 < 9000:=by
    rw [Int.natAbs_natCast]
    exact Nat.lt_trans ((Nat.log2_lt (by omega)).mpr hg40) (by decide)
   obtain ⟨g1,g2,g3⟩:=gcd_level (a:=a) hb0
   refine ⟨_,rfl,t,_,_,_,rfl,rfl,SqT.of ht6,rfl,_,rfl,_,_,rfl,rfl,⟨by omega,hlog⟩,_,rfl,t,_,_,_,rfl,rfl,SqT.of ht6,rfl,_,rfl,_,_,rfl,rfl,⟨by omega,hlog⟩,(by show 2 ≤ sizeLine; decide),fun tt htt=>?_⟩
   have s7:=Same.put (o:=.tup [.int (((a / Nat.gcd a b:Nat):Int)),.int (((b / Nat.gcd a b:Nat):Int))]) (Same.refl H6) htt
   have k6:∀ b u,b ≠ dW→H b=some u→H6 b=some u:=fun b u hb e=>s6 _ _ (k5 b u hb e)
   have hW6:Rd H6 dW (.dK (kvW (wsI it))):=hW5.keep fun o e=>s6 _ _ e
   refine k tt (a / Nat.gcd a b) (b / Nat.gcd a b) _ (free_kept hW6 k6 htt) (fun b u hb e=>s7 _ _ (k6 b u hb e)) (hW6.keep fun o e=>s7 _ _ e) upd_same ⟨g1,g2,(a:Int),g,?_,?_,?_⟩
   ·rw [hS]; exact L
   ·rw [hS]; exact hopen
   ·rw [hS,eb]; exact g3
end
end B04
namespace B04
open PySem L2 S2
theorem tab_keep {H H':Hp} {pos:Pos} {q:Str} {ps:Array Value} (h:TabOk H pos q ps) (k:∀ c,H c=some (CodeO c q)→H' c=some (CodeO c q)):TabOk H' pos q ps :=
 ⟨h.1,h.2.imp id fun ⟨c,e1,e2⟩=>⟨c,e1,k c e2⟩⟩
theorem pairs_of {H:Hp} {bs:List Addr} {l:List Itm} {v:Itm→Int} (h:RowsOf H bs (l.map fun x=>[nV x,V.int (v x)])):PairsAtK H bs (kvW (szI v l)):=by
 refine ⟨by rw [h.1,List.length_map,kvW_len,szI_len],fun i q x e1 e2=>?_⟩
 unfold kvW szI at e2
 rw [List.map_map,List.getElem?_map] at e2
 cases ex:l[i]? with
 | none=>rw [ex] at e2; cases e2
 | some y =>
  rw [ex] at e2
  cases e2
  exact h.2 i q _ e1 (by rw [List.getElem?_map,ex]; rfl)
theorem mergeP_new:∀ (ps:List (Str × Int)) (qs:List (Str × Int)),((qs ++ ps).map (·.1)).Nodup→mergeP (kvW qs) (kvW ps)=kvW (qs ++ ps)
 | [],qs,_=>by rw [List.append_nil]; rfl
 | p :: ps,qs,h=>by
  have hn:p.1 ∉ qs.map (·.1):=fun z=>by
   rw [List.map_append,List.map_cons] at h
   exact (List.nodup_append.mp h).2.2 _ z _ List.mem_cons_self rfl
  show mergeP (putK (kvW qs) (.inr p.1) (.int p.2)) (kvW ps)=_
  rw [putW_new hn,mergeP_new ps (qs ++ [(p.1,p.2)]) (by rw [List.append_assoc]; exact h),List.append_assoc]
  rfl
theorem mergeP_nil {ps:List (Str × Int)} (h:(ps.map (·.1)).Nodup):mergeP [] (kvW ps)=kvW ps:=mergeP_new ps [] h
def ovr (h:Itm→Int):List Itm→(Itm→Int)→Itm→Int
 | [],a=>a
 | y :: l,a=>ovr h l fun z=>if z.1=y.1 then h y else a z
theorem merge_ovr {it:List Itm} (h:Itm→Int):∀ (l:List Itm) (a:Itm→Int),(∀ x ∈ l,x ∈ it)→mergeP (kvW (szI a it)) (kvW (szI h l))=kvW (szI (ovr h l a) it)
 | [],a,_=>rfl
 | y :: l,a,hl=>by
  show mergeP (putK (kvW (szI a it)) (.inr y.1) (.int (h y))) (kvW (szI h l))=_
  rw [putW_old (by rw [szI_keys]; exact List.mem_map_of_mem (hl y List.mem_cons_self))]
  have e:((szI a it).map fun p=>if p.1=y.1 then (p.1,h y) else p)=szI (fun z=>if z.1=y.1 then h y else a z) it:=by
   unfold szI
   rw [List.map_map]
   refine List.map_congr_left fun x _=>?_
   show (if x.1=y.1 then (x.1,h y) else (x.1,a x))=(x.1,if x.1=y.1 then h y else a x)
   split <;> rfl
  rw [e,merge_ovr h l _ fun x hx=>hl x (List.mem_cons_of_mem _ hx)]
  rfl
theorem name_inj {it:List Itm} (nd:(it.map (·.1)).Nodup) {x y:Itm} (hx:x ∈ it) (hy:y ∈ it) (e:x.1=y.1):x=y:=by
 induction it with
 | nil=>cases hx
 | cons z r ih =>
  rw [List.map_cons,List.nodup_cons] at nd
  rcases List.mem_cons.mp hx with a | a <;> rcases List.mem_cons.mp hy with b | b
  ·rw [a,b]
  ·exact absurd (by rw [← a,e]; exact List.mem_map_of_mem b) nd.1
  ·exact absurd (by rw [← b,← e]; exact List.mem_map_of_mem a) nd.1
  ·exact ih nd.2 a b
theorem ovr_of {it:List Itm} (nd:(it.map (·.1)).Nodup) (h:Itm→Int):∀ (l:List Itm) (a:Itm→Int) (x:Itm),(l.map (·.1)).Nodup→(∀ y ∈ l,y ∈ it)→x ∈ it→(x ∈ l→ovr h l a x=h x)∧(x ∉ l→ovr h l a x=a x)
 | [],a,x,_,_,_=>⟨(fun z=>nomatch z),fun _=>rfl⟩
 | y :: l,a,x,ndl,hl,hx=>by
  rw [List.map_cons,List.nodup_cons] at ndl
  obtain ⟨i1,i2⟩:=ovr_of nd h l (fun z=>if z.1=y.1 then h y else a z) x ndl.2 (fun z hz=>hl z (List.mem_cons_of_mem _ hz)) hx
  refine ⟨fun z=>?_,fun z=>?_⟩
  ·by_cases hxl:x ∈ l
   ·exact i1 hxl
   ·rcases List.mem_cons.mp z with e | e
    ·show ovr h l _ x=_
     rw [i2 hxl,if_pos (by rw [e]),e]
    ·exact absurd e hxl
  ·rw [List.mem_cons,not_or] at z
   show ovr h l _ x=_
   rw [i2 z.2,if_neg fun e=>z.1 (name_inj nd hx (hl y List.mem_cons_self) e)]
theorem szI_congr {u v:Itm→Int} {it:List Itm} (h:∀ x ∈ it,u x=v x):szI u it=szI v it:=by
 unfold szI
 exact List.map_congr_left fun x hx=>by rw [h x hx]
def dlt (R':Int) (O:List Itm) (out:List Str) (x:Itm):Int:=DV.part R' (DV.whole (wsI O)) (wI x) + if x.1 ∈ out.take (leftOf R' (wsI O)).toNat then 1 else 0
def PourOk (it:List Itm) (R:Int) (sz:Itm→Int) (lv:V) (H:Hp):Prop :=
 (smI cI (it.filter posB) ≤ R∧lv=.non∧∀ x ∈ it,sz x=if posB x=true then cI x else 0) ∨
 (R < smI cI (it.filter posB)∧∃ (t:Addr) (p q:Nat) (out:List Str),lv=.ref t∧H t=some (.tup [.int p,.int q])∧LevOk it R p q ∧
  out.Perm (((it.filter posB).filter fun x=>!fullB p q x).map (·.1)) ∧
  out.Pairwise (fun x y=>DV.lexLt (-(restOf (R - smI cI ((it.filter posB).filter (fullB p q))) (wsI ((it.filter posB).filter fun x=>!fullB p q x)) y),y) (-(restOf (R - smI cI ((it.filter posB).filter (fullB p q))) (wsI ((it.filter posB).filter fun x=>!fullB p q x)) x),x)=false) ∧
  ∀ x ∈ it,sz x=if posB x=true then (if fullB p q x=true then cI x else dlt (R - smI cI ((it.filter posB).filter (fullB p q))) ((it.filter posB).filter fun x=>!fullB p q x) out x) else 0)
theorem whole_smI (l:List Itm):DV.whole (wsI l)=smI wI l:=by
 unfold DV.whole wsI smI
 rw [List.map_map]
 rfl
theorem lev_open {it:List Itm} {R:Int} {p q:Nat} (hR:0 ≤ R) (hc:∀ x ∈ it,0 ≤ cI x) (h:LevOk it R p q):((it.filter posB).filter fun x=>!fullB p q x) ≠ []∧0 ≤ R - smI cI ((it.filter posB).filter (fullB p q))∧R - smI cI ((it.filter posB).filter (fullB p q)) ≤ R ∧
  smI (fun x=>min (cI x * q) (wI x * p)) (it.filter posB)=R * q∧∀ x ∈ (it.filter posB).filter fun x=>!fullB p q x,wI x * (R - smI cI ((it.filter posB).filter (fullB p q))) < cI x * smI wI ((it.filter posB).filter fun x=>!fullB p q x):=by
 obtain ⟨hq,_,left,f,L,hop,hpq⟩:=h
 have hw0:∀ x ∈ it.filter posB,0 < wI x:=fun x hx=>of_decide_eq_true (List.mem_filter.mp hx).2
 obtain ⟨key,hsum⟩:=lev_sum hw0 L hop (by omega) hpq
 have hcS:∀ x ∈ it.filter posB,0 ≤ cI x:=fun x hx=>hc x (memF hx)
 generalize it.filter posB=S at *
 have eO:(S.filter fun x=>!fullB p q x)=S.filter f:=List.filter_congr fun x hx=>by rw [key x hx]; simp
 have eF:S.filter (fullB p q)=S.filter fun x=>!f x:=List.filter_congr fun x hx=>key x hx
 rw [eO,eF]
 have s:=smI_split cI f S
 have e:=L.eq
 have g:=L.ge
 refine ⟨L.ne,by omega,?_,hsum,fun x hx=>?_⟩
 ·have:0 ≤ smI cI (S.filter fun x=>!f x):=smI_nonneg fun x hx=>hcS x (memF hx)
  omega
 ·have e1:R - smI cI (S.filter fun x=>!f x)=left:=by omega
  rw [e1]
  have:=of_decide_eq_false (hop x (memF hx) (List.mem_filter.mp hx).2)
  omega
theorem keys_nV (sz:Itm→Int) (it:List Itm):(kvW (szI sz it)).map (fun kv=>kV kv.1)=it.map nV:=by
 unfold kvW szI
 rw [List.map_map,List.map_map]
 rfl
def spPour (T:Addr):Sp:=fun vs H Q _=>∃ (dW dC:Addr) (it:List Itm) (cs:List (Str × Int)) (R:Int) (ps:Array Value),vs=[.int R,.ref dW,.ref dC]∧dW ≠ dC∧Rd H dW (.dK (kvW (wsI it)))∧Rd H dC (.dK (kvW cs))∧CapsOk cs it∧InB it∧0 ≤ R∧R < 2 ^ 32∧H T=some (.tbl ps)∧TabOk H lamPos lamQual ps ∧
 ∀ (tt sd:Addr) (sz:Itm→Int) (lv:V) (ps':Array Value) (H':Hp),H tt=none→H sd=none→(∀ b u,b ≠ T→b ≠ dW→H b=some u→H' b=some u)→Rd H' dW (.dK (kvW (wsI it)))→H' T=some (.tbl ps')→TabOk H' lamPos lamQual ps' →
  H' tt=some (.tup [.ref sd,lv])→H' sd=some (.dK (kvW (szI sz it)))→PourOk it R sz lv H'→Q (.ref tt) H'
section
variable {P:Program} {w:World} {K:PySem.W.Frag} {mg:Str→Option Value} {base:Heap}
abbrev nPour:List Str:=["room","weights","caps","sizes","names","level","full","others"]
theorem scPour:FnScope nPour ["room","weights","caps"] (defScope sPour):=⟨rfl,rfl,rfl,by decide +kernel,rfl,by decide +kernel,by decide +kernel⟩
set_option maxHeartbeats 16000000 in
theorem ok_pour {f f1 f2 f3 f4 f5 T:Addr} {fd d1 d2 d3 d4 d5:FuncData} (F:Fun K "pour" "pour" sPour f fd) (N:Names mg)
  (G1:FnOk P w K mg base CX0 1 f1 d1 ["weights"] spWeighted) (b1:Binds K d1 ["weights"] []) (m1:mg "weighted"=some (.ref f1)) (k1:PySem.W.keepIn K (.ref f1)=true)
  (G2:FnOk P w K mg base CX0 1 f2 d2 ["numbers","names"] spTotal) (b2:Binds K d2 ["numbers","names"] []) (m2:mg "total_of"=some (.ref f2)) (k2:PySem.W.keepIn K (.ref f2)=true)
  (G3:FnOk P w K mg base CX0 1 f3 d3 ["level","weight","cap"] spFills) (b3:Binds K d3 ["level","weight","cap"] []) (m3:mg "fills"=some (.ref f3)) (k3:PySem.W.keepIn K (.ref f3)=true)
  (G4:FnOk P w K mg base CX0 3 f4 d4 ["room","weights","caps"] spLevelOf) (b4:Binds K d4 ["room","weights","caps"] []) (m4:mg "level_of"=some (.ref f4)) (k4:PySem.W.keepIn K (.ref f4)=true)
  (G5:FnOk P w K mg base CX0 2 f5 d5 ["room","weights"] (spDeal T)) (b5:Binds K d5 ["room","weights"] []) (m5:mg "deal"=some (.ref f5)) (k5:PySem.W.keepIn K (.ref f5)=true) :
  FnOk P w K mg base CX0 4 f fd ["room","weights","caps"] (spPour T):=by
 refine F.ok scPour (fun vs H Q E h=>?_) (fun cdv A outer s H vs Q E hr h=>?_)
 ·obtain ⟨dW,dC,it,cs,R,ps,e,_⟩:=h
  rw [e]
  rfl
 ·obtain ⟨dW,dC,it,cs,R,ps,e,nWC,hW,hC,hcs,hIn,hR,hR32,hT,hTk,k⟩:=h
  subst e
  have hr1:=hr.mono (j:=1) (by decide)
  have hr2:=hr.mono (j:=2) (by decide)
  have hu:(A.deeper (PyProof.Rows.envOfC "pour" (defScope sPour) s.heap.objs.size f cdv)).units + 1 < cLine:=by have:=hr.units; omega
  refine ⟨_,pss_cons (ps_set (i:=3) scPour.nd rfl (Or.inl rfl) (pe_callTy (call_dictPK rfl) (by rfl) N.dict PyProof.Rows.boot_dict (pa_cons (pe_comp (compSc_mk (fs:=defScope sPour) (N:=nPour) rfl rfl (by decide +kernel)) rfl (pi_keys (pv 1)) (fun _ _ _ _ _=>pts_nil) (fun _ _ _ _ _=>pe_tup (pa_cons (pv 0) (pa_cons pe_int pa_nil)))) pa_nil)))
   (pss_cons (ps_set (i:=4) scPour.nd rfl (Or.inl rfl) (pe_call G1 hr1 (by rfl) m1 k1 b1 .nil pass0 (pa_cons (pv 1) pa_nil)))
   (pss_cons (ps_if (pt_cmpR op_ge (pv 0) (pe_call G2 hr1 (by rfl) m2 k2 b2 .nil pass0 (pa_cons (pv 2) (pa_cons (pv 4) pa_nil))) (nomark _))
    (pss_cons (ps_expr (pe_bm PySem.F.plainAttrs_dict PySem.F.slot_dict_update PySem.F.type_dict_update (mt_updateP rfl) (pv 3) (pa_cons (pe_comp (compSc_mk (fs:=defScope sPour) (N:=nPour) rfl rfl (by decide +kernel)) rfl (pi_list (pv 4)) (fun _ _ _ _ _=>pts_nil) (fun _ _ _ _ _=>pe_tup (pa_cons (pv 0) (pa_cons (pe_dget hu (pv 3) (pv 0) (fun _ _=>rfl)) pa_nil)))) pa_nil)))
    (pss_one (ps_ret (pe_tup (pa_cons (pv 3) (pa_cons pe_non pa_nil)))))) pss_nil)
   (pss_cons (ps_set (i:=5) scPour.nd rfl (Or.inr rfl) (pe_call G4 hr (by rfl) m4 k4 b4 .nil pass0 (pa_cons (pv 0) (pa_cons (pv 1) (pa_cons (pv 2) pa_nil)))))
   (pss_cons (ps_setComp (i:=6) (compSc_mk (fs:=defScope sPour) (N:=nPour) rfl rfl (by decide +kernel)) rfl scPour.nd rfl (Or.inl rfl) (pi_list (pv 4)) (fun _ _ _ _ _=>pts_one (pt_val (pe_call G3 hr1 (by rfl) m3 k3 b3 .nil pass0 (pa_cons (pv 6) (pa_cons (pe_dget hu (pv 2) (pv 0) (fun _ _=>rfl)) (pa_cons (pe_dget hu (pv 3) (pv 0) (fun _ _=>rfl)) pa_nil)))))) (fun _ _ _ _ _=>pv 0) rfl)
   (pss_cons (ps_set (i:=7) scPour.nd rfl (Or.inl rfl) (pe_callTy (call_dictPK rfl) (by rfl) N.dict PyProof.Rows.boot_dict (pa_cons (pe_comp (compSc_mk (fs:=defScope sPour) (N:=nPour) rfl rfl (by decide +kernel)) rfl (pi_list (pv 4)) (fun _ _ _ _ _=>pts_one (pt_not (pt_val (pe_call G3 hr1 (by rfl) m3 k3 b3 .nil pass0 (pa_cons (pv 6) (pa_cons (pe_dget hu (pv 2) (pv 0) (fun _ _=>rfl)) (pa_cons (pe_dget hu (pv 3) (pv 0) (fun _ _=>rfl)) pa_nil))))))) (fun _ _ _ _ _=>pe_tup (pa_cons (pv 0) (pa_cons (pe_dget hu (pv 2) (pv 0) (fun _ _=>rfl)) pa_nil)))) pa_nil)))
   (pss_cons (ps_expr (pe_bm PySem.F.plainAttrs_dict PySem.F.slot_dict_update PySem.F.type_dict_update (mt_updateP rfl) (pv 3) (pa_cons (pe_comp (compSc_mk (fs:=defScope sPour) (N:=nPour) rfl rfl (by decide +kernel)) rfl (pi_list (pv 6)) (fun _ _ _ _ _=>pts_nil) (fun _ _ _ _ _=>pe_tup (pa_cons (pv 0) (pa_cons (pe_dget hu (pv 3) (pv 0) (fun _ _=>rfl)) pa_nil)))) pa_nil)))
   (pss_cons (ps_expr (pe_bm PySem.F.plainAttrs_dict PySem.F.slot_dict_update PySem.F.type_dict_update mt_updateK (pv 3) (pa_cons (pe_call G5 hr2 (by rfl) m5 k5 b5 .nil pass0 (pa_cons (pe_op op_sub (pv 0) (pe_call G2 hr1 (by rfl) m2 k2 b2 .nil pass0 (pa_cons (pv 2) (pa_cons (pv 6) pa_nil)))) (pa_cons (pv 7) pa_nil))) pa_nil)))
   (pss_one (ps_ret (pe_tup (pa_cons (pv 3) (pa_cons (pv 5) pa_nil)))))))))))),?_⟩
  obtain ⟨nd,hlen,hB⟩:=id hIn
  have nTW:T ≠ dW:=fun z=>by
   rw [z] at hT
   rcases hW with y | ⟨_,y⟩ <;> (rw [hT] at y; cases y)
  have hSin:∀ x ∈ it.filter posB,x ∈ it:=fun x hx=>memF hx
  have hSl:(it.filter posB).length ≤ 60:=Nat.le_trans (List.length_filter_le _ _) hlen
  have hSnd:=nd_filter nd posB
  have ndW:((wsI it).map (·.1)).Nodup:=by rw [wsI_sz,szI_keys]; exact nd
  have ndC:(cs.map (·.1)).Nodup:=hcs.1
  -- sizes
  refine ⟨_,rfl,dW,_,rfl,hW,fun o=>?_⟩
  have h1:(upd H dW (.frz o (.dK (kvW (wsI it))))) dW=some (.frz o (.dK (kvW (wsI it)))):=upd_same
  have k01:∀ b u,b ≠ dW→H b=some u→(upd H dW (.frz o (.dK (kvW (wsI it))))) b=some u:=fun b u hb e=>by rw [upd_ne hb]; exact e
  have hW1:Rd (upd H dW (.frz o (.dK (kvW (wsI it))))) dW (.dK (kvW (wsI it))):=.inr ⟨o,h1⟩
  generalize upd H dW (.frz o (.dK (kvW (wsI it))))=H1 at *
  have eT:it.filter (fun _=>true)=it:=List.filter_eq_self.mpr fun _ _=>rfl
  refine comp_ofT (α:=Itm) (l:=it) nV (fun _=>true) (fun x=>[nV x,V.int 0]) (by have z:=IsIt.keys h1; rw [wsI_sz,keys_nV] at z; exact z) (small (by omega)) (fun x H' Q' _ _ hq=>hq _ (Same.refl _)) (fun x H' Q' _ hx s' hq=>⟨_,rfl,(by show 2 ≤ sizeLine; decide),fun t ht=>hq t ht⟩) fun D bs H2 hD s2 h2 hr2=>?_
  rw [eT] at hr2
  refine ⟨D,bs,kvW (szI (fun _=>0) it),rfl,h2,pairs_of hr2,small (by rw [hr2.1,List.length_map]; omega),fun sd hsd=>?_⟩
  rw [mergeP_nil (by rw [szI_keys]; exact nd)]
  have s3:Same H2 (upd H2 sd (.dK (kvW (szI (fun _=>0) it)))):=Same.put (Same.refl _) hsd
  have h3:(upd H2 sd (.dK (kvW (szI (fun _=>0) it)))) sd=some (.dK (kvW (szI (fun _=>0) it))):=upd_same
  generalize upd H2 sd (.dK (kvW (szI (fun _=>0) it)))=H3 at *
  have s13:=Same.trans s2 s3
  have hW3:Rd H3 dW (.dK (kvW (wsI it))):=hW1.keep fun o e=>s13 _ _ e
  have k03:∀ b u,b ≠ dW→H b=some u→H3 b=some u:=fun b u hb e=>s13 _ _ (k01 b u hb e)
  have hsd0:H sd=none:=free_kept (hW1.keep fun o e=>s2 _ _ e) (fun b u hb e=>s2 _ _ (k01 b u hb e)) hsd
  have nsW:sd ≠ dW:=fun z=>by
   rw [z] at hsd0
   rcases hW with y | ⟨_,y⟩ <;> (rw [hsd0] at y; cases y)
  clear s13 s3 s2 h2 hr2 hD k01 hW1 h1
  -- names
  refine ⟨_,rfl,dW,wsI it,rfl,hW3,by rw [wsI_sz,szI_len]; exact hlen,fun ln H4 hln k34 hW4 h4=>?_⟩
  rw [weighted_names,nmV] at h4
  have k04:∀ b u,b ≠ dW→H b=some u→H4 b=some u:=fun b u hb e=>k34 b u hb (k03 b u hb e)
  have hC4:Rd H4 dC (.dK (kvW (cs))):=keepD hC (Ne.symm nWC) k04
  have h4s:=k34 _ _ nsW h3
  clear k34 k03 hW3 h3 hln
  have hin:∀ l:List Itm,(∀ x ∈ l,x ∈ it)→(∀ x ∈ l.map (·.1),x ∈ cs.map (·.1)):=fun l hl x hx=>by
   obtain ⟨y,hy,rfl⟩:=List.mem_map.mp hx
   exact mem_cs hcs (hl y hy)
  refine ⟨_,rfl,_,rfl,_,rfl,dC,ln,cs,(it.filter posB).map (·.1),rfl,hC4,ndC,by rw [nmV]; exact h4,hin _ hSin,by rw [List.length_map]; omega,fun H5 s5=>?_⟩
  rw [tot_cs hcs hSin]
  have k05:∀ b u,b ≠ dW→H b=some u→H5 b=some u:=fun b u hb e=>s5 _ _ (k04 b u hb e)
  have hW5:Rd H5 dW (.dK (kvW (wsI it))):=hW4.keep fun o e=>s5 _ _ e
  have hC5:Rd H5 dC (.dK (kvW cs)):=hC4.keep fun o e=>s5 _ _ e
  have h5s:=s5 _ _ h4s
  have h5n:=s5 _ _ h4
  clear s5 k04 hW4 hC4 h4s h4
  refine ⟨_,_,rfl,rfl,_,rfl,ite2 (fun hc=>?_) (fun hc=>?_)⟩
  ·have hc':smI cI (it.filter posB) ≤ R:=of_decide_eq_true hc
   have eTS:(it.filter posB).filter (fun _=>true)=it.filter posB:=List.filter_eq_self.mpr fun _ _=>rfl
   refine ⟨_,rfl,.inr (.inr (.inl ⟨rfl,.inl ⟨_,h5s⟩⟩)),_,rfl,ln,rfl,⟨_,SqL.of h5n⟩,comp_ofT (α:=Itm) nV (fun _=>true) (fun x=>[nV x,V.int (cI x)]) (IsIt.list (SqL.of h5n)) (small (by omega)) (fun x H' Q' _ _ hq=>hq _ (Same.refl _)) (fun x H' Q' _ hx s' hq=>⟨_,rfl,_,rfl,_,rfl,dC,_,rfl,get_cs (hC5.keep fun o e=>s' _ _ e) hcs (hSin x hx),(by show 2 ≤ sizeLine; decide),fun t ht=>hq t ht⟩) fun D bs H6 hD s6 h6 hr6=>?_⟩
   rw [eTS] at hr6
   have h6s:=s6 _ _ h5s
   refine ⟨sd,D,_,bs,kvW (szI cI (it.filter posB)),rfl,rfl,h6s,h6,pairs_of hr6,small (by rw [kvW_len,szI_len,hr6.1,List.length_map]; omega),?_⟩
   rw [merge_ovr _ _ _ hSin]
   have eS:szI (ovr cI (it.filter posB) fun _=>0) it=szI (fun x=>if posB x=true then cI x else 0) it:=szI_congr fun x hx=>by
    obtain ⟨o1,o2⟩:=ovr_of nd cI (it.filter posB) (fun _=>0) x hSnd hSin hx
    cases hp:posB x with
    | true=>rw [o1 (List.mem_filter.mpr ⟨hx,hp⟩)]; rfl
    | false=>rw [o2 fun z=>by rw [(List.mem_filter.mp z).2] at hp; cases hp]; rfl
   rw [eS]
   have k7:∀ b u,b ≠ sd→H6 b=some u→(upd H6 sd (.dK (kvW (szI (fun x=>if posB x=true then cI x else 0) it)))) b=some u:=fun b u hb e=>by rw [upd_ne hb]; exact e
   have h7:(upd H6 sd (.dK (kvW (szI (fun x=>if posB x=true then cI x else 0) it)))) sd=some (.dK (kvW (szI (fun x=>if posB x=true then cI x else 0) it))):=upd_same
   generalize upd H6 sd (.dK (kvW (szI (fun x=>if posB x=true then cI x else 0) it)))=H7 at *
   have k07:∀ b u,b ≠ dW→H b=some u→H7 b=some u:=fun b u hb e=>k7 _ _ (ne_of_none e hsd0) (s6 _ _ (k05 b u hb e))
   have hW7:Rd H7 dW (.dK (kvW (wsI it))):=hW5.keep fun o e=>k7 _ _ (Ne.symm nsW) (s6 _ _ e)
   refine ⟨_,rfl,(by show 2 ≤ sizeLine; decide),fun tt htt=>?_⟩
   have s8:=Same.put (o:=.tup [.ref sd,.non]) (Same.refl H7) htt
   exact k tt sd _ .non ps _ (free_kept hW7 k07 htt) hsd0 (fun b u _ hb e=>s8 _ _ (k07 b u hb e)) (hW7.keep fun o e=>s8 _ _ e) (s8 _ _ (k07 _ _ nTW hT)) (tab_keep hTk fun c e=>s8 _ _ (k07 _ _ (fun z=>by rw [z] at e; rcases hW with y | ⟨_,y⟩ <;> (rw [e] at y; cases y)) e)) upd_same (s8 _ _ h7) (.inl ⟨hc',rfl,fun x _=>rfl⟩)
  ·have hc':R < smI cI (it.filter posB):=by
    by_cases z:R < smI cI (it.filter posB)
    ·exact z
    ·exact absurd (decide_eq_true (by omega)) hc
   have nlW:ln ≠ dW:=fun z=>by
    rw [z] at h5n
    rcases hW5 with y | ⟨_,y⟩ <;> (rw [h5n] at y; cases y)
   refine ⟨_,rfl,_,rfl,_,rfl,dW,dC,it,cs,R,rfl,nWC,hW5,hC5,hcs,hIn,hR,hc',fun t p q H6 ht0 k56 hW6 h6 hLev=>?_⟩
   obtain ⟨hOne,hR0,hR1,hsum,hoc⟩:=lev_open hR (fun x hx=>(hB x hx).2.2.1) hLev
   have k06:∀ b u,b ≠ dW→H b=some u→H6 b=some u:=fun b u hb e=>k56 b u hb (k05 b u hb e)
   have hC6:Rd H6 dC (.dK (kvW cs)):=keepD hC5 (Ne.symm nWC) k56
   have h6s:=k56 _ _ nsW h5s
   have h6n:=k56 _ _ nlW h5n
   clear k56 k05 hW5 hC5 h5s h5n ht0
   generalize hS:it.filter posB=S at *
   have hFl:(S.filter (fullB p q)).length ≤ 60:=Nat.le_trans (List.length_filter_le _ _) hSl
   have hOl:(S.filter fun x=>!fullB p q x).length ≤ 60:=Nat.le_trans (List.length_filter_le _ _) hSl
   have hFin:∀ x ∈ S.filter (fullB p q),x ∈ it:=fun x hx=>hSin x (memF hx)
   have hOin:∀ x ∈ S.filter (fun x=>!fullB p q x),x ∈ it:=fun x hx=>hSin x (memF hx)
   have hFnd:((S.filter (fullB p q)).map (·.1)).Nodup:=by rw [← hS]; exact nd_filter (nd_filter nd posB) _
   have hOnd:((S.filter fun x=>!fullB p q x).map (·.1)).Nodup:=by rw [← hS]; exact nd_filter (nd_filter nd posB) _
   -- full
   refine ⟨_,rfl,ln,rfl,⟨_,SqL.of h6n⟩,comp_of (α:=Itm) nV (fullB p q) nV (IsIt.list (SqL.of h6n)) (small (by omega)) (fun x H' Q' hx s' hq=>?_) (fun x H' Q' _ hx s' hq=>⟨_,rfl,hq _ (Same.refl _)⟩) fun lf H7 hlf s7 h7=>?_⟩
   ·obtain ⟨a1,a2,a3,a4⟩:=hB x (hSin x hx)
    exact ⟨_,rfl,_,rfl,_,rfl,dW,_,rfl,get_sz (hW6.keep fun o e=>s' _ _ e) nd (hSin x hx),_,rfl,_,rfl,dC,_,rfl,get_cs (hC6.keep fun o e=>s' _ _ e) hcs (hSin x hx),t,p,q,_,_,rfl,s' _ _ h6,a1,by omega,a3,by omega,_,rfl,hq _ (Same.refl _)⟩
   have hW7:Rd H7 dW (.dK (kvW (wsI it))):=hW6.keep fun o e=>s7 _ _ e
   have hC7:Rd H7 dC (.dK (kvW cs)):=hC6.keep fun o e=>s7 _ _ e
   have h7n:=s7 _ _ h6n
   have h7t:=s7 _ _ h6
   -- others
   refine ⟨_,rfl,ln,rfl,⟨_,SqL.of h7n⟩,comp_ofT (α:=Itm) nV (fun x=>!fullB p q x) (fun x=>[nV x,V.int (wI x)]) (IsIt.list (SqL.of h7n)) (small (by omega)) (fun x H' Q' hx s' hq=>?_) (fun x H' Q' _ hx s' hq=>⟨_,rfl,_,rfl,_,rfl,dW,_,rfl,get_sz (hW7.keep fun o e=>s' _ _ e) nd (hSin x hx),(by show 2 ≤ sizeLine; decide),fun t ht=>hq t ht⟩) fun D bs H8 hD s8 h8 hr8=>?_⟩
   ·obtain ⟨a1,a2,a3,a4⟩:=hB x (hSin x hx)
    exact ⟨_,rfl,_,rfl,_,rfl,dW,_,rfl,get_sz (hW7.keep fun o e=>s' _ _ e) nd (hSin x hx),_,rfl,_,rfl,dC,_,rfl,get_cs (hC7.keep fun o e=>s' _ _ e) hcs (hSin x hx),t,p,q,_,_,rfl,s' _ _ h7t,a1,by omega,a3,by omega,_,rfl,hq _ (Same.refl _)⟩
   refine ⟨D,bs,kvW (szI wI (S.filter fun x=>!fullB p q x)),rfl,h8,pairs_of hr8,small (by rw [hr8.1,List.length_map]; omega),fun od hod=>?_⟩
   rw [mergeP_nil (by rw [szI_keys]; exact hOnd)]
   have s9:Same H8 (upd H8 od (.dK (kvW (szI wI (S.filter fun x=>!fullB p q x))))):=Same.put (Same.refl _) hod
   have h9:(upd H8 od (.dK (kvW (szI wI (S.filter fun x=>!fullB p q x))))) od=some (.dK (kvW (szI wI (S.filter fun x=>!fullB p q x)))):=upd_same
   generalize upd H8 od (.dK (kvW (szI wI (S.filter fun x=>!fullB p q x))))=H9 at *
   have s69:=Same.trans s7 (Same.trans s8 s9)
   have hod6:H6 od=none:=same_none (Same.trans s7 s8) hod
   have h9f:=Same.trans s8 s9 _ _ h7
   have h9s:=s69 _ _ h6s
   have h9t:=s69 _ _ h6
   have k09:∀ b u,b ≠ dW→H b=some u→H9 b=some u:=fun b u hb e=>s69 _ _ (k06 b u hb e)
   have hW9:Rd H9 dW (.dK (kvW (wsI it))):=hW6.keep fun o e=>s69 _ _ e
   have hC9:Rd H9 dC (.dK (kvW cs)):=hC6.keep fun o e=>s69 _ _ e
   have nso:sd ≠ od:=ne_of_none h6s hod6
   have nto:t ≠ od:=ne_of_none h6 hod6
   have hod0:H od=none:=free_kept hW6 k06 hod6
   clear s69 s9 s8 h8 hr8 hD h7t h7n hC7 hW7 h7 s7 hlf
   -- the full ones
   have eTF:(S.filter (fullB p q)).filter (fun _=>true)=S.filter (fullB p q):=List.filter_eq_self.mpr fun _ _=>rfl
   refine ⟨_,rfl,.inr (.inr (.inl ⟨rfl,.inl ⟨_,h9s⟩⟩)),_,rfl,lf,rfl,⟨_,SqL.of h9f⟩,comp_ofT (α:=Itm) nV (fun _=>true) (fun x=>[nV x,V.int (cI x)]) (IsIt.list (SqL.of h9f)) (small (by omega)) (fun x H' Q' _ _ hq=>hq _ (Same.refl _)) (fun x H' Q' _ hx s' hq=>⟨_,rfl,_,rfl,_,rfl,dC,_,rfl,get_cs (hC9.keep fun o e=>s' _ _ e) hcs (hFin x hx),(by show 2 ≤ sizeLine; decide),fun t ht=>hq t ht⟩) fun D bs HA hD sA hA hrA=>?_⟩
   rw [eTF] at hrA
   refine ⟨sd,D,_,bs,kvW (szI cI (S.filter (fullB p q))),rfl,rfl,sA _ _ h9s,hA,pairs_of hrA,small (by rw [kvW_len,szI_len,hrA.1,List.length_map]; omega),?_⟩
   rw [merge_ovr _ _ _ hFin]
   generalize hov:ovr cI (S.filter (fullB p q)) (fun _=>0)=ov at *
   have kB:∀ b u,b ≠ sd→H9 b=some u→(upd HA sd (.dK (kvW (szI ov it)))) b=some u:=fun b u hb e=>by rw [upd_ne hb]; exact sA _ _ e
   have hBs:(upd HA sd (.dK (kvW (szI ov it)))) sd=some (.dK (kvW (szI ov it))):=upd_same
   generalize upd HA sd (.dK (kvW (szI ov it)))=HB at *
   have ntS:t ≠ sd:=ne_of h9t h9s (by intro z; cases z)
   have nfS:lf ≠ sd:=ne_of h9f h9s (by intro z; cases z)
   have hCB:Rd HB dC (.dK (kvW cs)):=hC9.keep fun o e=>kB _ _ (fun z=>by
    rw [z] at e
    rw [h9s] at e
    have hCs:H dC=none:=by rw [z]; exact hsd0
    rcases hC with y | ⟨_,y⟩ <;> (rw [hCs] at y; cases y)) e
   have k0B:∀ b u,b ≠ dW→H b=some u→HB b=some u:=fun b u hb e=>kB _ _ (ne_of_none e hsd0) (k09 b u hb e)
   have hWB:Rd HB dW (.dK (kvW (wsI it))):=hW9.keep fun o e=>kB _ _ (Ne.symm nsW) e
   have hBf:=kB _ _ nfS h9f
   have hBt:=kB _ _ ntS h9t
   have hBo:=kB _ _ (Ne.symm nso) h9
   -- the open ones
   refine ⟨_,rfl,.inr (.inr (.inl ⟨rfl,.inl ⟨_,hBs⟩⟩)),_,rfl,_,rfl,_,rfl,dC,lf,cs,(S.filter (fullB p q)).map (·.1),rfl,hCB,ndC,by rw [nmV]; exact hBf,hin _ hFin,by rw [List.length_map]; omega,fun HC sC=>?_⟩
   rw [tot_cs hcs hFin]
   have hWO:DV.whole (wsI (S.filter fun x=>!fullB p q x))=smI wI (S.filter fun x=>!fullB p q x):=whole_smI _
   have hWp:0 < smI wI (S.filter fun x=>!fullB p q x):=smI_pos hOne fun x hx=>by
    have:=memF hx
    rw [← hS] at this
    exact of_decide_eq_true (List.mem_filter.mp this).2
   have hWb:smI wI (S.filter fun x=>!fullB p q x) ≤ 1000 * (S.filter fun x=>!fullB p q x).length:=smI_bound fun x hx=>(hB x (hOin x hx)).2.1
   have kC:∀ b u,b ≠ dW→H b=some u→HC b=some u:=fun b u hb e=>sC _ _ (k0B b u hb e)
   have hTC:=kC _ _ nTW hT
   have nTs:T ≠ sd:=ne_of_none hT hsd0
   have nTo:T ≠ od:=ne_of_none hT hod0
   have hTkC:TabOk HC lamPos lamQual ps:=tab_keep hTk fun c e=>kC _ _ (fun z=>by rw [z] at e; rcases hW with y | ⟨_,y⟩ <;> (rw [e] at y; cases y)) e
   refine ⟨_,_,rfl,rfl,_,rfl,od,R - smI cI (S.filter (fullB p q)),wsI (S.filter fun x=>!fullB p q x),ps,rfl,.inl (sC _ _ hBo),by rw [wsI_sz,szI_keys]; exact hOnd,(fun z=>hOne (List.map_eq_nil_iff.mp z)),by rw [wsI_sz,szI_len]; omega,hR0,by omega,by rw [hWO]; exact hWp,by rw [hWO]; omega,hTC,hTkC,fun Sd HD ps' out hSd kD hdD hTD hTkD hp hs hSD=>?_⟩
   have hDs:HD sd=some (.dK (kvW (szI ov it))):=kD _ _ (Ne.symm nTs) nso (sC _ _ hBs)
   have hDt:HD t=some (.tup [.int p,.int q]):=kD _ _ (fun z=>by have y:=sC _ _ hBt; rw [z,hTC] at y; cases y) nto (sC _ _ hBt)
   have nsS:sd ≠ Sd:=ne_of_none (sC _ _ hBs) hSd
   have hde:dealt (R - smI cI (S.filter (fullB p q))) (wsI (S.filter fun x=>!fullB p q x)) (out.take (leftOf (R - smI cI (S.filter (fullB p q))) (wsI (S.filter fun x=>!fullB p q x))).toNat)=szI (dlt (R - smI cI (S.filter (fullB p q))) (S.filter fun x=>!fullB p q x) out) (S.filter fun x=>!fullB p q x):=by
    unfold dealt szI
    rw [show wsI (S.filter fun x=>!fullB p q x)=(S.filter fun x=>!fullB p q x).map fun x=>(x.1,wI x) from rfl,List.map_map]
    rfl
   rw [hde] at hSD
   refine ⟨sd,Sd,_,_,rfl,rfl,nsS,hDs,.inl hSD,smallE (by rw [kvW_len,szI_len,kvW_len,szI_len]; omega),?_⟩
   rw [merge_ovr _ _ _ hOin]
   generalize hov2:ovr (dlt (R - smI cI (S.filter (fullB p q))) (S.filter fun x=>!fullB p q x) out) (S.filter fun x=>!fullB p q x) ov=ov2 at *
   have kE:∀ b u,b ≠ sd→HD b=some u→(upd HD sd (.dK (kvW (szI ov2 it)))) b=some u:=fun b u hb e=>by rw [upd_ne hb]; exact e
   have hEs:(upd HD sd (.dK (kvW (szI ov2 it)))) sd=some (.dK (kvW (szI ov2 it))):=upd_same
   generalize upd HD sd (.dK (kvW (szI ov2 it)))=HE at *
   have kE0:∀ b u,b ≠ T→b ≠ dW→H b=some u→HE b=some u:=fun b u h1 h2 e=>kE _ _ (ne_of_none e hsd0) (kD _ _ h1 (ne_of_none e hod0) (kC b u h2 e))
   have nWo:dW ≠ od:=fun z=>by
    rw [← z] at hod0
    rcases hW with y | ⟨_,y⟩ <;> (rw [hod0] at y; cases y)
   have hWE:Rd HE dW (.dK (kvW (wsI it))):=hWB.keep fun o e=>kE _ _ (Ne.symm nsW) (kD _ _ (Ne.symm nTW) nWo (sC _ _ e))
   refine ⟨_,rfl,_,rfl,(by show 2 ≤ sizeLine; decide),fun tt htt=>?_⟩
   have sF:=Same.put (o:=.tup [.ref sd,.ref t]) (Same.refl HE) htt
   have hTE:=kE _ _ nTs hTD
   have htt0:H tt=none:=by
    by_cases z:tt=T
    ·rw [z,hTE] at htt; cases htt
    ·exact free_kept (H':=HE) (dW:=dW) (H:=fun b=>if b=T then none else H b) hWE (fun b u hb e=>by
      by_cases y:b=T
      ·simp only [y,if_true] at e; cases e
      ·simp only [if_neg y] at e; exact kE0 b u y hb e) htt |> fun e=>by simpa only [if_neg z] using e
   refine k tt sd ov2 (.ref t) ps' _ htt0 hsd0 (fun b u h1 h2 e=>sF _ _ (kE0 b u h1 h2 e)) (hWE.keep fun o e=>sF _ _ e) (sF _ _ hTE) (tab_keep hTkD fun c e=>sF _ _ (kE _ _ (fun z=>by rw [z,hDs] at e; cases e) e)) upd_same (sF _ _ hEs) (.inr ⟨by rw [hS]; exact hc',t,p,q,out,rfl,sF _ _ (kE _ _ ntS hDt),hLev,?_,?_,fun x hx=>?_⟩)
   ·rw [hS]
    rw [wsI_sz,szI_keys] at hp
    exact hp
   ·rw [hS]
    exact hs
   ·rw [hS]
    obtain ⟨o1,o2⟩:=ovr_of nd cI (S.filter (fullB p q)) (fun _=>0) x hFnd hFin hx
    obtain ⟨u1,u2⟩:=ovr_of nd (dlt (R - smI cI (S.filter (fullB p q))) (S.filter fun x=>!fullB p q x) out) (S.filter fun x=>!fullB p q x) ov x hOnd hOin hx
    rw [hov] at o1 o2
    rw [hov2] at u1 u2
    have hmS:x ∈ S ↔ posB x=true:=by rw [← hS,List.mem_filter]; exact ⟨fun z=>z.2,fun z=>⟨hx,z⟩⟩
    cases hpb:posB x with
    | false =>
     have nS:x ∉ S:=fun z=>by rw [hmS.mp z] at hpb; cases hpb
     rw [u2 fun z=>nS (memF z),o2 fun z=>nS (memF z)]
     rfl
    | true =>
     have iS:x ∈ S:=hmS.mpr hpb
     cases hfb:fullB p q x with
     | true =>
      have nO:x ∉ S.filter (fun x=>!fullB p q x):=fun z=>by
       have y:=(List.mem_filter.mp z).2
       rw [hfb] at y
       cases y
      rw [u2 nO,o1 (List.mem_filter.mpr ⟨iS,hfb⟩)]
      rfl
     | false =>
      rw [u1 (List.mem_filter.mpr ⟨iS,by rw [hfb]; rfl⟩)]
      rfl
end
end B04
namespace B04
open PySem L2 S2
def spMixed:Sp:=fun vs H Q _=>∃ c:Int,vs=[.int c]∧∀ z:Int,Q (.int z) H
def spDraws (K:PySem.W.Frag):Sp:=fun vs H Q _=>∃ (a:Addr) (f m:Nat) (b:Int) (ns:List Int),vs=[.ref a,.int f,.int m,.int b]∧SqL K H a (ns.map V.int)∧ns.length ≤ 63∧m ≤ 100∧0 < b∧b.natAbs.log2 < 9000 ∧
 ∀ (l:Addr) (ys:List Int) (H':Hp),H l=none→Same H H'→H' l=some (.lst (ys.map V.int))→ys.length=m→(∀ y ∈ ys,0 ≤ y∧y < b)→Q (.ref l) H'
def spLNames:Sp:=fun vs H Q _=>∃ (m:Nat) (c:Int),vs=[.int m,.int c]∧m ≤ 60∧∀ (l:Addr) (nms:List Str) (H':Hp),H l=none→Same H H'→H' l=some (.lst (nms.map V.str))→nms.length=m→nms.Nodup→Q (.ref l) H'
section
variable {P:Program} {w:World} {K:PySem.W.Frag} {mg:Str→Option Value} {base:Heap}
theorem scAt:FnScope ["_law_script","_law_k"] ["_law_script","_law_k"] (defScope sAt):=⟨rfl,rfl,rfl,by decide +kernel,rfl,by decide +kernel,by decide +kernel⟩
theorem ok_at {f:Addr} {fd:FuncData} (F:Fun K "_law_at" "_law_at" sAt f fd) (N:Names mg):FnOk P w K mg base CX0 1 f fd ["_law_script","_law_k"] (spCell K):=by
 refine F.ok scAt (fun vs H Q E h=>?_) (fun cdv A outer s H vs Q E hr h=>?_)
 ·obtain ⟨a,k,ns,e,_⟩:=h
  rw [e]
  rfl
 ·obtain ⟨a,k,ns,e,hS,hn,q⟩:=h
  subst e
  refine ⟨_,pss_cons (ps_if (pt_cmpR op_lt (pv 1) (pe_callB call_len_seq (by rfl) N.len PySem.boot_len (pa_cons (pv 0) pa_nil)) (nomark _)) (pss_one (ps_ret (pe_ix ix_list (pv 0) (pv 1) (fun _ _=>rfl)))) pss_nil) (pss_one (ps_ret pe_int)),?_⟩
  refine ⟨_,rfl,_,rfl,a,_,rfl,.inl hS,_,_,rfl,rfl,_,rfl,?_⟩
  refine ite2 (fun hc=>?_) (fun hc=>q 0)
  have hk:k < ns.length:=by
   have z:=of_decide_eq_true hc
   rw [List.length_map] at z
   omega
  exact ⟨_,rfl,_,rfl,a,_,_,_,rfl,rfl,hS,atI_nat (by rw [List.getElem?_map,List.getElem?_eq_getElem hk]; rfl),q _⟩
theorem scMixed:FnScope ["_law_cell","_law_n"] ["_law_cell"] (defScope sMixed):=⟨rfl,rfl,rfl,by decide +kernel,rfl,by decide +kernel,by decide +kernel⟩
theorem ok_mixed {f:Addr} {fd:FuncData} (F:Fun K "_law_mixed" "_law_mixed" sMixed f fd):FnOk P w K mg base CX0 1 f fd ["_law_cell"] spMixed:=by
 refine F.ok scMixed (fun vs H Q E h=>?_) (fun cdv A outer s H vs Q E hr h=>?_)
 ·obtain ⟨c,e,_⟩:=h
  rw [e]
  rfl
 ·obtain ⟨c,e,q⟩:=h
  subst e
  refine ⟨_,pss_cons (ps_set (i:=1) scMixed.nd rfl (Or.inl rfl) (pe_op op_mod (pe_op op_mul (pv 0) pe_int) pe_int))
   (pss_cons (ps_set (i:=1) scMixed.nd rfl (Or.inl rfl) (pe_op op_mod (pe_op op_add (pe_op op_fdiv (pv 1) pe_int) (pe_op op_mul (pv 1) pe_int)) pe_int))
   (pss_one (ps_ret (pe_op op_mod (pe_op op_mul (pv 1) (pe_op op_add (pe_op op_mod (pv 1) pe_int) pe_int)) pe_int)))),?_⟩
  refine ⟨_,rfl,_,_,rfl,rfl,.inr ⟨by decide,by decide⟩,_,_,rfl,rfl,(by show (0:Int) < 2147483647; decide),?_⟩
  refine ⟨_,rfl,_,_,rfl,rfl,⟨by decide,by decide⟩,_,rfl,_,_,rfl,rfl,.inr ⟨by decide,by decide⟩,_,_,rfl,rfl,_,_,rfl,rfl,(by show (0:Int) < 2147483629; decide),?_⟩
  dsimp only
  generalize (c * 48271 % 2147483647 / 65536 + c * 48271 % 2147483647 * 16807) % 2147483629=n
  exact ⟨_,rfl,_,rfl,_,_,rfl,rfl,(by show (0:Int) < 32768; decide),_,_,rfl,rfl,_,_,rfl,rfl,.inr ⟨by show -(2 ^ 64) < n % 32768 + 40961; omega,by show n % 32768 + 40961 < 2 ^ 64; omega⟩,_,_,rfl,rfl,(by show (0:Int) < 1000000000039; decide),q _⟩
theorem scDraws:FnScope ["_law_script","_law_first","_law_many","_law_base","_law_found","_law_cell","_law_k","_law_n"] ["_law_script","_law_first","_law_many","_law_base"] (defScope sDraws):=⟨rfl,rfl,rfl,by decide +kernel,rfl,by decide +kernel,by decide +kernel⟩
set_option maxHeartbeats 4000000 in
theorem ok_draws {f f1 f2:Addr} {fd d1 d2:FuncData} (F:Fun K "_law_draws" "_law_draws" sDraws f fd) (N:Names mg)
  (G1:FnOk P w K mg base CX0 1 f1 d1 ["_law_script","_law_k"] (spCell K)) (b1:Binds K d1 ["_law_script","_law_k"] []) (m1:mg "_law_at"=some (.ref f1)) (k1:PySem.W.keepIn K (.ref f1)=true)
  (G2:FnOk P w K mg base CX0 1 f2 d2 ["_law_cell"] spMixed) (b2:Binds K d2 ["_law_cell"] []) (m2:mg "_law_mixed"=some (.ref f2)) (k2:PySem.W.keepIn K (.ref f2)=true) :
  FnOk P w K mg base CX0 2 f fd ["_law_script","_law_first","_law_many","_law_base"] (spDraws K):=by
 refine F.ok scDraws (fun vs H Q E h=>?_) (fun cdv A outer s H vs Q E hr h=>?_)
 ·obtain ⟨a,f,m,b,ns,e,_⟩:=h
  rw [e]
  rfl
 ·obtain ⟨a,fi,m,b,ns,e,hS,hn,hm,hb0,hb1,k⟩:=h
  subst e
  refine ⟨_,pss_cons (ps_set (i:=4) scDraws.nd rfl (Or.inl rfl) (pe_lst pa_nil))
   (pss_cons (ps_set (i:=5) scDraws.nd rfl (Or.inl rfl) (pe_call G1 hr (by rfl) m1 k1 b1 .nil pass0 (pa_cons (pv 0) (pa_cons (pv 1) pa_nil))))
   (pss_cons (ps_while PassesOwn.never (pw_and (pt_cmpR op_ge (pv 5) (pe_op op_pow pe_int pe_int) (nomark _)) (pw_and1 (pt_cmpR op_lt (pe_callB call_len_seq (by rfl) N.len PySem.boot_len (pa_cons (pv 4) pa_nil)) (pv 2) (nomark _)))).pt
    (pss_cons (ps_expr (pe_bm PySem.F.plainAttrs_list PySem.F.slot_list_append PySem.F.type_list_append mt_append (pv 4) (pa_cons (pe_op op_mod (pv 5) (pv 3)) pa_nil)))
     (pss_one (ps_set (i:=5) scDraws.nd rfl (Or.inl rfl) (pe_op op_fdivC (pv 5) (pv 3))))))
   (pss_cons (ps_for PassesOwn.never rfl (pi_range1 rfl N.range (pa_cons (pe_op op_sub (pv 2) (pe_callB call_len_seq (by rfl) N.len PySem.boot_len (pa_cons (pv 4) pa_nil))) pa_nil)) (pg_name (i:=6) scDraws.nd rfl (Or.inl rfl))
    (pss_cons (ps_set (i:=7) scDraws.nd rfl (Or.inl rfl) (pe_call G2 hr (by rfl) m2 k2 b2 .nil pass0 (pa_cons (pe_op op_add (pe_call G1 hr (by rfl) m1 k1 b1 .nil pass0 (pa_cons (pv 0) (pa_cons (pe_op op_add (pe_op op_add (pv 1) pe_int) (pv 6)) pa_nil))) (pe_op op_mul (pe_op op_mul pe_int (pv 6)) (pv 6))) pa_nil)))
     (pss_one (ps_expr (pe_bm PySem.F.plainAttrs_list PySem.F.slot_list_append PySem.F.type_list_append mt_append (pv 4) (pa_cons (pe_op op_mod (pe_op op_add (pe_op op_mul (pv 7) pe_int) (pe_call G2 hr (by rfl) m2 k2 b2 .nil pass0 (pa_cons (pe_op op_add (pe_op op_add (pv 7) (pe_op op_mul pe_int (pv 6))) pe_int) pa_nil))) (pv 3)) pa_nil))))))
   (pss_one (ps_ret (pv 4)))))),?_⟩
  refine ⟨smallE (by simp),fun l hl=>?_⟩
  have s0:Same H (upd H l (.lst [])):=Same.put (Same.refl H) hl
  refine ⟨_,rfl,_,rfl,a,fi,ns,rfl,s0.seq hS,hn,fun z0=>?_⟩
  refine while_out (fun m' σ H2=>∃ (z:Int) (xs:List Int),σ=[some (.ref a),some (.int fi),some (.int m),some (.int b),some (.ref l),some (.int z),none,none]∧Same H H2∧H2 l=some (.lst (xs.map V.int))∧xs.length ≤ m∧(∀ y ∈ xs,0 ≤ y∧y < b)∧m'=m - xs.length) (m0:=m) ⟨_,[],rfl,s0,upd_same,Nat.zero_le _,(fun y hy=>nomatch hy),rfl⟩ ?_ ?_
  ·rintro m' σ H2 ⟨z,xs,rfl,s2,h2,hlen,hb,rfl⟩
   refine ⟨_,rfl,_,rfl,l,_,rfl,.inl (SqL.of h2),_,_,rfl,rfl,_,rfl,by rw [List.length_map]; omega,by rw [List.length_map]; omega,?_⟩
   have en:((m:Int) - ((xs.map V.int).length:Int)).toNat=m - xs.length:=by rw [List.length_map]; omega
   rw [en]
   refine for_range (n:=m - xs.length) (fun i σ H3=>∃ (u6 u7:Option V) (ys:List Int),σ=[some (.ref a),some (.int fi),some (.int m),some (.int b),some (.ref l),some (.int z),u6,u7]∧Same H H3∧H3 l=some (.lst (ys.map V.int))∧ys.length=xs.length + i∧∀ y ∈ ys,0 ≤ y∧y < b) ⟨_,_,xs,rfl,s2,h2,rfl,hb⟩ ?_ ?_
   ·rintro i σ H3 hi ⟨u6,u7,ys,rfl,s3,h3,hl3,hb3⟩
    refine ⟨_,rfl,_,rfl,_,_,rfl,rfl,_,rfl,_,_,rfl,rfl,a,fi + 1 + i,ns,(by simp; try omega),s3.seq hS,hn,fun z1=>?_⟩
    refine ⟨_,rfl,_,_,rfl,rfl,.inl ⟨by decide,by decide⟩,_,rfl,_,_,rfl,rfl,.inr ⟨by omega,by omega⟩,_,_,rfl,rfl,_,rfl,fun z2=>?_⟩
    refine ⟨_,rfl,.inl ⟨rfl,_,SqL.of h3⟩,_,rfl,_,_,rfl,rfl,.inr ⟨by decide,by decide⟩,_,rfl,_,rfl,_,_,rfl,rfl,.inl ⟨by decide,by decide⟩,_,_,rfl,rfl,_,_,rfl,rfl,_,rfl,fun z3=>?_⟩
    refine ⟨_,_,rfl,rfl,_,rfl,_,_,rfl,rfl,hb0,l,_,_,rfl,rfl,h3,small (by rw [List.length_map]; omega),?_⟩
    refine ⟨_,_,ys ++ [(z2 * 1000000000039 + z3) % b],rfl,Same.put s3 hl,snoc_at,by rw [snoc_len]; omega,fun y hy=>?_⟩
    rcases List.mem_append.mp hy with q | q
    ·exact hb3 y q
    ·rw [List.mem_singleton.mp q]
     exact ⟨Int.emod_nonneg _ (by omega),Int.emod_lt_of_pos _ hb0⟩
   ·rintro σ H3 ⟨u6,u7,ys,rfl,s3,h3,hl3,hb3⟩
    exact ⟨_,rfl,k l ys H3 hl s3 h3 (by omega) hb3⟩
  ·rintro R out m' σ H2 ⟨z,xs,rfl,s2,h2,hlen,hb,rfl⟩
   have go:R [some (.ref a),some (.int fi),some (.int m),some (.int b),some (.ref l),some (.int z),none,none] H2:=out _ _ _ ⟨z,xs,rfl,s2,h2,hlen,hb,rfl⟩
   refine ⟨_,rfl,_,_,rfl,rfl,⟨by decide,by decide,by decide⟩,_,_,rfl,rfl,_,rfl,ite2 (fun _=>?_) (fun _=>iteF go)⟩
   refine ⟨_,rfl,l,_,rfl,.inl (SqL.of h2),_,rfl,_,_,rfl,rfl,_,rfl,ite2 (fun hc=>?_) (fun _=>go)⟩
   have hc':=of_decide_eq_true hc
   rw [List.length_map] at hc'
   refine ⟨fun σ' H'=>∃ (z:Int) (xs':List Int),σ'=[some (.ref a),some (.int fi),some (.int m),some (.int b),some (.ref l),some (.int z),none,none]∧Same H H'∧H' l=some (.lst (xs'.map V.int))∧xs'.length=xs.length + 1∧(∀ y ∈ xs',0 ≤ y∧y < b),fun σ' H' ⟨z',xs',e1,e2,e3,e4,e5⟩=>⟨m - xs'.length,by omega,z',xs',e1,e2,e3,by omega,e5,rfl⟩,?_⟩
   refine ⟨_,rfl,.inl ⟨rfl,_,SqL.of h2⟩,_,rfl,_,rfl,_,_,rfl,rfl,hb0,l,_,_,rfl,rfl,h2,small (by rw [List.length_map]; omega),?_⟩
   refine ⟨_,rfl,_,rfl,_,_,rfl,rfl,⟨hb0,hb1⟩,?_⟩
   refine ⟨_,xs ++ [z % b],rfl,Same.put s2 hl,snoc_at,snoc_len,fun y hy=>?_⟩
   rcases List.mem_append.mp hy with q | q
   ·exact hb y q
   ·rw [List.mem_singleton.mp q]
    exact ⟨Int.emod_nonneg _ (by omega),Int.emod_lt_of_pos _ hb0⟩
theorem scLNames:FnScope ["_law_many","_law_cell","_law_letters","_law_some","_law_k","_law_word"] ["_law_many","_law_cell"] (defScope sLNames):=⟨rfl,rfl,rfl,by decide +kernel,rfl,by decide +kernel,by decide +kernel⟩
set_option maxHeartbeats 4000000 in
theorem ok_lnames {f:Addr} {fd:FuncData} (F:Fun K "_law_names" "_law_names" sLNames f fd) (N:Names mg):FnOk P w K mg base CX0 1 f fd ["_law_many","_law_cell"] spLNames:=by
 refine F.ok scLNames (fun vs H Q E h=>?_) (fun cdv A outer s H vs Q E hr h=>?_)
 ·obtain ⟨m,c,e,_⟩:=h
  rw [e]
  rfl
 ·obtain ⟨m,c,e,hm,k⟩:=h
  subst e
  refine ⟨_,pss_cons (ps_set (i:=2) scLNames.nd rfl (Or.inl rfl) pe_str)
   (pss_cons (ps_set (i:=3) scLNames.nd rfl (Or.inl rfl) (pe_lst pa_nil))
   (pss_cons (ps_for PassesOwn.never rfl (pi_range1 rfl N.range (pa_cons (pv 0) pa_nil)) (pg_name (i:=4) scLNames.nd rfl (Or.inl rfl))
    (pss_cons (ps_set (i:=5) scLNames.nd rfl (Or.inl rfl) (pe_op op_add_str (pe_ix ix_str (pv 2) (pe_op op_mod (pe_op op_add (pv 4) (pv 1)) pe_int) (fun _ _=>rfl)) (pe_ix ix_str (pv 2) (pe_op op_add (pe_op op_fdiv (pv 4) pe_int) (pe_op op_mod (pe_op op_fdiv (pv 1) pe_int) pe_int)) (fun _ _=>rfl))))
     (pss_one (ps_expr (pe_bm PySem.F.plainAttrs_list PySem.F.slot_list_append PySem.F.type_list_append mt_append (pv 3) (pa_cons (pe_op op_add_str (pv 5) (pe_op op_mulS (pe_ix ix_str (pv 2) (pe_op op_mod (pe_op op_add (pe_op op_mul (pv 4) pe_int) (pv 1)) pe_int) (fun _ _=>rfl)) (pe_op op_add pe_int (pe_op op_mod (pe_op op_add (pv 4) (pv 1)) pe_int)))) pa_nil))))))
   (pss_one (ps_ret (pv 3))))),?_⟩
  refine ⟨smallE (by simp),fun l hl=>?_⟩
  have s0:Same H (upd H l (.lst [])):=Same.put (Same.refl H) hl
  refine ⟨_,rfl,(m:Int),rfl,by omega,by omega,?_⟩
  have en:((m:Int)).toNat=m:=by omega
  rw [en]
  refine for_range (n:=m) (fun i σ H2=>∃ (u4 u5:Option V) (nms:List Str),σ=[some (.int m),some (.int c),some (.str alpha),some (.ref l),u4,u5]∧Same H H2∧H2 l=some (.lst (nms.map V.str))∧nms.length=i∧∀ (j:Nat) (x:Str),nms[j]?=some x→∃ r:Str,x=twoOf c j ++ r) ⟨_,_,[],rfl,s0,upd_same,rfl,fun j x e=>nomatch e⟩ ?_ ?_
  ·rintro i σ H2 hi ⟨u4,u5,nms,rfl,s2,h2,hlen,hx⟩
   have ei:(0:Int) + (i:Int)=(i:Int):=Int.zero_add _
   refine ⟨_,rfl,_,rfl,_,rfl,_,_,rfl,rfl,_,_,rfl,rfl,(by show (0:Int) < 26; decide),alpha,_,_,rfl,rfl,smallE (by rw [alpha_len]; omega),alpha_at (by omega) (by omega),?_⟩
   refine ⟨_,rfl,_,rfl,_,_,rfl,rfl,⟨by decide,by decide⟩,_,rfl,_,_,rfl,rfl,⟨by decide,by decide⟩,_,_,rfl,rfl,(by show (0:Int) < 20; decide),_,_,rfl,rfl,alpha,_,_,rfl,rfl,smallE (by rw [alpha_len]; omega),alpha_at (by omega) (by omega),_,_,rfl,rfl,smallE (by show 1 + 1 ≤ 100000; omega),?_⟩
   rw [ei]
   refine ⟨_,rfl,.inl ⟨rfl,_,SqL.of h2⟩,_,rfl,_,rfl,_,rfl,_,_,rfl,rfl,.inr ⟨by decide,by decide⟩,_,rfl,_,_,rfl,rfl,_,_,rfl,rfl,(by show (0:Int) < 26; decide),alpha,_,_,rfl,rfl,smallE (by rw [alpha_len]; omega),alpha_at (by omega) (by omega),_,rfl,_,rfl,_,_,rfl,rfl,_,_,rfl,rfl,(by show (0:Int) < 3; decide),_,_,rfl,rfl,?_⟩
   refine ⟨_,_,rfl,rfl,by show (1:Int) ≤ 1 + ((i:Int) + c) % 3; omega,by show 1 + ((i:Int) + c) % 3 ≤ 1000; omega,by show 1 ≤ 1000; omega,fun r hr'=>?_⟩
   have hr2:r.length=1 * (1 + ((i:Int) + c) % 3).toNat:=hr'
   refine ⟨_,_,rfl,rfl,smallE (by show 2 + r.length ≤ 100000; omega),l,_,_,rfl,rfl,h2,small (by rw [List.length_map]; omega),?_⟩
   refine ⟨_,_,nms ++ [twoOf c i ++ r],rfl,Same.put s2 hl,?_,by rw [snoc_len]; omega,fun j x e=>?_⟩
   ·rw [upd_same,List.map_append]
    rfl
   ·by_cases hj:j < nms.length
    ·rw [List.getElem?_append_left hj] at e
     exact hx j x e
    ·rw [List.getElem?_append_right (by omega)] at e
     have e2:j - nms.length=0:=by
      have:=get_lt e
      simp at this
      omega
     rw [e2] at e
     have e3:x=twoOf c i ++ r:=(Option.some.inj e).symm
     have e4:j=i:=by omega
     rw [e4]
     exact ⟨r,e3⟩
  ·rintro σ H2 ⟨u4,u5,nms,rfl,s2,h2,hlen,hx⟩
   exact ⟨_,rfl,k l nms H2 hl s2 h2 hlen (names_nodup hx)⟩
end
end B04
namespace L2
open PySem PySem.Spec PySem.W PyProof.Rows
section
variable {X:Cx}
def LvAt (H:Hp) (x:V) (l:Option (Int × Int)):Prop:=(x=.non∧l=none) ∨ ∃ t p q,x=.ref t∧H t=some (.tup [.int p,.int q])∧l=some (p,q)
end
end L2
namespace B04
open PySem L2 S2
theorem for_zip {K:PySem.W.Frag} {a b:Addr} {xs ys:List V} {g:TG} {tb:TS} {D:Ends} {σ:St} {H:Hp} (Pv:Nat→St→Hp→Prop) (h0:Pv 0 σ H) (hlen:xs.length=ys.length) (hl:∀ i σ H,i ≤ xs.length→Pv i σ H→SqL K H a xs∧SqL K H b ys)
  (hs:∀ i x y p σ H,xs[i]?=some x→ys[i]?=some y→H p=none→Pv i σ H→g (.ref p) σ (upd H p (.tup [x,y])) fun σ2 H2=>tb { D with nx:=Pv (i + 1),ct:=Pv (i + 1),bk:=D.nx } σ2 H2) (hd:∀ σ H,Pv xs.length σ H→D.nx σ H) :
  ∃ W:Nat→Nat→St→Hp→Prop,(∃ m,W 0 m σ H)∧∀ i m σ H,W i m σ H →
   ((Itz K a b).stop i H∧D.nx σ H) ∨ ((Itz K a b).go i H∧∃ N:St→Hp→Prop,(∀ σ' H',N σ' H'→∃ m',m' < m∧W (i + 1) m' σ' H')∧∀ x H',(Itz K a b).yld i H x H'→g x σ H' fun σ2 H2=>tb { D with nx:=N,ct:=N,bk:=D.nx } σ2 H2):=by
 refine ⟨fun i m σ H=>m=xs.length - i∧i ≤ xs.length∧Pv i σ H,⟨xs.length,by simp,Nat.zero_le _,h0⟩,?_⟩
 rintro i m σ H ⟨rfl,hi,p⟩
 obtain ⟨qa,qb⟩:=hl i σ H hi p
 by_cases hlt:i < xs.length
 ·refine .inr ⟨⟨xs,ys,xs[i],ys[i]'(by omega),qa,qb,by simp [hlt],by simp [show i < ys.length by omega]⟩,Pv (i + 1),fun σ' H' p'=>⟨xs.length - (i + 1),by omega,rfl,hlt,p'⟩,fun x H' y=>?_⟩
  obtain ⟨p0,u,v,e1,hn,e2,yu,yv⟩:=y
  subst e1 e2
  exact hs i u v p0 σ H (yu xs qa) (yv ys qb) hn p
 ·have e:i=xs.length:=by omega
  subst e
  exact .inl ⟨⟨xs,ys,qa,qb,.inl (Nat.le_refl _)⟩,hd σ H p⟩
theorem kit_dict {K:PySem.W.Frag}:PySem.W.kitOne K (.type "dict") (.type "dict")=some true:=by rfl
theorem kit_ints {K:PySem.W.Frag}:PySem.W.kitOne K (.type "int") (.type "int")=some true:=by rfl
theorem kit_intb {K:PySem.W.Frag}:PySem.W.kitOne K (.type "int") (.type "bool")=some false:=by rfl
theorem str_at {ss:List Str} {i:Nat} {y:V} (h:(ss.map V.str)[i]?=some y):∃ z,y=V.str z∧ss[i]?=some z:=by
 rw [List.getElem?_map] at h
 cases e:ss[i]? with
 | none=>rw [e] at h; cases h
 | some z=>rw [e] at h; exact ⟨z,(Option.some.inj h).symm,rfl⟩
theorem strs_eq (ss:List Str):((ss.map V.str).zip (ss.map V.str)).all (fun p=>eqV p.1 p.2)=true:=by
 rw [List.all_eq_true]
 intro p hp
 obtain ⟨i,hi⟩:=List.getElem?_of_mem hp
 have h1:(ss.map V.str)[i]?=some p.1∧(ss.map V.str)[i]?=some p.2:=by
  rw [List.getElem?_zip_eq_some] at hi
  exact hi
 obtain ⟨z,e,_⟩:=str_at h1.1
 have e2:p.2=p.1:=Option.some.inj (h1.2.symm.trans h1.1)
 rw [e2,e]
 simp [eqV]
theorem flat_strs (ss:List Str):(ss.map V.str).all flatV=true:=by
 rw [List.all_map]
 exact List.all_eq_true.mpr fun _ _=>rfl
theorem dealt_dlt (R:Int) (O:List Itm) (out:List Str):dealt R (wsI O) (out.take (leftOf R (wsI O)).toNat)=szI (dlt R O out) O:=by
 unfold dealt szI
 rw [show wsI O=O.map fun x=>(x.1,wI x) from rfl,List.map_map]
 rfl
def PourP (it:List Itm) (R:Int) (sz:Itm→Int) (l:Option (Nat × Nat)):Prop :=
 (smI cI (it.filter posB) ≤ R∧l=none∧∀ x ∈ it,sz x=if posB x=true then cI x else 0) ∨
 (R < smI cI (it.filter posB)∧∃ (p q:Nat) (out:List Str),l=some (p,q)∧LevOk it R p q ∧
  out.Perm (((it.filter posB).filter fun x=>!fullB p q x).map (·.1))∧InTurn (R - smI cI ((it.filter posB).filter (fullB p q))) (wsI ((it.filter posB).filter fun x=>!fullB p q x)) out ∧
  ∀ x ∈ it,sz x=if posB x=true then (if fullB p q x=true then cI x else dlt (R - smI cI ((it.filter posB).filter (fullB p q))) ((it.filter posB).filter fun x=>!fullB p q x) out x) else 0)
def lI (l:Option (Nat × Nat)):Option (Int × Int):=l.map fun p=>((p.1:Int),(p.2:Int))
theorem PourOk.pure {it:List Itm} {R:Int} {sz:Itm→Int} {lv:V} {H:Hp} (h:PourOk it R sz lv H):∃ l,PourP it R sz l∧LvAt H lv (lI l):=by
 rcases h with ⟨h1,h2,h3⟩ | ⟨h,t,p,q,out,e,ht,r1,r2,r3,r4⟩
 ·exact ⟨none,.inl ⟨h1,rfl,h3⟩,.inl ⟨h2,rfl⟩⟩
 ·exact ⟨some (p,q),.inr ⟨h,p,q,out,rfl,r1,r2,r3,r4⟩,.inr ⟨t,_,_,e,ht,rfl⟩⟩
theorem lv_keep {H H':Hp} {x:V} {l:Option (Int × Int)} (h:LvAt H x l) (k:∀ t xs,x=.ref t→H t=some (.tup xs)→H' t=some (.tup xs)):LvAt H' x l:=by
 rcases h with h | ⟨t,p,q,e,ht,r⟩
 ·exact .inl h
 ·exact .inr ⟨t,p,q,e,k _ _ e ht,r⟩
theorem pour_total {it:List Itm} {R:Int} {sz:Itm→Int} {p q:Nat} {out:List Str} (nd:(it.map (·.1)).Nodup) (hR:0 ≤ R) (hc:∀ x ∈ it,0 ≤ cI x) (hLev:LevOk it R p q) (hperm:out.Perm (((it.filter posB).filter fun x=>!fullB p q x).map (·.1)))
  (hsz:∀ x ∈ it,sz x=if posB x=true then (if fullB p q x=true then cI x else dlt (R - smI cI ((it.filter posB).filter (fullB p q))) ((it.filter posB).filter fun x=>!fullB p q x) out x) else 0):smI sz (it.filter posB)=R:=by
 obtain ⟨hOne,hR0,_,_,_⟩:=lev_open hR hc hLev
 have hOnd:=nd_filter (nd_filter nd posB) fun x=>!fullB p q x
 have hOw:∀ x ∈ (it.filter posB).filter (fun x=>!fullB p q x),0 < wI x:=fun x hx=>of_decide_eq_true (List.mem_filter.mp (memF hx)).2
 rw [smI_split sz (fullB p q)]
 have h1:smI sz ((it.filter posB).filter (fullB p q))=smI cI ((it.filter posB).filter (fullB p q)):=smI_eq fun x hx=>by
  rw [hsz x (memF (memF hx)),if_pos (List.mem_filter.mp (memF hx)).2,if_pos (List.mem_filter.mp hx).2]
 have h2:smI sz ((it.filter posB).filter fun x=>!fullB p q x)=R - smI cI ((it.filter posB).filter (fullB p q)):=by
  have e:smI sz ((it.filter posB).filter fun x=>!fullB p q x)=smI (dlt (R - smI cI ((it.filter posB).filter (fullB p q))) ((it.filter posB).filter fun x=>!fullB p q x) out) ((it.filter posB).filter fun x=>!fullB p q x):=smI_eq fun x hx=>by
   have hnf:fullB p q x=false:=by have:=(List.mem_filter.mp hx).2; simpa using this
   rw [hsz x (memF (memF hx)),if_pos (List.mem_filter.mp (memF hx)).2,if_neg (by rw [hnf]; exact Bool.false_ne_true)]
  rw [e]
  have hW:0 < DV.whole (wsI ((it.filter posB).filter fun x=>!fullB p q x)):=by rw [whole_smI]; exact smI_pos hOne hOw
  have hs:=dealt_sum (R:=R - smI cI ((it.filter posB).filter (fullB p q))) (ws:=wsI ((it.filter posB).filter fun x=>!fullB p q x)) (by rw [wsI_sz,szI_keys]; exact hOnd) hW (fun z=>hOne (List.map_eq_nil_iff.mp z)) (out:=out) (by rw [wsI_sz,szI_keys]; exact hperm)
  rw [dealt_dlt] at hs
  unfold szI at hs
  rw [List.map_map] at hs
  exact hs
 rw [h1,h2]
 omega
theorem dlt_le {R:Int} {O:List Itm} {out:List Str} {x:Itm} (hW:0 < smI wI O) (h:wI x * R < cI x * smI wI O):dlt R O out x ≤ cI x:=by
 unfold dlt
 rw [whole_smI]
 have h1:DV.part R (smI wI O) (wI x) * smI wI O ≤ R * wI x:=Int.ediv_mul_le _ (by omega)
 have h2:DV.part R (smI wI O) (wI x) < cI x:=by
  by_cases z:DV.part R (smI wI O) (wI x) < cI x
  ·exact z
  ·have:=Int.mul_le_mul_of_nonneg_right (show cI x ≤ DV.part R (smI wI O) (wI x) by omega) (Int.le_of_lt hW)
   have e:R * wI x=wI x * R:=Int.mul_comm _ _
   omega
 split <;> omega
end B04
namespace B04
open PySem L2 S2
theorem at_getD {xs:List Int} {i:Int} (h0:0 ≤ i) (h1:i < (xs.length:Int)):atI (xs.map V.int) i=some (.int (xs.getD i.toNat 0)):=by
 obtain ⟨k,rfl,hk⟩:=nat_of (z:=i) (n:=xs.length) h0 h1
 refine atI_nat ?_
 rw [List.getElem?_map,List.getElem?_eq_getElem hk,Int.toNat_natCast,List.getD_eq_getElem?_getD,List.getElem?_eq_getElem hk]
 rfl
theorem getD_mem {xs:List Int} {B:Int} (hB:0 ≤ B) (h:∀ x ∈ xs,0 ≤ x∧x ≤ B) (k:Nat):0 ≤ xs.getD k 0∧xs.getD k 0 ≤ B:=by
 rw [List.getD_eq_getElem?_getD]
 cases e:xs[k]? with
 | none=>exact ⟨Int.le_refl 0,hB⟩
 | some x=>exact h x (List.mem_of_getElem? e)
structure I6 where
 le:Int
 wi:Int
 mo:Int
 gr:Int
 sh:Int
 ra:Int
def I6.vs (x:I6):List V:=[.int x.le,.int x.wi,.int x.mo,.int x.gr,.int x.sh,.int x.ra]
def I6.Ok (x:I6):Prop:=0 ≤ x.le∧x.le ≤ x.wi∧x.wi ≤ x.mo∧x.mo ≤ 30000∧0 ≤ x.gr∧x.gr ≤ 99∧0 ≤ x.sh∧x.sh ≤ 99∧0 ≤ x.ra∧x.ra ≤ 9
def fL:List Int:=[12,100,10 ^ (4:Int).toNat]
theorem fL_ok {k:Int} (h0:0 ≤ k) (h1:k < 3):0 < fL.getD k.toNat 0∧fL.getD k.toNat 0 ≤ 10000:=by
 have:k=0 ∨ k=1 ∨ k=2:=by omega
 rcases this with e | e | e <;> (subst e; exact ⟨by decide +kernel,by decide +kernel⟩)
def spLItem:Sp:=fun vs H Q _=>∃ n:Int,vs=[.int n]∧∀ (t:Addr) (x:I6) (H':Hp),H t=none→Same H H'→H' t=some (.tup x.vs)→x.Ok→Q (.ref t) H'
section
variable {P:Program} {w:World} {K:PySem.W.Frag} {mg:Str→Option Value} {base:Heap}
abbrev nLItem:List Str:=["_law_n","_law_far","_law_least","_law_wish","_law_most","_law_grow","_law_shrink"]
theorem scLItem:FnScope nLItem ["_law_n"] (defScope sLItem):=⟨rfl,rfl,rfl,by decide +kernel,rfl,by decide +kernel,by decide +kernel⟩
set_option maxHeartbeats 8000000 in
theorem ok_litem {f:Addr} {fd:FuncData} (F:Fun K "_law_item" "_law_item" sLItem f fd):FnOk P w K mg base CX0 1 f fd ["_law_n"] spLItem:=by
 refine F.ok scLItem (fun vs H Q E h=>?_) (fun cdv A outer s H vs Q E hr h=>?_)
 ·obtain ⟨n,e,_⟩:=h
  rw [e]
  rfl
 ·obtain ⟨n,e,k⟩:=h
  subst e
  refine ⟨_,pss_cons (ps_set (i:=1) scLItem.nd rfl (Or.inl rfl) (pe_ix ix_list (pe_lst (pa_cons pe_int (pa_cons pe_int (pa_cons (pe_op op_pow pe_int pe_int) pa_nil)))) (pe_op op_mod (pv 0) pe_int) (fun _ _=>rfl)))
   (pss_cons (ps_set (i:=0) scLItem.nd rfl (Or.inl rfl) (pe_op op_fdiv (pv 0) pe_int))
   (pss_cons (ps_set (i:=2) scLItem.nd rfl (Or.inl rfl) (pe_op op_mod (pv 0) (pv 1)))
   (pss_cons (ps_set (i:=3) scLItem.nd rfl (Or.inl rfl) (pe_op op_add (pv 2) (pe_op op_mod (pe_op op_fdiv (pv 0) (pe_op op_pow pe_int pe_int)) (pv 1))))
   (pss_cons (ps_set (i:=4) scLItem.nd rfl (Or.inl rfl) (pe_op op_add (pv 3) (pe_op op_mod (pe_op op_fdiv (pv 0) (pe_op op_pow pe_int pe_int)) (pv 1))))
   (pss_cons (ps_set (i:=0) scLItem.nd rfl (Or.inl rfl) (pe_op op_fdivC (pv 0) (pe_op op_pow pe_int pe_int)))
   (pss_cons (ps_set (i:=5) scLItem.nd rfl (Or.inl rfl) (pe_ix ix_list (pe_lst (pa_cons (pe_op op_mod (pv 0) pe_int) (pa_cons (pe_op op_mod (pv 0) pe_int) pa_nil))) (pe_op op_mod (pe_op op_fdiv (pv 0) pe_int) pe_int) (fun _ _=>rfl)))
   (pss_cons (ps_set (i:=6) scLItem.nd rfl (Or.inl rfl) (pe_ix ix_list (pe_lst (pa_cons (pe_op op_mod (pe_op op_fdiv (pv 0) pe_int) pe_int) (pa_cons (pe_op op_mod (pe_op op_fdiv (pv 0) pe_int) pe_int) pa_nil))) (pe_op op_mod (pe_op op_fdiv (pv 0) pe_int) pe_int) (fun _ _=>rfl)))
   (pss_one (ps_ret (pe_tup (pa_cons (pv 2) (pa_cons (pv 3) (pa_cons (pv 4) (pa_cons (pv 5) (pa_cons (pv 6) (pa_cons (pe_op op_mod (pe_op op_fdiv (pv 0) pe_int) pe_int) pa_nil)))))))))))))))),?_⟩
  refine ⟨_,_,rfl,rfl,⟨by decide,by decide,by decide⟩,(by show 3 ≤ sizeLine; decide),fun L hL=>?_⟩
  refine ⟨_,rfl,_,_,rfl,rfl,(by show (0:Int) < 3; decide),L,_,_,_,rfl,rfl,SqL.of upd_same,at_getD (xs:=fL) (by omega) (by show n % 3 < 3; omega),?_⟩
  obtain ⟨f0,f1⟩:=fL_ok (k:=n % 3) (by omega) (by omega)
  have s1:=Same.put (o:=.lst [V.int 12,V.int 100,V.int (10 ^ (4:Int).toNat)]) (Same.refl H) hL
  generalize upd H L (.lst [V.int 12,V.int 100,V.int (10 ^ (4:Int).toNat)])=H1 at *
  generalize fL.getD (n % 3).toNat 0=fr at *
  refine ⟨_,rfl,_,_,rfl,rfl,⟨by decide,by decide⟩,?_⟩
  dsimp only
  generalize n / 3=m
  refine ⟨_,rfl,_,rfl,_,_,rfl,rfl,f0,?_⟩
  refine ⟨_,rfl,_,rfl,_,_,rfl,rfl,⟨by decide,by decide,by decide⟩,_,_,rfl,rfl,⟨by decide,by decide⟩,_,rfl,_,_,rfl,rfl,f0,_,_,rfl,rfl,?_⟩
  refine ⟨_,rfl,_,rfl,_,_,rfl,rfl,⟨by decide,by decide,by decide⟩,_,_,rfl,rfl,⟨by decide,by decide⟩,_,rfl,_,_,rfl,rfl,f0,_,_,rfl,rfl,?_⟩
  have l0:=Int.emod_nonneg m (show fr ≠ 0 by omega)
  have l1:=Int.emod_lt_of_pos m f0
  have w0:=Int.emod_nonneg (m / 10 ^ (4:Int).toNat) (show fr ≠ 0 by omega)
  have w1:=Int.emod_lt_of_pos (m / 10 ^ (4:Int).toNat) f0
  have o0:=Int.emod_nonneg (m / 10 ^ (8:Int).toNat) (show fr ≠ 0 by omega)
  have o1:=Int.emod_lt_of_pos (m / 10 ^ (8:Int).toNat) f0
  dsimp only
  generalize m % fr=le at *
  generalize m / 10 ^ (4:Int).toNat % fr=wi at *
  generalize m / 10 ^ (8:Int).toNat % fr=mo at *
  refine ⟨_,rfl,_,_,rfl,rfl,⟨by decide,by decide,by decide⟩,_,_,rfl,rfl,⟨by decide,by decide +kernel⟩,?_⟩
  dsimp only
  generalize m / 10 ^ (12:Int).toNat=q
  refine ⟨_,rfl,_,_,rfl,rfl,(by show (0:Int) < 4; decide),_,rfl,_,_,rfl,rfl,(by show (0:Int) < 100; decide),(by show 2 ≤ sizeLine; decide),fun L2 hL2=>?_⟩
  refine ⟨_,rfl,_,_,rfl,rfl,⟨by decide,by decide⟩,_,_,rfl,rfl,(by show (0:Int) < 2; decide),L2,_,_,_,rfl,rfl,SqL.of upd_same,at_getD (xs:=[q % 4,q % 100]) (by omega) (by show q / 100 % 2 < 2; omega),?_⟩
  have s2:=Same.put (o:=.lst [V.int (q % 4),V.int (q % 100)]) s1 (same_none s1 hL2)
  have hg:=getD_mem (B:=99) (xs:=[q % 4,q % 100]) (by decide) (fun x hx=>by simp only [List.mem_cons,List.not_mem_nil,or_false] at hx; rcases hx with e | e <;> omega) (q / 100 % 2).toNat
  generalize [q % 4,q % 100].getD (q / 100 % 2).toNat 0=gr at *
  generalize upd H1 L2 (.lst [V.int (q % 4),V.int (q % 100)])=H2 at *
  refine ⟨_,rfl,_,_,rfl,rfl,⟨by decide,by decide⟩,_,_,rfl,rfl,(by show (0:Int) < 4; decide),_,rfl,_,_,rfl,rfl,⟨by decide,by decide⟩,_,_,rfl,rfl,(by show (0:Int) < 100; decide),(by show 2 ≤ sizeLine; decide),fun L3 hL3=>?_⟩
  refine ⟨_,rfl,_,_,rfl,rfl,⟨by decide,by decide⟩,_,_,rfl,rfl,(by show (0:Int) < 2; decide),L3,_,_,_,rfl,rfl,SqL.of upd_same,at_getD (xs:=[q / 200 % 4,q / 200 % 100]) (by omega) (by show q / 20000 % 2 < 2; omega),?_⟩
  have s3:=Same.put (o:=.lst [V.int (q / 200 % 4),V.int (q / 200 % 100)]) s2 (same_none s2 hL3)
  have hs:=getD_mem (B:=99) (xs:=[q / 200 % 4,q / 200 % 100]) (by decide) (fun x hx=>by simp only [List.mem_cons,List.not_mem_nil,or_false] at hx; rcases hx with e | e <;> omega) (q / 20000 % 2).toNat
  generalize [q / 200 % 4,q / 200 % 100].getD (q / 20000 % 2).toNat 0=sh at *
  generalize upd H2 L3 (.lst [V.int (q / 200 % 4),V.int (q / 200 % 100)])=H3 at *
  refine ⟨_,rfl,_,rfl,_,rfl,_,rfl,_,rfl,_,rfl,_,_,rfl,rfl,⟨by decide,by decide⟩,_,_,rfl,rfl,(by show (0:Int) < 10; decide),(by show 6 ≤ sizeLine; decide),fun t ht=>?_⟩
  refine k t ⟨le,le + wi,le + wi + mo,gr,sh,q / 40000 % 10⟩ _ (same_none s3 ht) (Same.put s3 (same_none s3 ht)) upd_same ?_
  show 0 ≤ le∧le ≤ le + wi∧le + wi ≤ le + wi + mo∧le + wi + mo ≤ 30000∧0 ≤ gr∧gr ≤ 99∧0 ≤ sh∧sh ≤ 99∧0 ≤ q / 40000 % 10∧q / 40000 % 10 ≤ 9
  omega
end
end B04
namespace B04
open PySem L2 S2
abbrev It6:=Str × Addr × I6
def kvR (l:List It6):List (Key × V):=l.map fun x=>(Sum.inr x.1,V.ref x.2.1)
def ItsOk (H:Hp) (l:List It6):Prop:=(∀ x ∈ l,H x.2.1=some (.tup x.2.2.vs))∧(l.map (·.1)).Nodup∧l.length ≤ 20∧∀ x ∈ l,x.2.2.Ok
theorem kvR_len (l:List It6):(kvR l).length=l.length:=by unfold kvR; rw [List.length_map]
theorem valR_none {l:List It6} {x:Str} (h:x ∉ l.map (·.1)):valV (kvR l) (.inr x)=none:=by
 induction l with
 | nil=>rfl
 | cons p l ih =>
  rw [List.map_cons,List.mem_cons,not_or] at h
  show valV ((Sum.inr p.1,V.ref p.2.1) :: kvR l) (.inr x)=_
  rw [valV_neg (fun z=>h.1 (Sum.inr.inj z).symm)]
  exact ih h.2
theorem putR_new {l:List It6} {x:Str} {t:Addr} {i:I6} (h:x ∉ l.map (·.1)):putK (kvR l) (.inr x) (.ref t)=kvR (l ++ [(x,t,i)]):=by
 rw [putK_new _ (valR_none h)]
 simp [kvR]
theorem ItsOk.keep {H H':Hp} {l:List It6} (h:ItsOk H l) (k:∀ t xs,H t=some (.tup xs)→H' t=some (.tup xs)):ItsOk H' l:=⟨fun x hx=>k _ _ (h.1 x hx),h.2⟩
theorem int_at {ys:List Int} {i:Nat} {y:V} (hy:(ys.map V.int)[i]?=some y):∃ n,y=V.int n∧ys[i]?=some n:=by
 rw [List.getElem?_map] at hy
 cases e:ys[i]? with
 | none=>rw [e] at hy; cases hy
 | some n=>rw [e] at hy; exact ⟨n,(Option.some.inj hy).symm,rfl⟩
theorem take_nin {l:List Str} (nd:l.Nodup) {i:Nat} {x:Str} (h:l[i]?=some x):x ∉ l.take i:=fun z=>by
 obtain ⟨j,hj⟩:=List.getElem?_of_mem z
 have hlt:j < i:=by
  have:=get_lt hj
  rw [List.length_take] at this
  omega
 rw [List.getElem?_take_of_lt hlt] at hj
 have:=(List.getElem?_inj (get_lt hj) nd).mp (hj.trans h.symm)
 omega
def spLItems (K:PySem.W.Frag):Sp:=fun vs H Q _=>∃ (a ln:Addr) (ns:List Int) (nms:List Str),vs=[.ref a,.ref ln]∧SqL K H a (ns.map V.int)∧ns.length ≤ 63∧H ln=some (.lst (nms.map V.str))∧nms.Nodup∧nms.length ≤ 20 ∧
 ∀ (d:Addr) (its:List It6) (H':Hp),H d=none→Same H H'→H' d=some (.dK (kvR its))→its.map (·.1)=nms→ItsOk H' its→Q (.ref d) H'
section
variable {P:Program} {w:World} {K:PySem.W.Frag} {mg:Str→Option Value} {base:Heap}
abbrev nLItems:List Str:=["_law_script","_law_names_here","_law_items_here","_law_name","_law_n"]
theorem scLItems:FnScope nLItems ["_law_script","_law_names_here"] (defScope sLItems):=⟨rfl,rfl,rfl,by decide +kernel,rfl,by decide +kernel,by decide +kernel⟩
set_option maxHeartbeats 16000000 in
theorem ok_lItems {f f1 f2:Addr} {fd d1 d2:FuncData} (F:Fun K "_law_items" "_law_items" sLItems f fd) (N:Names mg)
  (G1:FnOk P w K mg base CX0 2 f1 d1 ["_law_script","_law_first","_law_many","_law_base"] (spDraws K)) (b1:Binds K d1 ["_law_script","_law_first","_law_many","_law_base"] []) (m1:mg "_law_draws"=some (.ref f1)) (k1:PySem.W.keepIn K (.ref f1)=true)
  (G2:FnOk P w K mg base CX0 1 f2 d2 ["_law_n"] spLItem) (b2:Binds K d2 ["_law_n"] []) (m2:mg "_law_item"=some (.ref f2)) (k2:PySem.W.keepIn K (.ref f2)=true):FnOk P w K mg base CX0 3 f fd ["_law_script","_law_names_here"] (spLItems K):=by
 refine F.ok scLItems (fun vs H Q E h=>?_) (fun cdv A outer s H vs Q E hr h=>?_)
 ·obtain ⟨a,ln,ns,nms,e,_⟩:=h
  rw [e]
  rfl
 ·obtain ⟨a,ln,ns,nms,e,hS,hn,hln,hnd,hnl,k⟩:=h
  subst e
  have hr1:=hr.mono (j:=1) (by decide)
  have hr2:=hr.mono (j:=2) (by decide)
  have hu:(A.deeper (PyProof.Rows.envOfC "_law_items" (defScope sLItems) s.heap.objs.size f cdv)).units + 1 < cLine:=by have:=hr.units; omega
  refine ⟨_,pss_cons (ps_set (i:=2) scLItems.nd rfl (Or.inl rfl) pe_dnewK)
   (pss_cons (ps_for PassesOwn.never rfl (pi_zip (by rfl) N.zip (pa_cons (pv 1) (pa_cons (pe_call G1 hr2 (by rfl) m1 k1 b1 .nil pass0 (pa_cons (pv 0) (pa_cons pe_int (pa_cons (pe_callB call_len_seq (by rfl) N.len PySem.boot_len (pa_cons (pv 1) pa_nil)) (pa_cons (pe_op op_mul pe_int (pe_op op_pow pe_int pe_int)) pa_nil))))) pa_nil))) (pg_tup rfl (pgs_cons (pg_name (i:=3) scLItems.nd rfl (Or.inl rfl)) (pgs_cons (pg_name (i:=4) scLItems.nd rfl (Or.inl rfl)) pgs_nil)))
    (pss_one (ps_dput hu (pv 2) (pv 3) (pe_call G2 hr1 (by rfl) m2 k2 b2 .nil pass0 (pa_cons (pv 4) pa_nil)) rfl)))
   (pss_one (ps_ret (pv 2)))),?_⟩
  try rw [show (cxOf CX0 P w K mg base nLItems "_law_items" (defScope sLItems) f cdv A outer s H E).nox.K=K from rfl]
  intro dI hdI
  have s1:Same H (upd H dI (.dK [])):=Same.put (Same.refl _) hdI
  have h1:(upd H dI (.dK [])) dI=some (.dK []):=upd_same
  generalize upd H dI (.dK [])=H1 at *
  have h1n:=s1 _ _ hln
  refine ⟨_,rfl,_,rfl,_,rfl,ln,_,rfl,.inl (SqL.of h1n),_,_,rfl,rfl,⟨by decide,by decide,by decide⟩,_,_,rfl,rfl,.inl ⟨by decide,by decide⟩,a,2,nms.length,_,ns,by rw [List.length_map]; rfl,s1.seq hS,hn,by omega,by decide,by decide +kernel,fun ld ys H3 hld s3 h3 hl3 hb3=>?_⟩
  have h3n:=s3 _ _ h1n
  have h3I:=s3 _ _ h1
  have s03:=Same.trans s1 s3
  have hlen:nms.length=ys.length:=by omega
  have nnI:ln ≠ dI:=ne_of_none hln hdI
  have ndI:ld ≠ dI:=Ne.symm (ne_of_none h1 hld)
  refine ⟨ln,ld,rfl,⟨_,SqL.of h3n⟩,⟨_,SqL.of h3⟩,?_⟩
  refine for_zip (K:=K) (a:=ln) (b:=ld) (xs:=nms.map V.str) (ys:=ys.map V.int) (fun i σ H9=>∃ (u3 u4:Option V) (its:List It6),σ=[some (.ref a),some (.ref ln),some (.ref dI),u3,u4]∧(∀ b u,b ≠ dI→H3 b=some u→H9 b=some u)∧H9 dI=some (.dK (kvR its))∧its.map (·.1)=nms.take i∧(∀ x ∈ its,H9 x.2.1=some (.tup x.2.2.vs))∧∀ x ∈ its,x.2.2.Ok) ⟨none,none,[],rfl,fun _ _ _ e=>e,h3I,rfl,(fun x hx=>nomatch hx),fun x hx=>nomatch hx⟩ (by rw [List.length_map,List.length_map]; exact hlen) (fun i σ H9 _ ⟨_,_,_,_,z,_⟩=>⟨SqL.of (z _ _ nnI h3n),SqL.of (z _ _ ndI h3)⟩) ?_ ?_
  ·rintro i x y p0 σ H9 hx hy hp0 ⟨u3,u4,its,rfl,k9,h9,hk,ht,hok⟩
   obtain ⟨nm,rfl,enm⟩:=str_at hx
   obtain ⟨n,rfl,en⟩:=int_at hy
   have k10:Same H9 (upd H9 p0 (.tup [V.str nm,V.int n])):=Same.put (Same.refl _) hp0
   have hp10:(upd H9 p0 (.tup [V.str nm,V.int n])) p0=some (.tup [V.str nm,V.int n]):=upd_same
   generalize upd H9 p0 (.tup [V.str nm,V.int n])=HA at *
   refine ⟨p0,_,rfl,SqT.of hp10,rfl,_,_,rfl,_,_,rfl,rfl,?_⟩
   refine ⟨_,rfl,n,rfl,fun t x HB htn sB htB hxo=>?_⟩
   have sAB:=Same.trans k10 sB
   have hil:its.length ≤ 20:=by rw [← List.length_map (f:=(·.1)),hk,List.length_take]; omega
   refine ⟨_,rfl,_,rfl,dI,_,rfl,DPut.k (k:=.inr nm) (sAB _ _ h9) (small (by rw [kvR_len]; omega)),?_⟩
   rw [putR_new (i:=x) (by rw [hk]; exact take_nin hnd enm)]
   have hne:∀ b xs,HB b=some (.tup xs)→b ≠ dI:=fun b xs e=>ne_of e (sAB _ _ h9) (by intro z; cases z)
   refine (show ∃ u3 u4 its,_ from ⟨_,_,_,rfl,fun b u hb e=>?_,upd_same,?_,?_,?_⟩)
   ·rw [upd_ne hb]
    exact sAB _ _ (k9 b u hb e)
   ·rw [List.map_append,hk,List.take_succ,enm]
    rfl
   ·intro y hy
    rcases List.mem_append.mp hy with q | q
    ·have z:=sAB _ _ (ht y q)
     rw [upd_ne (hne _ _ z)]
     exact z
    ·rw [List.mem_singleton.mp q,upd_ne (hne _ _ htB)]
     exact htB
   ·intro y hy
    rcases List.mem_append.mp hy with q | q
    ·exact hok y q
    ·rw [List.mem_singleton.mp q]
     exact hxo
  ·rintro σ H9 ⟨u3,u4,its,rfl,k9,h9,hk,ht,hok⟩
   rw [List.length_map,List.take_length] at hk
   refine ⟨_,rfl,k dI its H9 hdI (fun b u e=>k9 b u (ne_of_none e hdI) (s03 _ _ e)) h9 hk ⟨ht,by rw [hk]; exact hnd,by rw [← List.length_map (f:=(·.1)),hk]; exact hnl,hok⟩⟩
end
end B04
namespace DS
open PySem PySem.SetTable
def Ris (xs:Array Nat):Prop:=xs.toList.Pairwise (· < ·)
theorem Ris.lt {xs:Array Nat} (h:Ris xs) {i j:Nat} (hi:i < xs.size) (hj:j < xs.size) (hij:i < j):xs[i] < xs[j]:=by
 have:=(List.pairwise_iff_getElem.mp h) i j (by simpa using hi) (by simpa using hj) hij
 simpa using this
theorem go_ok {xs:Array Nat} (h:Ris xs) (j:Nat):∀ (fuel lo hi:Nat),hi - lo ≤ fuel→lo ≤ hi→hi ≤ xs.size→(∀ i (hi:i < xs.size),i < lo→xs[i] < j)→(∀ i (hx:i < xs.size),hi ≤ i→j ≤ xs[i]) →
  below.go xs j fuel lo hi ≤ xs.size∧(∀ i (hx:i < xs.size),i < below.go xs j fuel lo hi→xs[i] < j)∧∀ i (hx:i < xs.size),below.go xs j fuel lo hi ≤ i→j ≤ xs[i]
 | 0,lo,hi,hf,hl,hs,h1,h2=>by
  have e:lo=hi:=by omega
  subst e
  exact ⟨hs,h1,h2⟩
 | fuel + 1,lo,hi,hf,hl,hs,h1,h2=>by
  unfold below.go
  by_cases c:lo < hi
  ·rw [if_pos c]
   have hm:(lo + hi) / 2 < xs.size:=by omega
   have eg:xs.getD ((lo + hi) / 2) j=xs[(lo + hi) / 2]:=by simp [Array.getD,hm]
   dsimp only
   rw [eg]
   by_cases d:xs[(lo + hi) / 2] < j
   ·rw [if_pos d]
    refine go_ok h j fuel _ hi (by omega) (by omega) hs (fun i hx hlt=>?_) h2
    by_cases z:i=(lo + hi) / 2
    ·subst z; exact d
    ·exact Nat.lt_trans (h.lt hx hm (by omega)) d
   ·rw [if_neg d]
    refine go_ok h j fuel lo _ (by omega) (by omega) (by omega) h1 (fun i hx hle=>?_)
    by_cases z:i=(lo + hi) / 2
    ·subst z; omega
    ·have:=h.lt hm hx (by omega)
     omega
  ·rw [if_neg c]
   have e:lo=hi:=by omega
   subst e
   exact ⟨hs,h1,h2⟩
theorem below_ok {xs:Array Nat} (h:Ris xs) (j:Nat):below xs j ≤ xs.size∧(∀ i (hx:i < xs.size),i < below xs j→xs[i] < j)∧∀ i (hx:i < xs.size),below xs j ≤ i→j ≤ xs[i] :=
 go_ok h j xs.size 0 xs.size (by omega) (Nat.zero_le _) (Nat.le_refl _) (fun i _ z=>absurd z (Nat.not_lt_zero _)) fun i hx z=>absurd hx (by omega)
theorem Ris.put {xs:Array Nat} (h:Ris xs) {j:Nat} (hn:xs[below xs j]? ≠ some j):Ris (insertAt xs (below xs j) j):=by
 obtain ⟨b1,b2,b3⟩:=below_ok h j
 unfold Ris
 rw [toList_insertAt,List.pairwise_append]
 refine ⟨List.Pairwise.sublist (List.take_sublist _ _) h,List.pairwise_cons.mpr ⟨fun x hx=>?_,List.Pairwise.sublist (List.drop_sublist _ _) h⟩,fun x hx y hy=>?_⟩
 ·obtain ⟨i,hi,e⟩:=List.mem_iff_getElem.mp hx
  rw [List.length_drop] at hi
  rw [List.getElem_drop] at e
  have hi':below xs j + i < xs.size:=by simp at hi; omega
  have e':xs[below xs j + i]=x:=by simpa using e
  have hge:=b3 (below xs j + i) hi' (by omega)
  by_cases z:i=0
  ·subst z
   have:xs[below xs j]?=some xs[below xs j + 0]:=by rw [Array.getElem?_eq_getElem (by omega)]; rfl
   have ne:xs[below xs j + 0] ≠ j:=fun w=>hn (by rw [this,w])
   omega
  ·have h0:=b3 (below xs j) (by omega) (Nat.le_refl _)
   have:=h.lt (i:=below xs j) (j:=below xs j + i) (by omega) hi' (by omega)
   omega
 ·obtain ⟨i,hi,e⟩:=List.mem_iff_getElem.mp hx
  rw [List.length_take] at hi
  rw [List.getElem_take] at e
  have hi':i < xs.size:=by simp at hi; omega
  have e':xs[i]=x:=by simpa using e
  have hxj:x < j:=by rw [← e']; exact b2 i hi' (by omega)
  rcases List.mem_cons.mp hy with w | w
  ·rw [w]; exact hxj
  ·obtain ⟨k,hk,ek⟩:=List.mem_iff_getElem.mp w
   rw [List.length_drop] at hk
   rw [List.getElem_drop] at ek
   have hk':below xs j + k < xs.size:=by simp at hk; omega
   have ek':xs[below xs j + k]=y:=by simpa using ek
   have:=b3 _ hk' (by omega)
   omega
theorem ris_range (n:Nat):Ris (Array.range n):=by
 unfold Ris
 rw [Array.toList_range]
 exact List.pairwise_lt_range
theorem below_next {xs:Array Nat} (h:Ris xs) {i:Nat} (hi:i < xs.size):below xs (xs[i] + 1)=i + 1:=by
 obtain ⟨b1,b2,b3⟩:=below_ok h (xs[i] + 1)
 by_cases c:below xs (xs[i] + 1) ≤ i
 ·have:=b3 i hi c
  omega
 ·by_cases d:i + 1 < below xs (xs[i] + 1)
  ·have h1:=b2 (i + 1) (by omega) d
   have h2:=h.lt (i:=i) (j:=i + 1) hi (by omega) (by omega)
   omega
  ·omega
theorem below_zero {xs:Array Nat} (h:Ris xs):below xs 0=0:=by
 obtain ⟨b1,b2,b3⟩:=below_ok h 0
 by_cases c:below xs 0=0
 ·exact c
 ·have:=b2 0 (by omega) (by omega)
  omega
theorem slot_free {t:SetTable} {j:Nat} (h:t.slot j=.empty ∨ t.slot j=.dummy):t.place[below t.place j]? ≠ some j:=by
 intro e
 unfold SetTable.slot at h
 dsimp only at h
 rw [e] at h
 simp at h
theorem probe_ok (t:SetTable) (ha:Nat→Int) (hs:Int):∀ (fuel:Nat) (p:Probe) (j:Nat) (dm:Option Nat),(∀ d,p.dummy=some d→t.slot d=.dummy)→SetTable.probe.go t ha hs fuel p=some (.empty j dm)→t.slot j=.empty∧∀ d,dm=some d→t.slot d=.dummy
 | 0,p,j,dm,_,e=>by cases e
 | fuel + 1,p,j,dm,hp,e=>by
  unfold SetTable.probe.go at e
  have adv:∀ p:Probe,(t.advance p).dummy=p.dummy:=fun p=>by
   unfold SetTable.advance
   split <;> rfl
  split at e
  ·rename_i hsl
   cases e
   exact ⟨hsl,hp⟩
  ·rename_i hsl
   refine probe_ok t ha hs fuel _ j dm (fun d ed=>?_) e
   rw [adv] at ed
   cases ed
   exact hsl
  ·split at e
   ·cases e
   ·refine probe_ok t ha hs fuel _ j dm (fun d ed=>?_) e
    rw [adv] at ed
    exact hp d ed
theorem freeSlot_ok {t:SetTable} {h:Int} {j:Nat} {d:Bool} (e:t.freeSlot h=some (j,d)):t.place[below t.place j]? ≠ some j:=by
 unfold SetTable.freeSlot at e
 split at e
 ·rename_i j' dm hp
  obtain ⟨a,b⟩:=probe_ok t _ h _ _ j' dm (fun d ed=>by cases ed) hp
  cases dm with
  | none=>cases e; exact slot_free (.inl a)
  | some d'=>cases e; exact slot_free (.inr (b d' rfl))
 ·cases e
theorem standIn_ris (t:SetTable) (n:Nat):Ris (t.standIn n).place∧(t.standIn n).led=t.led:=⟨ris_range n,rfl⟩
theorem orStandIn_ris {t:SetTable} (h:Ris t.place) (n:Nat):Ris (t.orStandIn n).place∧(t.orStandIn n).led=t.led:=by
 unfold SetTable.orStandIn
 split
 ·exact ⟨h,rfl⟩
 ·exact standIn_ris t n
theorem layNew_ris {t:SetTable} (h:Ris t.place) (es:Array (Int × Value)) (hs:Int) (x:Value):Ris (layNew t es hs x).2.1.place∧(layNew t es hs x).2.1.led=t.led:=by
 unfold layNew
 split
 ·rename_i slot wd e
  dsimp only
  have hr:Ris (t.put slot).1.place:=h.put (freeSlot_ok e)
  exact orStandIn_ris hr _
 ·exact standIn_ris t _
theorem relayAll_ris (t:SetTable) (es:Array (Int × Value)) (wanted:Nat):Ris (relayAll t es wanted).2.1.place∧(relayAll t es wanted).2.1.led=t.led:=by
 unfold relayAll
 split
 ·rename_i t' order e
  dsimp only
  split
  ·dsimp only
   unfold SetTable.relaid SetTable.laid at e
   simp only [Option.bind_eq_bind,Option.bind_eq_some_iff,Option.pure_def,Option.some.injEq,Prod.mk.injEq] at e
   obtain ⟨owner,_,e1,_⟩:=e
   rw [← e1]
   refine ⟨?_,rfl⟩
   unfold Ris
   rw [List.toList_toArray]
   have:∀ (l:List Nat) (f:Nat→Option Nat),l.Pairwise (· < ·)→((l.filterMap fun j=>(f j).map (j,·)).map (·.1)).Pairwise (· < ·):=by
    intro l f hl
    refine List.pairwise_map.mpr (List.Pairwise.filterMap _ ?_ hl)
    intro a a' haa b hb b' hb'
    obtain ⟨x,_,rfl⟩:=Option.map_eq_some_iff.mp hb
    obtain ⟨y,_,rfl⟩:=Option.map_eq_some_iff.mp hb'
    exact haa
   exact this _ _ List.pairwise_lt_range
  ·exact standIn_ris t _
 ·exact standIn_ris t _
end DS
namespace DS
open PySem PySem.SetTable PyProof.Rows PySem.Spec
def Led (w:World):Bool:=!(w.params.followText "set-order")
def SetP (prog:Program) (w:World) (h:Heap) (a:Addr) (ks:List Int):Prop :=
 ∃ o es ep t vs,h.get? a=some o∧o.ExactSet∧o.data=.set es ep t∧ElemsOf (intKind prog w) es.toList∧IntsAre vs ks∧(es.toList.map (·.2)).Perm vs ∧
  es.size < scanBound∧t.fits es.size=true∧Ris t.place∧t.led=Led w
section
variable {prog:Program} {w:World} {A:Around} {E:Value→Shared→Prop} {s:Shared}
theorem ints_mem:∀ {vs:List Value} {ks:List Int},IntsAre vs ks→∀ k,ks.any (· == k)=true ↔ ∃ v ∈ vs,(intKind prog w).is k v=true
 | _,_,.nil,k=>by simp
 | _,_,.cons n t hr,k=>by
  rw [List.any_cons,Bool.or_eq_true,ints_mem hr k]
  constructor
  ·rintro (h | ⟨v,hv,h⟩)
   ·have e:n=k:=by simpa using h
    subst e
    exact ⟨_,List.mem_cons_self ..,intKind_is _ _ _ _⟩
   ·exact ⟨v,List.mem_cons_of_mem _ hv,h⟩
  ·rintro ⟨v,hv,h⟩
   rcases List.mem_cons.mp hv with e | e
   ·subst e
    left
    have:=(intKind prog w).inj _ _ _ h (intKind_is _ _ n t)
    subst this
    simp
   ·exact .inr ⟨v,e,h⟩
theorem ints_snoc:∀ {vs:List Value} {ks:List Int},IntsAre vs ks→∀ (k:Int) (t:Tok),IntsAre (vs ++ [.int k t]) (ks ++ [k])
 | _,_,.nil,k,t=>.cons k t .nil
 | _,_,.cons n u hr,k,t=>.cons n u (ints_snoc hr k t)
theorem memP {es:List (Int × Value)} {vs:List Value} {ks:List Int} (hi:IntsAre vs ks) (hp:(es.map (·.2)).Perm vs) (k:Int):ks.any (· == k)=true ↔ ∃ e ∈ es,(intKind prog w).is k e.2=true:=by
 rw [ints_mem (prog:=prog) (w:=w) hi k]
 constructor
 ·rintro ⟨v,hv,h⟩
  obtain ⟨e,he,rfl⟩:=List.mem_map.mp (hp.mem_iff.mpr hv)
  exact ⟨e,he,h⟩
 ·rintro ⟨e,he,h⟩
  exact ⟨e.2,hp.mem_iff.mp (List.mem_map_of_mem he),h⟩
theorem ints_len:∀ {vs:List Value} {ks:List Int},IntsAre vs ks→vs.length=ks.length
 | _,_,.nil=>rfl
 | _,_,.cons n t hr=>by rw [List.length_cons,List.length_cons,ints_len hr]
theorem SetP.at' {h h':Heap} {a:Addr} {ks:List Int} (x:SetP prog w h a ks) (hk:∀ o,h.get? a=some o→h'.get? a=some o):SetP prog w h' a ks:=by
 obtain ⟨o,es,ep,t,vs,h1,r⟩:=x
 exact ⟨o,es,ep,t,vs,hk o h1,r⟩
theorem get_store {h:Heap} {a:Addr} {o:Obj} {es:Array (Int × Value)} {ep:Nat} {t:SetTable} (ho:h.get? a=some o) (hd:o.data=.set es ep t) (es':Array (Int × Value)) (t':SetTable) :
  (h.update a (Obj.putSet es' t')).get? a=some { o with data:=.set es' (ep + 1) t' }:=by
 have:=Heap.get?_update_self (Obj.putSet es' t') ho (by rw [putSet_of es' t' hd]; rfl)
 rw [putSet_of es' t' hd] at this; exact this
theorem addTail {g:Bool→Sem Unit} (hg:∀ (b:Bool) (s₁:Shared) (Q':Unit→Shared→Prop),Q' () s₁→wpAny (model prog w) A (g b) Q' E s₁)
  {a:Addr} {o:Obj} {es:Array (Int × Value)} {ep:Nat} {t:SetTable} (ho:s.heap.get? a=some o) (hex:o.ExactSet) (hd:o.data=.set es ep t)
  {es1:Array (Int × Value)} {t2:SetTable} {ks:List Int} {vs:List Value} (hel1:ElemsOf (intKind prog w) es1.toList) (hi:IntsAre vs ks) (hpv:(es1.toList.map (·.2)).Perm vs)
  (hb1:es1.size < scanBound) (hf2:t2.fits es1.size=true) (hr:Ris t2.place) (hled:t2.led=Led w) {wasDummy:Bool} {R:Option Bool→Shared→Prop}
  (h:∀ h',Heap.SameBut a s.heap h'→SetP prog w h' a ks→R (some true) { s with heap:=h' }) :
  wpAny (model prog w) A (do
    storeSet a es1 t2
    if (!wasDummy && t2.tooFull)=true then do
      g (relayAll t2 es1 (SetTable.grown es1.size)).2.2
      storeSet a (relayAll t2 es1 (SetTable.grown es1.size)).1 (relayAll t2 es1 (SetTable.grown es1.size)).2.1
      pure (some true)
     else pure (some true)) R E s:=by
 refine wpAny_bind (wpAny_storeSet_of ho hd ?_ (fits_of_scanBound hb1))
 have ho1:=get_store ho hd es1 t2
 have hsb1:=Heap.SameBut.update s.heap a (Obj.putSet es1 t2)
 split
 ·have hp:=relayAll_perm t2 es1 (SetTable.grown es1.size)
  have hfr:=relayAll_fits t2 es1 (SetTable.grown es1.size)
  obtain ⟨hr2,hl2⟩:=relayAll_ris t2 es1 (SetTable.grown es1.size)
  generalize hRl:relayAll t2 es1 (SetTable.grown es1.size)=Rl at hp hfr hr2 hl2 ⊢
  obtain ⟨es2,t3,gave2⟩:=Rl
  dsimp only at hp hfr hr2 hl2 ⊢
  have hel2:ElemsOf (intKind prog w) es2.toList:=hel1.perm hp
  have hsz:es2.size=es1.size:=by rw [← Array.length_toList,hp.length_eq,Array.length_toList]
  have hb2:es2.size < scanBound:=by rw [hsz]; exact hb1
  refine wpAny_bind (hg _ _ _ ?_)
  refine wpAny_bind (wpAny_storeSet_of ho1 rfl ?_ (fits_of_scanBound hb2))
  have ho2:=get_store (o:={ o with data:=.set es1 (ep + 1) t2 }) ho1 rfl es2 t3
  exact wpAny_pure (h _ (hsb1.trans (Heap.SameBut.update _ a _)) ⟨_,es2,_,t3,vs,ho2,hex,rfl,hel2,hi,(hp.map _).trans hpv,hb2,hfr,hr2,hl2.trans hled⟩)
 ·exact wpAny_pure (h _ hsb1 ⟨_,es1,_,t2,vs,ho1,hex,rfl,hel1,hi,hpv,hb1,hf2,hr,hled⟩)
theorem setAddP {a:Addr} {ks:List Int} {k:Int} {tt:Tok} {Q:Bool→Shared→Prop} (hS:SetP prog w s.heap a ks) (hroom:ks.length + 1 < scanBound)
  (h:∀ h',Heap.SameBut a s.heap h'→SetP prog w h' a (step_dedup ks k)→Q (!ks.any (· == k)) { s with heap:=h' }) :
  wpAny (model prog w) A (setAddHashed a (.int k tt) ((intKind prog w).hash k)) Q E s:=by
 have hkey:(intKind prog w).is k (.int k tt)=true:=intKind_is _ _ _ _
 have hsc:(Value.int k tt).scannable=true:=rfl
 obtain ⟨o,es,ep,t,vs,ho,hex,hd,hel,hi,hpv,hb,hf,hr,hled⟩:=hS
 have hmem:=fun k'=>memP (prog:=prog) (w:=w) hi hpv k'
 have hn:es.size=ks.length:=by rw [← ints_len hi,← hpv.length_eq,List.length_map,Array.length_toList]
 have hb1:es.size + 1 < scanBound:=by rw [hn]; exact hroom
 unfold setAddHashed setAddHashedIn
 refine wpAny_holding (wpAny_bind (wpAny_setState_of ho hd hf ?_))
 dsimp only
 rw [byScan_of hsc hb hel]
 simp only [↓reduceIte]
 unfold setAddByScan
 refine wpAny_bind ?_
 refine wpAny_bind (wpAny_rule ?_)
 refine wpAny_bind (wpAny_setScan_of hkey ho hd hf hel ?_)
 cases hrr:List.findIdx? (fun e=>(intKind prog w).is k e.2) es.toList with
 | some j =>
  dsimp only
  obtain ⟨hj,hpj,_⟩:=List.findIdx?_eq_some_iff_getElem.mp hrr
  have hSk:ks.any (· == k)=true:=(hmem k).mpr ⟨es.toList[j],List.getElem_mem hj,hpj⟩
  refine wpAny_pure (wpAny_pure ?_)
  have e:s={ s with heap:=s.heap }:=by cases s; rfl
  have:=h s.heap (Heap.SameBut.refl a s.heap) ⟨o,es,ep,t,vs,ho,hex,hd,hel,by unfold step_dedup; rw [if_pos hSk]; exact hi,hpv,hb,hf,hr,hled⟩
  rw [hSk] at this; rw [e]; exact this
 | none =>
  dsimp only
  have hSk:ks.any (· == k)=false:=by
   cases hk:ks.any (· == k) with
   | false=>rfl
   | true=>obtain ⟨e,he,hp⟩:=(hmem k).mp hk; have:=List.findIdx?_eq_none_iff.mp hrr e he; rw [hp] at this; exact Bool.noConfusion this
  have hgw:∀ (b:Bool) {s₁:Shared} {Q':Unit→Shared→Prop},Q' () s₁→wpAny (model prog w) A (match b with | true=>rule "set.scan.the-table-gave-way" | false=>pure ()) Q' E s₁ :=
   fun b s₁ Q' hq=>by cases b <;> first | exact wpAny_pure hq | exact wpAny_rule hq
  have hperm:=layNew_perm t es ((intKind prog w).hash k) (.int k tt)
  have hfits:=layNew_fits t es ((intKind prog w).hash k) (.int k tt)
  obtain ⟨hr1,hl1⟩:=layNew_ris hr es ((intKind prog w).hash k) (.int k tt)
  generalize hL:layNew t es ((intKind prog w).hash k) (.int k tt)=L at hperm hfits hr1 hl1 ⊢
  obtain ⟨es1,t1,wasDummy,gave⟩:=L
  dsimp only at hperm hfits hr1 hl1 ⊢
  rw [Array.toList_push] at hperm
  have hel1:ElemsOf (intKind prog w) es1.toList:=(hel.push hkey hsc).perm hperm
  have hb1':es1.size < scanBound:=by rw [← Array.length_toList,hperm.length_eq,List.length_append,Array.length_toList]; simpa using hb1
  have hpv1:(es1.toList.map (·.2)).Perm (vs ++ [.int k tt]):=by
   refine (hperm.map _).trans ?_
   rw [List.map_append]
   exact hpv.append_right _
  have hi1:IntsAre (vs ++ [.int k tt]) (step_dedup ks k):=by
   unfold step_dedup
   rw [if_neg (by rw [hSk]; exact Bool.false_ne_true)]
   exact ints_snoc hi k tt
  refine wpAny_bind (hgw _ ?_)
  have hend:∀ h',Heap.SameBut a s.heap h'→SetP prog w h' a (step_dedup ks k)→Q true { s with heap:=h' }:=by
   intro h' hsb hS'; have:=h h' hsb hS'; rw [hSk] at this; exact this
  split
  ·refine wpAny_bind ?_
   rw [hashByValue_scannable 8 hsc]
   refine wpAny_pure ?_
   rw [show plainKind (Value.int k tt)=true from rfl]
   simp only [↓reduceIte]
   refine addTail ?_ ho hex hd hel1 hi1 hpv1 hb1' hfits hr1 (hl1.trans hled) ?_
   ·intro b s₁ Q' hq; cases b <;> first | exact wpAny_pure hq | exact wpAny_rule hq
   ·intro h' hsb hS'; dsimp only; exact wpAny_pure (hend h' hsb hS')
  ·refine wpAny_bind (wpAny_pure ?_)
   simp only [↓reduceIte]
   refine addTail ?_ ho hex hd hel1 hi1 hpv1 hb1' hfits hr1 (hl1.trans hled) ?_
   ·intro b s₁ Q' hq; cases b <;> first | exact wpAny_pure hq | exact wpAny_rule hq
   ·intro h' hsb hS'; dsimp only; exact wpAny_pure (hend h' hsb hS')
end
end DS
namespace DS
open PySem PySem.SetTable PyProof.Rows PySem.Spec
section
variable {prog:Program} {w:World} {A:Around} {R:Result→Shared→Prop} {I:Addr} {fp wr:List Addr} {G:Array GenState→Array GenState→Prop} {n:Nat} {P:Nat→Value→Prop} {St:Nat→Shared→Prop}
theorem update_loopP (W:WalksS prog w A.in1 I fp wr G n P St) (S:Addr) (hSf:S ∉ fp)
  (val:Nat→Int) (hval:∀ i v,P i v→∃ t,v=.int (val i) t) (hb:n + 1 < scanBound) :
  ∀ (k i:Nat) (s:Shared),n - i=k→i ≤ n→St i s →
   SetP prog w s.heap S (firstMet val i) →
   (∀ s',Moved (S :: wr) G s s'→SetP prog w s'.heap S (firstMet val n)→R (.ok (.ret .none)) s') →
   codeAny (model prog w) A (.builtin "set.update.loop" ⟨[.ref S,.ref I],[]⟩) R s:=by
 have hSw:S ∉ wr:=fun h=>hSf (W.sub _ h)
 have hsub:∀ b ∈ wr,b ∈ S :: wr:=fun b hb=>List.mem_cons_of_mem _ hb
 intro k
 induction k with
 | zero =>
  intro i s hk hi hst hS hR
  have hin:i=n:=by omega
  subst hin
  refine codeAny_builtin PyProof.Rows.F.entry_set_update_loop ?_
  rw [Around.under_plainId PyProof.Rows.F.plain_set_update_loop _]
  show wpAny _ A.in1 (pyNext (.ref I) >>= _) _ _ s
  refine wpAny_bind (W.done s _ _ hst fun s' hm=>?_)
  show wpAny _ A.in1 (ret Value.none) _ _ s'
  exact wpAny_pure (hR s' (hm.mono hsub) (hS.at' fun o ho=>hm.heap S _ hSw ho))
 | succ k ih =>
  intro i s hk hi hst hS hR
  have hlt:i < n:=by omega
  refine codeAny_builtin PyProof.Rows.F.entry_set_update_loop ?_
  rw [Around.under_plainId PyProof.Rows.F.plain_set_update_loop _]
  show wpAny _ A.in1 (pyNext (.ref I) >>= _) _ _ s
  refine wpAny_bind (W.item i s _ _ hlt hst fun v s' hP hst' hm=>?_)
  obtain ⟨t,rfl⟩:=hval i v hP
  have hS':SetP prog w s'.heap S (firstMet val i):=hS.at' fun o ho=>hm.heap S _ hSw ho
  show wpAny _ A.in1 (holding [Value.int (val i) t] (setAdd S (.int (val i) t)) >>= _) _ _ s'
  refine wpAny_bind (wpAny_holding ?_)
  unfold setAdd
  refine wpAny_holding ?_
  refine wpAny_bind ((intKind prog w).pyHash (k:=val i) (intKind_is _ _ _ _) ?_)
  have hroom:(firstMet val i).length + 1 < scanBound:=by have:=firstMet_length_le val i; omega
  refine setAddP (s:={ s' with toks:=s'.toks + 1 }) hS' hroom fun h' hsb hS2=>?_
  have hSi:SetP prog w h' S (firstMet val (i + 1)):=by rw [firstMet_succ]; exact hS2
  refine wpAny_pure ⟨plainId_quiet PyProof.Rows.F.plain_set_update_loop _,ih (i + 1) _ (by omega) hlt (W.frame _ s' _ _ hst' (Nat.le_succ _) fun b hb o e=>?_) hSi fun s'' hm'' hS''=>?_⟩
  ·rw [hsb.2 b (fun h:b=S=>hSf (by rw [← h]; exact hb))]; exact e
  ·refine hR s'' (Moved.trans W.gtrans ((hm.mono hsub).then_heap (Nat.le_succ _) fun b o hb e=>?_) hm'') hS''
   rw [hsb.2 b (fun h:b=S=>hb (by rw [h]; exact List.mem_cons_self))]; exact e
end
section
variable {prog:Program} {w:World} {A:Around} {E:Value→Shared→Prop} {s:Shared}
theorem set_new_1 (a:Value) {Q₁:Value→Shared→Prop}
  (h:∀ led:Bool,led=Led w→Q₁ (.ref s.heap.objs.size) { s with heap:=s.heap.push { cls:=.type "set",dict:=none,data:=.set #[] 0 (.fresh 0 0 led) } }) :
  codeAny (model prog w) A (.call (.builtin "set.__new__") ⟨[.type "set",a],[]⟩) (wants Q₁ E) s:=by
 refine codeAny_of_tree ?_
 show wpAny _ A.in1 (do checkBuiltinCall "set.__new__" ⟨[.type "set",a],[]⟩; again (.builtin "set.__new__" ⟨[.type "set",a],[]⟩)) _ _ s
 refine wpAny_bind (wpAny_of_eq (PySem.F.newCall_set_1 a) (wpAny_pure ⟨plainId_quiet PySem.F.plain_set_new _,codeAny_builtin PySem.F.entry_set_new ?_⟩))
 rw [Around.under_plainId PySem.F.plain_set_new _]
 unfold Builtin.«set.__new__» Builtin.Frozenset.newClass
 have hsub:=PySem.sub_set_self
 obtain ⟨hp,g,d,tk,os⟩:=s
 dsimp only
 wp_walk
 refine wpAny_askSetting (wpAny_pure ?_)
 dsimp only
 simp only [newObj]
 refine wpAny_bind (wpAny_alloc (wpAny_pure ?_))
 exact wpAny_pure (h _ rfl)
set_option maxRecDepth 100000 in
set_option maxHeartbeats 3200000 in
theorem call_setP {l:Addr} {items:Array Value} {ns:List Int} {Q:Value→Shared→Prop}
  (hh:A.handled=none) (hl:s.heap.IsList l items) (hi:PyProof.Rows.IntsAre items.toList ns) (hb:items.size + 1 < scanBound)
  (h:∀ (h':Heap) (tk:Nat),SetP prog w h' s.heap.objs.size (PyProof.Rows.firstMet (fun i=>ns.getD i 0) items.size) →
   (∀ b o,b < s.heap.objs.size→s.heap.get? b=some o→h'.get? b=some o)→Q (.ref s.heap.objs.size) { s with heap:=h',toks:=tk }) :
  wpAny (model prog w) A (call (.type "set") [.ref l]) Q E s:=by
 obtain ⟨c,tl,hmro⟩:=PySem.F.called_set.mro
 have hmade:=PySem.F.called_set.made
 have hsub:=PySem.F.called_set.sub
 refine wpAny_call (codeAny_of_tree ?_)
 show wpAny _ _ (callAny (.type "set") _) _ _ _
 refine wpAny_pure ⟨Code.quiet_builtin _ (by decide +kernel),codeAny_builtin PySem.F.entry_type_call ?_⟩
 rw [Around.under_plain (weight_type_call_type "set" [.ref l] []) rfl]
 have h1:=PySem.F.called_set.notType
 have h2:=PySem.F.called_set.canCreate
 have hct:=PySem.F.typeCall_set_1 (.ref l)
 repeat (any_goals (first | assumption | wp_step))
 refine codeAny_mono (set_new_1 (.ref l) (E:=E) (Q₁:=fun obj s₁=>∃ led:Bool,led=Led w∧obj=.ref s.heap.objs.size∧s₁={ s with heap:=s.heap.push { cls:=.type "set",dict:=none,data:=.set #[] 0 (.fresh 0 0 led) } }) fun led hled=>⟨led,hled,rfl,rfl⟩) fun r s₁ hr=>?_
 cases r with
 | error e=>exact hr
 | ok fl =>
  cases fl with
  | ret obj =>
   obtain ⟨led,hled,rfl,rfl⟩:=hr
   have hS:(s.heap.push { cls:=.type "set",dict:=none,data:=.set #[] 0 (.fresh 0 0 led) }).get? s.heap.objs.size=some { cls:=.type "set",dict:=none,data:=.set #[] 0 (.fresh 0 0 led) }:=Heap.get?_push_size _ rfl
   have hT:Shared.TypeIs { s with heap:=s.heap.push { cls:=.type "set",dict:=none,data:=.set #[] 0 (.fresh 0 0 led) } } (.ref s.heap.objs.size) "set":=⟨_,hS,rfl⟩
   have hli:=PySem.F.called_set.init.lookup
   have hbi:=PySem.F.called_set.init.bind (.ref s.heap.objs.size)
   repeat (any_goals (first | assumption | wp_step))
   refine codeAny_mono (codeAny_call_builtin (R:=wants (fun r s₂=>r=.none∧∃ h' tk,s₂={ s with heap:=h',toks:=tk } ∧
     SetP prog w h' s.heap.objs.size (PyProof.Rows.firstMet (fun i=>ns.getD i 0) items.size) ∧
     (∀ b o,b < s.heap.objs.size→s.heap.get? b=some o→h'.get? b=some o)) E) PySem.F.called_set.init.plain PySem.F.entry_set_init (check_set_init_1 hT ?_)) fun r₂ s₂ hr₂=>?_
   ·obtain ⟨ol,hol,hcl,nl,hdl⟩:=hl
    obtain ⟨ocls,odict,odata,oslots⟩:=ol
    simp only at hcl hdl
    subst hcl; subst hdl
    have hol':(s.heap.push { cls:=.type "set",dict:=none,data:=.set #[] 0 (.fresh 0 0 led) }).get? l=some { cls:=.type "list",dict:=odict,data:=.seq items nl,slots:=oslots }:=Heap.get?_push_of_some _ hol
    have hsls:=PySem.F.sub_list_set
    have hslf:=PySem.F.sub_list_frozenset
    have hne:(Value.type "list" == Value.type "dict")=false:=by decide
    have hl1:(s.heap.push { cls:=.type "set",dict:=none,data:=.set #[] 0 (.fresh 0 0 led) }).IsList l items:=⟨_,hol',rfl,nl,rfl⟩
    unfold Builtin.«set.__init__» noKeywords Builtin.Frozenset.updateFrom
    generalize hPI:pyIter=PI
    wp_walk
    subst hPI
    refine wpAny_pyIter_list hl1 ?_
    refine wpAny_bind (wpAny_runValue ?_)
    have hlS:l < s.heap.objs.size:=Heap.lt_size hol
    have hh3:A.in1.in1.in1.handled=none:=by simp [hh]
    have hneI:l ≠ (s.heap.push { cls:=.type "set",dict:=none,data:=.set #[] 0 (.fresh 0 0 led) }).objs.size:=by
     rw [Heap.size_push]; exact Nat.ne_of_lt (Nat.lt_succ_of_lt hlS)
    have hSf:s.heap.objs.size ∉ [(s.heap.push { cls:=.type "set",dict:=none,data:=.set #[] 0 (.fresh 0 0 led) }).objs.size,l]:=by
     rw [Heap.size_push]; simp only [List.mem_cons,List.mem_singleton,List.not_mem_nil,or_false,not_or]
     exact ⟨Nat.ne_of_lt (Nat.lt_succ_self _),Nat.ne_of_gt hlS⟩
    have hval:∀ (i:Nat) (v:Value),items[i]?=some v→∃ t,v=.int ((fun i=>ns.getD i 0) i) t:=fun i v hv =>
     PyProof.Rows.IntsAre.int_at hi i v (by rw [Array.getElem?_toList]; exact hv)
    refine update_loopP ((Walks.list hh3 _ l hneI items).toS) s.heap.objs.size
     hSf (fun i=>ns.getD i 0) hval hb (items.size - 0) 0 _ (by omega) (Nat.zero_le _)
     ⟨⟨_,Heap.get?_push_size _ rfl,rfl,rfl⟩,(hl1.push _)⟩ ?hS0 ?hR
    case hS0 =>
     have hget:((s.heap.push { cls:=.type "set",dict:=none,data:=.set #[] 0 (.fresh 0 0 led) }).push { cls:=.type "list_iterator",data:=.fields #[.ref l,.int 0 0] }).get? s.heap.objs.size
       = some { cls:=.type "set",dict:=none,data:=.set #[] 0 (.fresh 0 0 led) }:=Heap.get?_push_of_some _ hS
     exact ⟨_,#[],0,_,[],hget,⟨rfl,rfl,rfl⟩,rfl,fun e he=>by simp at he,.nil,by simp,by decide,by rfl,by unfold Ris; exact List.Pairwise.nil,hled⟩
    case hR =>
     intro s' hm hS'
     obtain ⟨h',g',d',tk',os'⟩:=s'
     have eg:g'=s.gens:=hm.gens
     have ed:d'=s.drawn:=hm.drawn
     have eo:os'=s.os:=hm.os
     subst eg; subst ed; subst eo
     show wpAny _ _ _ _ _ _
     refine wpAny_pure ?_
     show wpAny _ _ (ret Value.none) _ _ _
     refine wpAny_pure ⟨rfl,h',tk',rfl,hS',fun b o hb e=>?_⟩
     have hb1:b ≠ s.heap.objs.size:=Nat.ne_of_lt hb
     have hb2:b ≠ (s.heap.push { cls:=.type "set",dict:=none,data:=.set #[] 0 (.fresh 0 0 led) }).objs.size:=by
      rw [Heap.size_push]; exact Nat.ne_of_lt (Nat.lt_succ_of_lt hb)
     exact hm.heap b o (by simp only [List.mem_cons,List.mem_singleton,List.not_mem_nil,or_false,not_or]; exact ⟨hb1,hb2⟩) (Heap.get?_push_of_some _ (Heap.get?_push_of_some _ e))
   ·cases r₂ with
    | error e=>exact hr₂
    | ok fl₂ =>
     cases fl₂ with
     | ret r =>
      obtain ⟨rfl,h',tk,rfl,hS',hk'⟩:=hr₂
      repeat (any_goals (first | assumption | wp_step))
      exact h _ _ hS' hk'
     | _=>exact hr₂.elim
  | _=>exact hr.elim
end
end DS
namespace DS
open PySem PySem.SetTable PyProof.Rows PySem.Spec
theorem slot_next:Slot "set_iterator" "__next__" "set_iterator.__next__" :=
 .of (owner:="set_iterator") (n:="__next__") (by rw [typeLookup_type,builtinLookup_eq_fast]; kernel_rfl) (by decide +kernel) (by decide +kernel) (by decide +kernel)
  (by first | exact .inl (by decide +kernel) | exact .inr (by decide +kernel)) (by rw [isSubtype_type]; kernel_rfl)
theorem slot_self:Slot "set_iterator" "__iter__" "set_iterator.__iter__" :=
 .of (owner:="set_iterator") (n:="__iter__") (by rw [typeLookup_type,builtinLookup_eq_fast]; kernel_rfl) (by decide +kernel) (by decide +kernel) (by decide +kernel)
  (by first | exact .inl (by decide +kernel) | exact .inr (by decide +kernel)) (by rw [isSubtype_type]; kernel_rfl)
theorem entry_next:entryFor table "set_iterator.__next__"=some Builtin.«set_iterator.__next__»:=entryFor_of_tree (by kernel_rfl)
theorem entry_self:entryFor table "set_iterator.__iter__"=some Builtin.«dict_keyiterator.__iter__» :=
 entryFor_alias (id':="dict_keyiterator.__iter__") (by kernel_rfl) rfl (by decide +kernel) (by kernel_rfl)
theorem entry_iter:entryFor table "set.__iter__"=some Builtin.«frozenset.__iter__» :=
 entryFor_alias (id':="frozenset.__iter__") (by kernel_rfl) rfl (by decide +kernel) (by kernel_rfl)
theorem owner_si:Manifest.owners.lookup (String.ofList ['r','o','t','a','r','e','t','i','_','t','e','s'].reverse)=some Manifest.sig_set_iterator:=by kernel_rfl
theorem args_next (a:Value):argsOk "set_iterator.__next__" ⟨[a],[]⟩:=by
 unfold argsOk; rw [signature?_of (id:="set_iterator.__next__") (n:=['_','_','t','x','e','n','_','_']) (o:=['r','o','t','a','r','e','t','i','_','t','e','s']) (by kernel_rfl) owner_si]; kernel_rfl
theorem args_self (a:Value):argsOk "set_iterator.__iter__" ⟨[a],[]⟩:=by
 unfold argsOk; rw [signature?_of (id:="set_iterator.__iter__") (n:=['_','_','r','e','t','i','_','_']) (o:=['r','o','t','a','r','e','t','i','_','t','e','s']) (by kernel_rfl) owner_si]; kernel_rfl
theorem erase_perm {α:Type}:∀ {l:List α} {i:Nat} (h:i < l.length),(l[i] :: l.eraseIdx i).Perm l
 | x :: l,0,_=>.refl _
 | x :: l,i + 1,h=>by
  have:=erase_perm (l:=l) (i:=i) (by simpa using h)
  simp only [List.getElem_cons_succ,List.eraseIdx_cons_succ]
  exact (List.Perm.swap _ _ _).trans (this.cons x)
theorem pick_go {α:Type} (next:Nat→Nat):∀ (fuel k:Nat) (left:List α) (out:Array α),left.length=fuel→(pickOrder.go next fuel k left out).toList.Perm (out.toList ++ left)
 | 0,k,left,out,h=>by
  rw [List.length_eq_zero_iff.mp h]
  unfold pickOrder.go
  simp
 | fuel + 1,k,left,out,h=>by
  unfold pickOrder.go
  have hl:next k % left.length < left.length:=Nat.mod_lt _ (by omega)
  rw [List.getElem?_eq_getElem hl]
  dsimp only
  refine (pick_go next fuel (k + 1) _ _ (by rw [List.length_eraseIdx_of_lt hl]; omega)).trans ?_
  rw [Array.toList_push,List.append_assoc]
  refine List.Perm.append_left _ ?_
  exact erase_perm hl
theorem pick_perm {α:Type} (next:Nat→Nat) (xs:Array α):(pickOrder next xs).toList.Perm xs.toList:=by
 have:=pick_go next xs.size 0 xs.toList #[] (by simp)
 simpa [pickOrder] using this
section
variable {prog:Program} {w:World} {A:Around} {E:Value→Shared→Prop} {s:Shared}
theorem choose_any {src:Source} {n:Nat} {Q:Nat→Shared→Prop} (hn:0 < n) (h:∀ i d,i < n→Q i { s with drawn:=d }):wpAny (model prog w) A (choose src n) Q E s:=fun Γ p _=>by
 show Sem.wp (model prog w) Γ (.choose src n .pure) _ _ p s
 rw [Sem.wp_choose]
 exact ⟨by omega,h _ _ (Nat.mod_lt _ hn)⟩
theorem draw_any {α:Type}:∀ (n:Nat) (xs:List α) (s:Shared) (Q:List α→Shared→Prop),xs.length=n→(∀ ys d,ys.Perm xs→Q ys { s with drawn:=d })→wpAny (model prog w) A (drawOrder n xs) Q E s
 | 0,xs,s,Q,hl,h=>by
  rw [List.length_eq_zero_iff.mp hl] at h ⊢
  unfold drawOrder
  exact wpAny_pure (h [] s.drawn .nil)
 | n + 1,[],s,Q,hl,h=>by simp at hl
 | n + 1,x :: xs,s,Q,hl,h=>by
  unfold drawOrder
  refine wpAny_bind (choose_any (by simp) fun i d hi=>?_)
  rw [List.getElem?_eq_getElem hi]
  dsimp only
  refine wpAny_bind (draw_any n _ _ _ (by rw [List.length_eraseIdx_of_lt hi]; omega) fun ys d' hp=>wpAny_pure ?_)
  exact h _ d' ((hp.cons _).trans (erase_perm hi))
def byT (w:World):Bool:=w.params.followText "set-order"
theorem next_text {a:Addr} {o:Obj} {es:Array (Int × Value)} {ep:Nat} {t:SetTable} (ho:s.heap.get? a=some o) (hd:o.data=.set es ep t) (hf:t.fits es.size=true) (hb:byT w=true) (slot i:Nat) {Q:Option (Value × Nat)→Shared→Prop}
  (h:Q (((pickOrder (w.params.setOrder a ep) es)[i]?).map fun e=>(e.2,slot)) s):wpAny (model prog w) A (setNext a slot i ep) Q E s:=by
 unfold setNext
 refine wpAny_bind (wpAny_setState_of ho hd hf ?_)
 dsimp only
 unfold setsByText
 refine wpAny_bind (wpAny_bind (wpAny_askSetting (wpAny_pure ?_)))
 show wpAny _ _ (if w.params.followText "set-order"=true then _ else _) _ _ _
 rw [if_pos (show w.params.followText "set-order"=true from hb),if_neg (by simp)]
 unfold setWalk
 refine wpAny_bind (wpAny_bind (wpAny_setState_of ho hd hf ?_))
 dsimp only
 unfold setsByText
 refine wpAny_bind (wpAny_bind (wpAny_askSetting (wpAny_pure ?_)))
 show wpAny _ _ (if w.params.followText "set-order"=true then _ else _) _ _ _
 rw [if_pos (show w.params.followText "set-order"=true from hb)]
 refine wpAny_bind (wpAny_askSetting (wpAny_pure ?_))
 exact wpAny_pure h
theorem next_place {a:Addr} {o:Obj} {es:Array (Int × Value)} {ep:Nat} {t:SetTable} (ho:s.heap.get? a=some o) (hd:o.data=.set es ep t) (hf:t.fits es.size=true) (hb:byT w=false) (hnd:(!t.plain && decide (es.size > 1))=false) (hl:t.led=true) (slot i:Nat) {Q:Option (Value × Nat)→Shared→Prop}
  (h:Q (match es[below t.place slot]?,t.place[below t.place slot]? with
   | some (_,x),some j=>some (x,j + 1)
   | _,_=>none) s):wpAny (model prog w) A (setNext a slot i ep) Q E s:=by
 unfold setNext
 refine wpAny_bind (wpAny_setState_of ho hd hf ?_)
 dsimp only
 unfold setsByText
 refine wpAny_bind (wpAny_bind (wpAny_askSetting (wpAny_pure ?_)))
 show wpAny _ _ (if w.params.followText "set-order"=true then _ else _) _ _ _
 rw [if_neg (by rw [show w.params.followText "set-order"=false from hb]; exact Bool.false_ne_true)]
 refine wpAny_ite_split (fun hab=>?_) (fun _=>?_)
 ·have:(!t.plain && decide (es.size > 1))=true:=hab
  rw [hnd] at this; cases this
 ·refine wpAny_bind ?_
  show wpAny _ _ (if (!t.led && !es.isEmpty)=true then unsupported "set:maker-not-led" else pure ()) _ _ _
  rw [hl]
  exact wpAny_pure (wpAny_pure h)
end
end DS
namespace DS
open PySem PySem.SetTable PyProof.Rows PySem.Spec
def itObj (f:Value) (i:Nat) (a:Addr) (n ep:Nat):Obj:={ cls:=.type "set_iterator",dict:=none,data:=.fields #[f,.int (i:Int) 0,.ref a,.int (n:Int) 0,.int (ep:Int) 0],slots:=#[] }
section
variable {prog:Program} {w:World} {A:Around} {E:Value→Shared→Prop} {s:Shared}
theorem self_it {I:Addr} {f:Value} {i n ep:Nat} {a:Addr} {Q:Value→Shared→Prop} (hI:s.heap.get? I=some (itObj f i a n ep)) (h:Q (.ref I) s):wpAny (model prog w) A (pyIter (.ref I)) Q E s:=by
 have hT:s.TypeIs (.ref I) "set_iterator":=⟨_,hI,rfl⟩
 refine wpAny_pyIter_slot hT slot_self (wpAny_call_entry slot_self hT entry_self ?_ (args_self _))
 show wpAny _ _ (ret (.ref I)) _ _ s
 exact wpAny_pure ⟨_,rfl,"set_iterator",_,hT,slot_next.lookup,h⟩
theorem walk_place (hh:A.handled=none) {I a:Addr} (hne:a ≠ I) {o:Obj} {es:Array (Int × Value)} {ep:Nat} {t:SetTable} (hd:o.data=.set es ep t) (hf:t.fits es.size=true) (sl:Nat→Nat) (us:Nat→Value)
  (hx:∀ (A:Around) (E:Value→Shared→Prop) (s:Shared) (i:Nat) (Q:Option (Value × Nat)→Shared→Prop),s.heap.get? a=some o→i < es.size→Q (some (us i,sl (i + 1))) s→wpAny (model prog w) A (setNext a (sl i) i ep) Q E s)
  (he:∀ (A:Around) (E:Value→Shared→Prop) (s:Shared) (Q:Option (Value × Nat)→Shared→Prop),s.heap.get? a=some o→Q none s→wpAny (model prog w) A (setNext a (sl es.size) es.size ep) Q E s) :
  Walks prog w A I [I,a] [I] es.size (fun i v=>v=us i) (fun i h=>h.get? I=some (itObj (.int (sl i:Int) 0) i a es.size ep)∧h.get? a=some o) where
 sub:=fun b hb=>by simp at hb; simp [hb]
 frame:=fun _ _ _ st hk=>⟨hk I (by simp) _ st.1,hk a (by simp) _ st.2⟩
 item:=fun i s Q E hi st hQ=>by
  obtain ⟨hI,ho⟩:=st
  have hT:s.TypeIs (.ref I) "set_iterator":=⟨_,hI,rfl⟩
  unfold pyNext
  refine wpAny_bind (wpAny_attempt (wpAny_callSpecial?_slot (name:=Str.ofString "__next__") hT slot_next (wpAny_call_entry slot_next hT entry_next ?_ (args_next _))))
  unfold Builtin.«set_iterator.__next__»
  refine wpAny_bind (wpAny_pure ?_)
  refine wpAny_bind (wpAny_fieldsOf hI rfl ?_)
  dsimp only
  refine wpAny_bind (wpAny_setEntries_of ho hd hf ?_)
  rw [if_neg (by simp)]
  try dsimp only
  simp only [Int.toNat_natCast]
  refine wpAny_bind (hx _ _ _ i _ ho hi ?_)
  dsimp only
  refine wpAny_bind (wpAny_setField_rec hI (by simp) fun h1 g1 k1=>?_)
  refine wpAny_bind (wpAny_setField_rec g1 (by simp) fun h2 g2 k2=>?_)
  refine wpAny_pure ⟨_,rfl,wpAny_pure ?_⟩
  refine hQ (us i) h2 s.toks rfl ⟨?_,?_⟩ fun b o' hb e=>?_
  ·rw [g2]; simp [itObj,rawInt]
  ·rw [k2.2 a hne,k1.2 a hne]; exact ho
  ·have hbI:b ≠ I:=fun z=>hb (by simp [z])
   rw [k2.2 b hbI,k1.2 b hbI]; exact e
 done:=fun s Q E st hQ=>by
  obtain ⟨hI,ho⟩:=st
  have hT:s.TypeIs (.ref I) "set_iterator":=⟨_,hI,rfl⟩
  unfold pyNext
  refine wpAny_bind (wpAny_attempt (wpAny_callSpecial?_slot (name:=Str.ofString "__next__") hT slot_next (wpAny_call_entry slot_next hT entry_next ?_ (args_next _))))
  unfold Builtin.«set_iterator.__next__»
  refine wpAny_bind (wpAny_pure ?_)
  refine wpAny_bind (wpAny_fieldsOf hI rfl ?_)
  dsimp only
  refine wpAny_bind (wpAny_setEntries_of ho hd hf ?_)
  rw [if_neg (by simp)]
  try dsimp only
  simp only [Int.toNat_natCast]
  refine wpAny_bind (he _ _ _ _ ho ?_)
  dsimp only
  refine wpAny_bind (wpAny_setField_rec hI (by simp) fun h1 g1 k1=>?_)
  refine wpAny_bind ?_
  simp only [newExc,newTuple]
  refine wpAny_bind (wpAny_newObj_type ?_ (by size_fits))
  refine wpAny_bind (m:=firstArgMember _ _) (wpAny_of_eq (a:=Value.none) (by first | rfl | (simp only [firstArgMember]; rfl)) ?_)
  refine wpAny_newObj_type ?_ (by size_fits)
  simp only [raiseNew]
  refine wpAny_bind (wpAny_handled ?_)
  rw [show A.in1.handled=none from hh]
  refine wpAny_bind (wpAny_pure (wpAny_throw ?_))
  refine wpAny_bind (wpAny_isInstance (T:="StopIteration") (b:=true) ⟨_,Heap.get?_push_size _ rfl,rfl⟩ isSubtype_stop ?_)
  refine wpAny_pure (hQ _ s.toks fun b o' hb e=>?_)
  have hbI:b ≠ I:=fun z=>hb (by simp [z])
  refine Heap.get?_push_of_some _ (Heap.get?_push_of_some _ ?_)
  rw [k1.2 b hbI]; exact e
 self:=fun _ _ _ _ st hQ=>self_it st.1 hQ
theorem walk_drawn (hh:A.handled=none) {I T a:Addr} (hne:a ≠ I) (hnT:T ≠ I) {o:Obj} {es:Array (Int × Value)} {ep:Nat} {t:SetTable} (hd:o.data=.set es ep t) (hf:t.fits es.size=true) (js:List Nat) (hj:js.length=es.size) (hlt:∀ j ∈ js,j < es.size) :
  Walks prog w A I [I,a,T] [I] es.size (fun i v=>v=(es.getD (js.getD i 0) (0,Value.none)).2) (fun i h=>h.get? I=some (itObj (.ref T) i a es.size ep)∧h.get? a=some o∧∃ oT c,h.get? T=some oT∧oT.data=.seq (js.map fun (j:Nat)=>rawInt j).toArray c) where
 sub:=fun b hb=>by simp at hb; simp [hb]
 frame:=fun _ _ _ st hk=>⟨hk I (by simp) _ st.1,hk a (by simp) _ st.2.1,by obtain ⟨oT,c,h1,h2⟩:=st.2.2; exact ⟨oT,c,hk T (by simp) _ h1,h2⟩⟩
 item:=fun i s Q E hi st hQ=>by
  obtain ⟨hI,ho,oT,c,hoT,hdT⟩:=st
  have hT:s.TypeIs (.ref I) "set_iterator":=⟨_,hI,rfl⟩
  unfold pyNext
  refine wpAny_bind (wpAny_attempt (wpAny_callSpecial?_slot (name:=Str.ofString "__next__") hT slot_next (wpAny_call_entry slot_next hT entry_next ?_ (args_next _))))
  unfold Builtin.«set_iterator.__next__»
  refine wpAny_bind (wpAny_pure ?_)
  refine wpAny_bind (wpAny_fieldsOf hI rfl ?_)
  dsimp only
  refine wpAny_bind (wpAny_setEntries_of ho hd hf ?_)
  rw [if_neg (by simp)]
  try dsimp only
  refine wpAny_bind (wpAny_seqItems hoT hdT ?_)
  dsimp only
  have hij:i < js.length:=by rw [hj]; exact hi
  have hjl:js[i] < es.size:=hlt _ (List.getElem_mem hij)
  have e1:(js.map fun (j:Nat)=>rawInt j).toArray[(i:Int).toNat]?=some (.int (js[i]:Int) 0):=by simp [hij,rawInt]
  have e2:(es.getD (js.getD i 0) (0,Value.none)).2=es[js[i]].2:=by simp [hij,hjl,Array.getD]
  rw [e1]
  dsimp only
  unfold setNextDrawn
  refine wpAny_bind (wpAny_bind (wpAny_setState_of ho hd hf ?_))
  simp only [Int.toNat_natCast]
  rw [if_neg (by simp),Array.getElem?_eq_getElem hjl]
  refine wpAny_pure ?_
  refine wpAny_bind (wpAny_setField_rec hI (by simp) fun h1 g1 k1=>?_)
  refine wpAny_pure ⟨_,rfl,wpAny_pure ?_⟩
  refine hQ _ h1 s.toks e2.symm ⟨?_,?_,oT,c,?_,hdT⟩ fun b o' hb e=>?_
  ·rw [g1]; simp [itObj,rawInt]
  ·rw [k1.2 a hne]; exact ho
  ·rw [k1.2 T hnT]; exact hoT
  ·have hbI:b ≠ I:=fun z=>hb (by simp [z])
   rw [k1.2 b hbI]; exact e
 done:=fun s Q E st hQ=>by
  obtain ⟨hI,ho,oT,c,hoT,hdT⟩:=st
  have hT:s.TypeIs (.ref I) "set_iterator":=⟨_,hI,rfl⟩
  unfold pyNext
  refine wpAny_bind (wpAny_attempt (wpAny_callSpecial?_slot (name:=Str.ofString "__next__") hT slot_next (wpAny_call_entry slot_next hT entry_next ?_ (args_next _))))
  unfold Builtin.«set_iterator.__next__»
  refine wpAny_bind (wpAny_pure ?_)
  refine wpAny_bind (wpAny_fieldsOf hI rfl ?_)
  dsimp only
  refine wpAny_bind (wpAny_setEntries_of ho hd hf ?_)
  rw [if_neg (by simp)]
  try dsimp only
  refine wpAny_bind (wpAny_seqItems hoT hdT ?_)
  dsimp only
  have e1:(js.map fun (j:Nat)=>rawInt j).toArray[(es.size:Int).toNat]?=none:=by simp [hj]
  rw [e1]
  dsimp only
  refine wpAny_bind (wpAny_setField_rec hI (by simp) fun h0 g0 k0=>?_)
  refine wpAny_bind (wpAny_setField_rec g0 (by simp) fun h1 g1 k1=>?_)
  refine wpAny_bind ?_
  simp only [newExc,newTuple]
  refine wpAny_bind (wpAny_newObj_type ?_ (by size_fits))
  refine wpAny_bind (m:=firstArgMember _ _) (wpAny_of_eq (a:=Value.none) (by first | rfl | (simp only [firstArgMember]; rfl)) ?_)
  refine wpAny_newObj_type ?_ (by size_fits)
  simp only [raiseNew]
  refine wpAny_bind (wpAny_handled ?_)
  rw [show A.in1.handled=none from hh]
  refine wpAny_bind (wpAny_pure (wpAny_throw ?_))
  refine wpAny_bind (wpAny_isInstance (T:="StopIteration") (b:=true) ⟨_,Heap.get?_push_size _ rfl,rfl⟩ isSubtype_stop ?_)
  refine wpAny_pure (hQ _ s.toks fun b o' hb e=>?_)
  have hbI:b ≠ I:=fun z=>hb (by simp [z])
  refine Heap.get?_push_of_some _ (Heap.get?_push_of_some _ ?_)
  rw [k1.2 b hbI,k0.2 b hbI]; exact e
 self:=fun _ _ _ _ st hQ=>self_it st.1 hQ
end
end DS
namespace DS
open PySem PySem.SetTable PyProof.Rows PySem.Spec
theorem range_getD {α:Type} (xs:Array (Int × α)) (d:Int × α):((List.range xs.size).map fun i=>(xs.getD i d).2)=xs.toList.map (·.2):=by
 apply List.ext_getElem
 ·simp
 ·intro i h1 h2
  have hi:i < xs.size:=by simpa using h1
  simp [Array.getD,hi]
theorem range_list {α:Type} (js:List Nat) (n:Nat) (hj:js.length=n) (g:Nat→α):((List.range n).map fun i=>g (js.getD i 0))=js.map g:=by
 apply List.ext_getElem
 ·simp [hj]
 ·intro i h1 h2
  have hi:i < js.length:=by simpa using h2
  simp [hi]
section
variable {prog:Program} {w:World} {A:Around} {E:Value→Shared→Prop} {s:Shared}
theorem iterP (hh:A.handled=none) {a:Addr} {ks:List Int} {Q:Value→Shared→Prop} (x:SetP prog w s.heap a ks)
  (h:∀ (I:Addr) (fp:List Addr) (h':Heap) (d:PySem.Drawn) (us:Nat→Value) (St:Nat→Heap→Prop) (vs:List Value),Walks prog w A I fp [I] ks.length (fun i v=>v=us i) St→St 0 h' →
   (∀ b o,s.heap.get? b=some o→h'.get? b=some o)→s.heap.objs.size ≤ I→(∀ b ∈ fp,b=a ∨ s.heap.objs.size ≤ b)→IntsAre vs ks→((List.range ks.length).map us).Perm vs→Q (.ref I) { s with heap:=h',drawn:=d }) :
  wpAny (model prog w) A (pyIter (.ref a)) Q E s:=by
 obtain ⟨o,es,ep,t,vs,ho,hex,hd,hel,hi,hpv,hb,hf,hr,hled⟩:=x
 have hn:es.size=ks.length:=by rw [← ints_len hi,← hpv.length_eq,List.length_map,Array.length_toList]
 rw [← hn] at h
 have hT:s.TypeIs (.ref a) "set":=⟨o,ho,hex.1⟩
 have hlt:a < s.heap.objs.size:=Heap.lt_size ho
 have hps:t.place.size=es.size:=by
  simp only [SetTable.fits,Bool.and_eq_true,beq_iff_eq,decide_eq_true_eq] at hf
  exact hf.1
 refine wpAny_pyIter_slot hT F.slot_set_iter (wpAny_call_entry F.slot_set_iter hT entry_iter ?_ (F.args_set_iter_1 _))
 unfold Builtin.«frozenset.__iter__» Builtin.Frozenset.slot0 slotArgs
 simp only [List.isEmpty_nil,Bool.not_true,Bool.false_eq_true,↓reduceIte,bind_assoc,List.length_nil,bne_self_eq_false]
 unfold Builtin.Frozenset.addrOf Builtin.Frozenset.sizeOf
 refine wpAny_bind (wpAny_pure ?_)
 try dsimp only
 refine wpAny_bind (wpAny_pure ?_)
 refine wpAny_bind (wpAny_bind (wpAny_setEntries_of ho hd hf (wpAny_pure ?_)))
 unfold setDrawn
 refine wpAny_bind (wpAny_bind (wpAny_setState_of ho hd hf ?_))
 dsimp only
 unfold setsByText
 refine wpAny_bind (wpAny_bind (wpAny_askSetting (wpAny_pure (wpAny_pure ?_))))
 have plainRest:(byT w=true ∨ (!t.plain && decide (es.size > 1))=false)→Q (.ref s.heap.objs.size) { s with heap:=s.heap.push (itObj (.int 0 0) 0 a es.size ep) }:=by
  intro hc
  have key:∀ (sl:Nat→Nat) (us:Nat→Value),sl 0=0→((List.range es.size).map us).Perm vs →
    (∀ (A:Around) (E:Value→Shared→Prop) (s:Shared) (i:Nat) (Q:Option (Value × Nat)→Shared→Prop),s.heap.get? a=some o→i < es.size→Q (some (us i,sl (i + 1))) s→wpAny (model prog w) A (setNext a (sl i) i ep) Q E s) →
    (∀ (A:Around) (E:Value→Shared→Prop) (s:Shared) (Q:Option (Value × Nat)→Shared→Prop),s.heap.get? a=some o→Q none s→wpAny (model prog w) A (setNext a (sl es.size) es.size ep) Q E s) →
    Q (.ref s.heap.objs.size) { s with heap:=s.heap.push (itObj (.int 0 0) 0 a es.size ep) }:=by
   intro sl us h0 hp hx he
   refine h s.heap.objs.size [s.heap.objs.size,a] _ s.drawn us _ vs (walk_place hh (Nat.ne_of_lt hlt) hd hf sl us hx he) ⟨?_,Heap.get?_push_of_some _ ho⟩ (fun b o e=>Heap.get?_push_of_some _ e) (Nat.le_refl _) (fun b hb=>?_) hi hp
   ·rw [h0]; exact Heap.get?_push_size _ rfl
   ·rcases List.mem_cons.mp hb with e | e
    ·exact .inr (by rw [e]; exact Nat.le_refl _)
    ·exact .inl (List.mem_singleton.mp e)
  cases hbt:byT w with
  | true =>
   have pp:=pick_perm (w.params.setOrder a ep) es
   have psz:(pickOrder (w.params.setOrder a ep) es).size=es.size:=by rw [← Array.length_toList,pp.length_eq,Array.length_toList]
   refine key (fun _=>0) (fun i=>((pickOrder (w.params.setOrder a ep) es).getD i (0,Value.none)).2) rfl ?_ (fun A E s i Q g hi' q=>next_text g hd hf hbt 0 i ?_) fun A E s Q g q=>next_text g hd hf hbt 0 es.size ?_
   ·rw [← psz,range_getD]
    exact (pp.map _).trans hpv
   ·have hi2:i < (pickOrder (w.params.setOrder a ep) es).size:=by rw [psz]; exact hi'
    rw [Array.getElem?_eq_getElem hi2]
    simpa [Array.getD,hi2] using q
   ·rw [Array.getElem?_eq_none (by omega)]
    exact q
  | false =>
   have hnd:(!t.plain && decide (es.size > 1))=false:=hc.resolve_left (by rw [hbt]; exact Bool.false_ne_true)
   have hl:t.led=true:=by rw [hled]; unfold Led; rw [show w.params.followText "set-order"=false from hbt]; rfl
   have below_at:∀ i,i ≤ es.size→below t.place (if i=0 then 0 else t.place.getD (i - 1) 0 + 1)=i:=by
    intro i hi'
    by_cases z:i=0
    ·rw [if_pos z,z]; exact below_zero hr
    ·rw [if_neg z]
     have hp1:i - 1 < t.place.size:=by omega
     have:t.place.getD (i - 1) 0=t.place[i - 1]:=by simp [Array.getD,hp1]
     rw [this,below_next hr hp1]; omega
   refine key (fun i=>if i=0 then 0 else t.place.getD (i - 1) 0 + 1) (fun i=>(es.getD i (0,Value.none)).2) rfl ?_ (fun A E s i Q g hi' q=>next_place g hd hf hbt hnd hl _ i ?_) fun A E s Q g q=>next_place g hd hf hbt hnd hl _ es.size ?_
   ·rw [range_getD]; exact hpv
   ·rw [below_at i (by omega),Array.getElem?_eq_getElem hi',Array.getElem?_eq_getElem (show i < t.place.size by omega)]
    simpa [Array.getD,hi',show i < t.place.size by omega] using q
   ·rw [below_at es.size (Nat.le_refl _),Array.getElem?_eq_none (Nat.le_refl _)]
    exact q
 refine wpAny_ite_split (fun hab=>?_) (fun hab=>?_)
 ·refine wpAny_bind (draw_any es.size (List.range es.size) _ _ (by simp) fun js d hp=>?_)
  refine wpAny_bind (wpAny_newObj_type ?_ (by have:=hp.length_eq; simp at this; simp only [sizeOk]; simp [this]; exact fits_of_scanBound hb))
  refine wpAny_bind (wpAny_setEpoch_of (Heap.get?_push_of_some _ ho) hd hf ?_)
  refine wpAny_bind (wpAny_newObj_type ?_)
  refine wpAny_pure ⟨_,rfl,"set_iterator",_,⟨_,Heap.get?_push_size _ rfl,rfl⟩,slot_next.lookup,?_⟩
  have hj:js.length=es.size:=by simpa using hp.length_eq
  have hjl:∀ j ∈ js,j < es.size:=fun j hm=>List.mem_range.mp (hp.mem_iff.mp hm)
  have e1:((s.heap.push { cls:=.type "tuple",data:=.seq (js.map fun (i:Nat)=>rawInt i).toArray }).objs.size)=s.heap.objs.size + 1:=size_push' ..
  refine h _ [(s.heap.push { cls:=.type "tuple",data:=.seq (js.map fun (i:Nat)=>rawInt i).toArray }).objs.size,a,s.heap.objs.size] _ d (fun i=>(es.getD (js.getD i 0) (0,Value.none)).2) _ vs
   (walk_drawn hh (by rw [e1]; exact Nat.ne_of_lt (Nat.lt_succ_of_lt hlt)) (by rw [e1]; exact Nat.ne_of_lt (Nat.lt_succ_self _)) hd hf js hj hjl) ⟨Heap.get?_push_size _ rfl,Heap.get?_push_of_some _ (Heap.get?_push_of_some _ ho),_,_,Heap.get?_push_of_some _ (Heap.get?_push_size _ rfl),rfl⟩ (fun b o e=>Heap.get?_push_of_some _ (Heap.get?_push_of_some _ e)) (by rw [e1]; omega) (fun b hb=>?_) hi ?_
  ·rcases List.mem_cons.mp hb with e | e
   ·exact .inr (by rw [e,e1]; omega)
   ·rcases List.mem_cons.mp e with e | e
    ·exact .inl e
    ·exact .inr (by rw [List.mem_singleton.mp e]; exact Nat.le_refl _)
  ·rw [range_list js es.size hj fun j=>(es.getD j (0,Value.none)).2]
   refine (hp.map _).trans ?_
   rw [range_getD]; exact hpv
 ·refine wpAny_bind (wpAny_pure ?_)
  refine wpAny_bind (wpAny_setEpoch_of ho hd hf ?_)
  refine wpAny_bind (wpAny_newObj_type ?_)
  refine wpAny_pure ⟨_,rfl,"set_iterator",_,⟨_,Heap.get?_push_size _ rfl,rfl⟩,slot_next.lookup,?_⟩
  refine plainRest ?_
  have:¬ ((!byT w && (!t.plain && decide (es.size > 1)))=true):=hab
  cases hbt:byT w with
  | true=>exact .inl rfl
  | false=>rw [hbt] at this; exact .inr (by simpa using this)
end
end DS
namespace DS
open PySem PySem.SetTable PyProof.Rows PySem.Spec PySem.W
section
variable {prog:Program} {w:World} {A:Around} {E:Value→Shared→Prop} {s:Shared}
theorem hint_set {r:Addr} {Q:Bool→Shared→Prop} (hT:s.TypeIs (.ref r) "set") (h:Q false s):wpAny (model prog w) A (Builtin.List.listLengthHint (.ref r)) Q E s:=by
 unfold Builtin.List.listLengthHint
 refine wpAny_bind (wpAny_specialOf hT PySem.F.slot_set_len.lookup ?_)
 generalize hid:("set.__len__":String)=id0
 wp_delta
 rw [show splitId id0=some ("set","__len__") from by subst hid; decide +kernel]
 subst hid
 refine wpAny_bind (wpAny_isInstance (T:="set") (b:=true) hT (by rw [isSubtype_type]; kernel_rfl) ?_)
 refine wpAny_ite_split (fun hab=>absurd hab (by decide)) (fun _=>?_)
 refine wpAny_ite_split (fun _=>?_) (fun hab=>absurd (by decide +kernel) hab)
 refine wpAny_bind (wpAny_typeOf hT ?_)
 exact wpAny_pure h
theorem items_eq {us:Nat→Value} {acc:Array Value} {n:Nat} (h:ItemsOf (fun i v=>v=us i) acc n):acc.toList=(List.range n).map us:=by
 apply List.ext_getElem
 ·simp [h.1]
 ·intro i h1 h2
  have:=h.2 i acc.toList[i] (by rw [← Array.getElem?_toList,List.getElem?_eq_getElem h1])
  simp [this]
theorem collectP {R:List Value→Shared→Prop} (hh:A.handled=none) {a:Addr} {ks:List Int} (x:SetP prog w s.heap a ks) (hn:ks.length ≤ sizeLine)
  (h:∀ (h':Heap) (tk:Nat) (d:PySem.Drawn) (acc vs:List Value),(∀ b o,s.heap.get? b=some o→h'.get? b=some o)→s.heap.objs.size < h'.objs.size→IntsAre vs ks→acc.Perm vs→R acc { s with heap:=h',toks:=tk,drawn:=d }) :
  wpAny (model prog w) A (collect (.ref a)) R E s:=by
 have hlt:a < s.heap.objs.size:=by obtain ⟨o,_,_,_,_,ho,_⟩:=x; exact Heap.lt_size ho
 unfold collect
 refine wpAny_bind (wpAny_runValue (codeAny_builtin entry_proto_collect' ?_))
 rw [Around.under_plainId PySem.F.plain_proto_collect _]
 show wpAny _ A.in1 (newList [] >>= fun l=>again (.builtin "list.__iadd__" ⟨[l,.ref a],[]⟩)) _ _ s
 refine wpAny_bind (wpAny_newObj_type ?_)
 refine wpAny_pure ⟨plainId_quiet PySem.F.plain_list_iadd _,codeAny_builtin entry_list_iadd' ?_⟩
 rw [Around.under_plainId PySem.F.plain_list_iadd _]
 have hS₁:(s.heap.push { cls:=.type "list",data:=.seq ([]:List Value).toArray }).get? s.heap.objs.size=some { cls:=.type "list",data:=.seq #[] }:=Heap.get?_push_size _ rfl
 have x1:SetP prog w (s.heap.push { cls:=.type "list",data:=.seq ([]:List Value).toArray }) a ks:=x.at' fun o e=>Heap.get?_push_of_some _ e
 have hT1:Shared.TypeIs { s with heap:=s.heap.push { cls:=.type "list",data:=.seq ([]:List Value).toArray } } (.ref a) "set":=by
  obtain ⟨o,_,_,_,_,ho,hex,_⟩:=x1; exact ⟨o,ho,hex.1⟩
 show wpAny _ A.in1 (Builtin.List.listExtendWith (.ref s.heap.objs.size) (.ref a) (.ref s.heap.objs.size)) _ _ _
 unfold Builtin.List.listExtendWith
 refine wpAny_bind (wpAny_typeOf (T:="set") hT1 ?_)
 have hSr:s.heap.objs.size ≠ a:=Nat.ne_of_gt hlt
 have h1:Builtin.List.listSameRef (.ref s.heap.objs.size) (.ref a)=false:=by simp [Builtin.List.listSameRef,hSr]
 have h2:(Value.type "set" == Value.type "list")=false:=by decide
 have h3:(Value.type "set" == Value.type "tuple")=false:=by decide
 simp only [h1,h2,h3,Bool.or_false,Bool.false_eq_true,if_false]
 refine wpAny_bind (iterP (A:=A.in1) hh x1 fun I fp h' d us St vs W st hk hI hfp hi hp=>?_)
 have hS₂:=hk _ _ hS₁
 have hsz:(s.heap.push { cls:=.type "list",data:=.seq ([]:List Value).toArray }).objs.size=s.heap.objs.size + 1:=size_push' ..
 have hSf:s.heap.objs.size ∉ fp:=fun hm=>by
  rcases hfp _ hm with e | e
  ·exact hSr e
  ·rw [hsz] at e; exact absurd e (Nat.not_succ_le_self _)
 have key:∀ (h:Heap) (c₁:Nat),St 0 h→(∀ b o,b ≠ s.heap.objs.size→s.heap.get? b=some o→h.get? b=some o)→h.get? s.heap.objs.size=some { cls:=.type "list",data:=.seq #[] c₁ } →
   ∀ (tk:Nat),codeAny (model prog w) A (.builtin "list.extend.loop" ⟨[.ref s.heap.objs.size,.ref I,.ref s.heap.objs.size],[]⟩) (fun q s2=>∃ (h5:Heap) (tk5:Nat) (acc5:Array Value) (c5:Nat),q=.ok (.ret (.ref s.heap.objs.size))∧s2={ s with heap:=h5,toks:=tk5,drawn:=d }∧(∀ b o,s.heap.get? b=some o→h5.get? b=some o)∧h5.get? s.heap.objs.size=some { cls:=.type "list",dict:=none,data:=.seq acc5 c5,slots:=#[] }∧acc5.toList.Perm vs) { s with heap:=h,toks:=tk,drawn:=d }:=by
  intro h4 c₁ hst hk4 hS4 tk
  refine codeAny_extend_loopS W.toS hn s.heap.objs.size hSf (.ref s.heap.objs.size) ks.length 0 _ #[] c₁ rfl (Nat.zero_le _) hst hS4 (ItemsOf.nil _) fun s' acc' c' hm hS' hacc=>?_
  rw [Moved.eq_with hm]
  refine ⟨s'.heap,s'.toks,acc',c',rfl,rfl,fun b o e=>hm.heap b o (fun hmem=>?_) (hk4 b o (Nat.ne_of_lt (Heap.lt_size e)) e),hS',by rw [items_eq hacc]; exact hp⟩
  have hb:=Heap.lt_size e
  rcases List.mem_cons.mp hmem with e' | hmem
  ·exact absurd hb (by rw [e']; exact Nat.lt_irrefl _)
  ·rw [List.mem_singleton.mp hmem] at hb
   rw [hsz] at hI
   exact absurd (Nat.lt_of_lt_of_le hb (Nat.le_trans (Nat.le_succ _) hI)) (Nat.lt_irrefl _)
 refine wpAny_bind (wpAny_holding (hint_set ?_ ?_))
 ·obtain ⟨o,_,_,_,_,ho,hex,_⟩:=x1; exact ⟨o,hk _ _ ho,hex.1⟩
 refine wpAny_ite_split (fun _=>?_) (fun _=>wpAny_pure ⟨plainId_quiet PySem.F.plain_extend_loop _,codeAny_mono (key _ _ st (fun b o _ e=>hk _ _ (Heap.get?_push_of_some _ e)) hS₂ _) fun q s2 y=>?fin⟩)
 case fin =>
  obtain ⟨h5,tk5,acc5,c5,rfl,rfl,hk5,hS5,hp5⟩:=y
  show wpAny _ A (load s.heap.objs.size >>= _) _ _ _
  refine wpAny_bind (wpAny_load hS5 ?_)
  exact wpAny_pure (h h5 tk5 d acc5.toList vs hk5 (Heap.lt_size hS5) hi hp5)
 refine wpAny_bind (wpAny_rule ?_)
 refine wpAny_bind ?_
 show wpAny _ _ (updateSeq s.heap.objs.size (·.push .none) >>= fun _=>updateSeq s.heap.objs.size (·.pop)) _ _ _
 refine wpAny_bind (wpAny_updateSeq hS₂ rfl ?_)
 have hS₃:=Heap.get?_update_self (Obj.mapSeq (·.push Value.none)) hS₂ rfl
 refine wpAny_updateSeq (hz:=by seq_fits) hS₃ rfl ?_
 have hS₄:=Heap.get?_update_self (Obj.mapSeq (·.pop)) hS₃ rfl
 refine wpAny_pure ⟨plainId_quiet PySem.F.plain_extend_loop _,codeAny_mono (key _ _ ?_ (fun b o hb e=>?_) hS₄ _) fun q s2 y=>?fin2⟩
 case fin2 =>
  obtain ⟨h5,tk5,acc5,c5,rfl,rfl,hk5,hS5,hp5⟩:=y
  show wpAny _ A (load s.heap.objs.size >>= _) _ _ _
  refine wpAny_bind (wpAny_load hS5 ?_)
  exact wpAny_pure (h h5 tk5 d acc5.toList vs hk5 (Heap.lt_size hS5) hi hp5)
 ·refine W.frame 0 _ _ st fun b hb o e=>?_
  have hbS:b ≠ s.heap.objs.size:=fun h=>hSf (h ▸ hb)
  exact (Heap.get?_update_other _ _ (Ne.symm hbS)).trans ((Heap.get?_update_other _ _ (Ne.symm hbS)).trans e)
 ·exact (Heap.get?_update_other _ _ (Ne.symm hb)).trans ((Heap.get?_update_other _ _ (Ne.symm hb)).trans (hk _ _ (Heap.get?_push_of_some _ e)))
end
end DS
namespace DV
open PySem PySem.W PyProof.Rows
section
variable {prog:Program} {w:World} {A:Around} {E:Value→Shared→Prop} {s:Shared}
end
end DV
namespace L2
open PySem PySem.Spec PySem.W PyProof.Rows
section
variable {X:Cx} {pins:List (Addr × Obj)} {σ:St} {E:Value→Shared→Prop}
end
section
variable {X:Cx}
end
end L2
namespace DS
open PySem PySem.Spec PySem.W PyProof.Rows
def dedup (ns:List Int):List Int:=ns.foldl step_dedup []
theorem firstMet_dedup (ns:List Int):firstMet (fun i=>ns.getD i 0) ns.length=dedup ns:=by
 unfold firstMet dedup
 have:(List.range ns.length).map (fun i=>ns.getD i 0)=ns:=by
  apply List.ext_getElem
  ·simp
  ·intro i h1 h2; simp [h2]
 rw [this]
theorem mem_step {σ:List Int} {v k:Int}:k ∈ step_dedup σ v ↔ k ∈ σ ∨ k=v:=by
 have h:=step_any σ v k
 have e1:((step_dedup σ v).any (· == k)=true) ↔ k ∈ step_dedup σ v:=by simp
 have e2:(σ.any (· == k)=true) ↔ k ∈ σ:=by simp
 rw [← e1,← e2,h,Bool.or_eq_true,decide_eq_true_eq]
theorem nodup_step {σ:List Int} {v:Int} (h:σ.Nodup):(step_dedup σ v).Nodup:=by
 unfold step_dedup
 split
 ·exact h
 ·rename_i c
  have hv:v ∉ σ:=fun hm=>c (by simpa using hm)
  rw [List.nodup_append]
  refine ⟨h,by simp,?_⟩
  intro a ha b hb e
  rw [List.mem_singleton] at hb
  exact hv (by rw [← hb,← e]; exact ha)
theorem fold_mem:∀ (ns σ:List Int) (k:Int),k ∈ ns.foldl step_dedup σ ↔ k ∈ σ ∨ k ∈ ns
 | [],σ,k=>by simp
 | n :: ns,σ,k=>by
  rw [List.foldl_cons,fold_mem ns,mem_step,List.mem_cons]
  constructor
  ·rintro ((h | h) | h)
   ·exact .inl h
   ·exact .inr (.inl h)
   ·exact .inr (.inr h)
  ·rintro (h | h | h)
   ·exact .inl (.inl h)
   ·exact .inl (.inr h)
   ·exact .inr h
theorem fold_nodup:∀ (ns σ:List Int),σ.Nodup→(ns.foldl step_dedup σ).Nodup
 | [],σ,h=>h
 | n :: ns,σ,h=>fold_nodup ns _ (nodup_step h)
theorem mem_dedup {ns:List Int} {k:Int}:k ∈ dedup ns ↔ k ∈ ns:=by
 unfold dedup; rw [fold_mem]; simp
theorem nodup_dedup (ns:List Int):(dedup ns).Nodup:=fold_nodup ns [] List.nodup_nil
theorem dedup_len (ns:List Int):(dedup ns).length ≤ ns.length:=by
 rw [← firstMet_dedup]; exact firstMet_length_le _ _
theorem ints_perm {acc vs:List Value} (hp:acc.Perm vs):∀ {ks:List Int},IntsAre vs ks→∃ ns,IntsAre acc ns∧ns.Perm ks:=by
 induction hp with
 | nil=>intro ks h; cases h; exact ⟨[],.nil,.nil⟩
 | cons x _ ih =>
  intro ks h
  cases h with
  | cons n t hr=>obtain ⟨ns,a,b⟩:=ih hr; exact ⟨n :: ns,.cons n t a,b.cons n⟩
 | swap x y l =>
  intro ks h
  cases h with
  | cons n t hr =>
   cases hr with
   | cons m u hr'=>exact ⟨m :: n :: _,.cons m u (.cons n t hr'),.swap _ _ _⟩
 | trans _ _ ih1 ih2 =>
  intro ks h
  obtain ⟨ns,a,b⟩:=ih2 h
  obtain ⟨ns',a',b'⟩:=ih1 a
  exact ⟨ns',a',b'.trans b⟩
end DS
namespace L2
open PySem PySem.Spec PySem.W PyProof.Rows
def SetO (P:Program) (w:World) (a:Addr) (ks:List Int):HO:=.ext fun h=>DS.SetP P w h a ks
theorem Inv.drew {X:Cx} {pins:List (Addr × Obj)} {σ:List (Option V)} {H:Hp} {s:Shared} (I:Inv X pins σ H s) (d:PySem.Drawn):Inv X pins σ H { s with drawn:=d } :=
 ⟨I.ok,I.os,I.bare,I.base,I.loc,I.cell,I.free,I.freeC,I.pin,I.hok,I.len⟩
section
variable {X:Cx}
def rSetOf (P:Program) (w:World) (K:PySem.W.Frag):List V→Hp→VK→Prop:=fun xs H Q=>∃ (l:Addr) (ns:List Int),xs=[.ref l]∧SqL K H l (ns.map V.int)∧ns.length + 1 < scanBound∧∀ p,H p=none→Q (.ref p) (upd H p (SetO P w p (DS.dedup ns)))
theorem call_setOf (hc:X.calm=true):CallR X (.type "set") (rSetOf X.prog X.w X.K):=by
 intro pins s σ H xs us Q I r h
 obtain ⟨l,ns,e1,hS,hb,q⟩:=h
 subst e1
 obtain ⟨u,e2,ru⟩:=vals1 r
 subst e2
 obtain rfl:u=Value.ref l:=ru
 obtain ⟨vs,rv,pl,hz⟩:=I.list hS
 have hi:=intsAre_of rv
 have hlen:vs.length=ns.length:=by rw [← rv.length,List.length_map]
 refine DS.call_setP (items:=vs.toArray) (ns:=ns) (I.ok.hd hc) pl.isList (by simpa using hi) (by rw [List.size_toArray,hlen]; exact hb) fun h' tk x hk=>?_
 rw [show vs.toArray.size=ns.length by rw [List.size_toArray,hlen],DS.firstMet_dedup] at x
 have hg:∃ o,h'.get? s.heap.objs.size=some o:=by obtain ⟨o,_,_,_,_,ho,_⟩:=x; exact ⟨o,ho⟩
 exact ⟨.ref s.heap.objs.size,_,I.laid (a:=s.heap.objs.size) (o:=SetO X.prog X.w s.heap.objs.size (DS.dedup ns)) (t':=tk) (fun b o e=>hk b o (Heap.lt_size e) e) (Nat.le_refl _) ⟨x,hg,fun h1 h2 y k=>y.at' k⟩,rfl,q _ (I.hok.fresh (Nat.le_refl _))⟩
def rSortSet (P:Program) (w:World):List V→Hp→VK→Prop:=fun xs H Q=>∃ (a:Addr) (ks:List Int),xs=[.ref a]∧H a=some (SetO P w a ks)∧ks.length < 64∧∀ (D:Addr) (out:List Int),H D=none→out.Perm ks→out.Pairwise (· ≤ ·)→Q (.ref D) (upd H D (.lst (out.map V.int)))
theorem call_sortSet (hc:X.calm=true):CallR X (.builtin "sorted") (rSortSet X.prog X.w):=by
 intro pins s σ H xs us Q I r h
 obtain ⟨a,ks,e1,hS,h64,q⟩:=h
 subst e1
 obtain ⟨u,e2,ru⟩:=vals1 r
 subst e2
 obtain rfl:u=Value.ref a:=ru
 obtain ⟨x,-,-⟩:=I.hok a _ hS
 refine Calls.call_function_entry kind_sorted plain_sorted entry_sorted (args_sorted1 _) ?_
 unfold Builtin.«sorted»
 refine wpAny_bind (m:=checkCount "sorted" 1 1 _) (wpAny_pure ?_)
 refine wpAny_bind (DS.collectP (A:=X.A.in1) (I.ok.hd hc) x (by rw [sizeLine_eq]; omega) fun h' tk d acc vs hk hle hi hp=>?_)
 obtain ⟨ns,hin,hpn⟩:=DS.ints_perm hp hi
 have hal:acc.length < 64:=by rw [DS.ints_len hin,hpn.length_eq]; exact h64
 refine wpAny_bind (wpAny_newList ?_ (by rw [sizeLine_eq]; omega))
 have hoL:(h'.push (seqObj "list" acc.toArray 0)).get? h'.objs.size=some (seqObj "list" acc.toArray 0):=Heap.get?_push_size _ rfl
 show wpAny _ _ _ _ _ { s with heap:=h'.push (seqObj "list" acc.toArray 0),toks:=tk,drawn:=d }
 replace hle:=Nat.le_of_lt hle
 refine wpAny_bind (wpAny_holding (wpAny_call_entry slot_list_sort ⟨_,hoL,rfl⟩ entry_list_sort (list_sort_tree hoL hin hal fun out ns' a1 a2 a3=>⟨_,rfl,?_⟩) (args_list_sort _)))
 refine wpAny_pure ⟨_,rfl,?_⟩
 obtain ⟨e,he'⟩:=sortedHeap_at (vs:=acc) (out:=out) (n:=0) hoL
 have hkeep:∀ b o,s.heap.get? b=some o→(sortedHeap (h'.push (seqObj "list" acc.toArray 0)) h'.objs.size acc out).get? b=some o:=fun b o eb=>by
  have h1:=hk b o eb
  have hlt:=Heap.lt_size h1
  rw [sortedHeap_old (Nat.ne_of_lt hlt) (by rw [size_push']; exact Nat.lt_succ_of_lt hlt)]
  exact Heap.get?_push_of_some _ h1
 have hl2:ns'.length < 64:=by rw [a2.length_eq,hpn.length_eq]; exact h64
 refine ⟨.ref h'.objs.size,_,((I.drew d).laid (a:=h'.objs.size) (o:=.lst (ns'.map V.int)) (t':=tk) hkeep hle ⟨?_,out.toList,e,vals_ints a1,by simpa using he'⟩),rfl,q _ ns' (I.hok.fresh hle) (a2.trans hpn) a3⟩
 rw [List.length_map,sizeLine_eq]; omega
end
end L2
namespace DW
open PySem
end DW
namespace L2
open PySem PySem.Spec PyProof.Rows
section
variable {X:Cx}
variable {o e:Expr} {es:List Expr} {to:TE} {t:TA} {name:Str} {apos cpos:Pos} {T id:String} {r:V→List V→Hp→VK→Prop}
end
end L2
namespace L2
open PySem PySem.Spec PyProof.Rows S2
theorem seq_abs {t u:TS} {D:Ends} {σ:St} {H:Hp} (h:∀ N:St→Hp→Prop,(∀ σ H,u D σ H→N σ H)→t { D with nx:=N } σ H):tSeq t u D σ H:=h _ fun _ _ x=>x
end L2
namespace B04
open PySem L2 S2
def Kr (M:Addr→Prop) (H H':Hp):Prop:=∀ b u,¬ M b→H b=some u→H' b=some u ∨ ∃ kvs,(u=.dK kvs ∨ ∃ o,u=.frz o (.dK kvs))∧Rd H' b (.dK kvs)
abbrev M0:Addr→Prop:=fun _=>False
theorem Kr.same {M:Addr→Prop} {H H':Hp} (s:Same H H'):Kr M H H':=fun b u _ e=>.inl (s b u e)
theorem Kr.rd {M:Addr→Prop} {H H':Hp} (k:Kr M H H') {b:Addr} {kvs:List (Key × V)} (n:¬ M b) (h:Rd H b (.dK kvs)):Rd H' b (.dK kvs):=by
 rcases h with e | ⟨o,e⟩
 ·rcases k b _ n e with z | ⟨kvs',z | ⟨o',z⟩,r⟩
  ·exact .inl z
  ·cases z; exact r
  ·cases z
 ·rcases k b _ n e with z | ⟨kvs',z | ⟨o',z⟩,r⟩
  ·exact .inr ⟨o,z⟩
  ·cases z
  ·cases z; exact r
theorem Kr.trans {M:Addr→Prop} {H H1 H2:Hp} (a:Kr M H H1) (b:Kr M H1 H2):Kr M H H2:=fun c u n e=>by
 rcases a c u n e with z | ⟨kvs,z,r⟩
 ·exact b c u n z
 ·exact .inr ⟨kvs,z,b.rd n r⟩
theorem Kr.le {M M':Addr→Prop} {H H':Hp} (k:Kr M H H') (h:∀ b u,M b→H b=some u→M' b):Kr M' H H':=fun b u n e=>k b u (fun z=>n (h b u z e)) e
theorem Kr.tup {M:Addr→Prop} {H H':Hp} (k:Kr M H H') {b:Addr} {xs:List V} (n:¬ M b) (e:H b=some (.tup xs)):H' b=some (.tup xs):=by
 rcases k b _ n e with z | ⟨kvs',z | ⟨o',z⟩,r⟩
 ·exact z
 ·cases z
 ·cases z
theorem Kr.lst {M:Addr→Prop} {H H':Hp} (k:Kr M H H') {b:Addr} {xs:List V} (n:¬ M b) (e:H b=some (.lst xs)):H' b=some (.lst xs):=by
 rcases k b _ n e with z | ⟨kvs',z | ⟨o',z⟩,r⟩
 ·exact z
 ·cases z
 ·cases z
theorem Kr.ins {M:Addr→Prop} {H H':Hp} (k:Kr M H H') {b C dx:Addr} {fs:List (Str × V)} (n:¬ M b) (e:H b=some (.ins C dx fs)):H' b=some (.ins C dx fs):=by
 rcases k b _ n e with z | ⟨kvs',z | ⟨o',z⟩,r⟩
 ·exact z
 ·cases z
 ·cases z
theorem Kr.free {H H':Hp} (k:Kr M0 H H') {b:Addr} (h:H' b=none):H b=none:=by
 cases e:H b with
 | none=>rfl
 | some u =>
  rcases k b u (fun z=>z) e with z | ⟨_,_,z | ⟨_,z⟩⟩ <;> (rw [h] at z; cases z)
theorem Kr.frz {M:Addr→Prop} {H:Hp} {d:Addr} {kvs:List (Key × V)} {o:Obj} (h:Rd H d (.dK kvs)):Kr M H (upd H d (.frz o (.dK kvs))):=fun b u _ e=>by
 by_cases q:b=d
 ·subst q
  refine .inr ⟨kvs,?_,.inr ⟨o,upd_same⟩⟩
  rcases h with z | ⟨o',z⟩
  ·rw [z] at e; exact .inl (Option.some.inj e).symm
  ·rw [z] at e; exact .inr ⟨o',(Option.some.inj e).symm⟩
 ·exact .inl (by rw [upd_ne q]; exact e)
theorem Kr.but {M:Addr→Prop} {H H':Hp} {d:Addr} {kvs:List (Key × V)} (h:Rd H d (.dK kvs)) (k:∀ b u,b ≠ d→¬ M b→H b=some u→H' b=some u) (r:Rd H' d (.dK kvs)):Kr M H H':=fun b u n e=>by
 by_cases q:b=d
 ·subst q
  refine .inr ⟨kvs,?_,r⟩
  rcases h with z | ⟨o',z⟩
  ·rw [z] at e; exact .inl (Option.some.inj e).symm
  ·rw [z] at e; exact .inr ⟨o',(Option.some.inj e).symm⟩
 ·exact .inl (k b u q n e)
theorem Kr.its {M:Addr→Prop} {H H':Hp} {l:List It6} (k:Kr M H H') (h:ItsOk H l) (n:∀ t xs,H t=some (.tup xs)→¬ M t):ItsOk H' l:=h.keep fun t xs e=>k.tup (n t xs e) e
theorem Kr.its0 {H H':Hp} {l:List It6} (k:Kr M0 H H') (h:ItsOk H l):ItsOk H' l:=k.its h fun _ _ _ z=>z
def vI (v:It6→Int) (l:List It6):List (Str × Int):=l.map fun x=>(x.1,v x)
theorem vI_keys (v:It6→Int) (l:List It6):(vI v l).map (·.1)=l.map (·.1):=by unfold vI; rw [List.map_map]; rfl
theorem vI_len (v:It6→Int) (l:List It6):(vI v l).length=l.length:=by unfold vI; rw [List.length_map]
theorem nd_filter6 {l:List It6} (nd:(l.map (·.1)).Nodup) (c:It6→Bool):((l.filter c).map (·.1)).Nodup:=(List.Sublist.map (·.1) (List.filter_sublist (p:=c) (l:=l))).nodup nd
theorem mem_vI {v:It6→Int} {l:List It6} {x:It6} (h:x ∈ l):(x.1,v x) ∈ vI v l:=List.mem_map_of_mem (f:=fun x:It6=>(x.1,v x)) h
theorem get_vI {H:Hp} {d:Addr} {v:It6→Int} {l:List It6} (hd:Rd H d (.dK (kvW (vI v l)))) (nd:(l.map (·.1)).Nodup) {x:It6} (h:x ∈ l):DGet H d (kV (.inr x.1)) (some (.int (v x))):=by
 rw [← valW (ws:=vI v l) (by rw [vI_keys]; exact nd) (mem_vI h)]
 exact .inl ⟨_,_,hd,rfl,rfl⟩
theorem wOf_vI {v:It6→Int} {l:List It6} (nd:(l.map (·.1)).Nodup) {x:It6} (h:x ∈ l):wOf (vI v l) x.1=v x:=wOf_of (p:=(x.1,v x)) (by rw [vI_keys]; exact nd) (mem_vI h)
theorem pairs_vI {H:Hp} {bs:List Addr} {l:List It6} {v:It6→Int} (h:RowsOf H bs (l.map fun x=>[V.str x.1,V.int (v x)])):PairsAtK H bs (kvW (vI v l)):=by
 refine ⟨by rw [h.1,List.length_map,kvW_len,vI_len],fun i q x e1 e2=>?_⟩
 unfold kvW vI at e2
 rw [List.map_map,List.getElem?_map] at e2
 cases ex:l[i]? with
 | none=>rw [ex] at e2; cases e2
 | some y =>
  rw [ex] at e2
  cases e2
  exact h.2 i q _ e1 (by rw [List.getElem?_map,ex]; rfl)
theorem IsIt.values {a:Addr} {o:Obj} {H:Hp} {kvs:List (Key × V)} (h:H a=some (.frz o (.dK kvs))):IsIt (Itv a o kvs) H (kvs.map (·.2)) :=
 ⟨fun i H' s hi=>⟨s _ _ h,by rw [List.length_map] at hi; exact hi⟩,fun H' s=>⟨s _ _ h,by rw [List.length_map]; exact Nat.le_refl _⟩,fun i x H' H'' s y=>by
  obtain ⟨e,k,e1⟩:=y
  exact ⟨e,by rw [List.getElem?_map,e1]; rfl⟩⟩
theorem kvR_vals (l:List It6):(kvR l).map (·.2)=l.map fun x=>V.ref x.2.1:=by unfold kvR; rw [List.map_map]; rfl
theorem kvR_keys (l:List It6):((kvR l).map fun kv=>kV kv.1)=l.map fun x=>V.str x.1:=by unfold kvR; rw [List.map_map]; rfl
structure DictE (H H1:Hp) (D:Addr) (bs:List Addr) (kvs:List (Key × V)):Prop where
 l:H1 D=some (.lst (bs.map V.ref))
 p:PairsAtK H1 bs kvs
 s:bs.length < sizeLine
 m:mergeP [] kvs=kvs
 f:∀ d,H1 d=none→H d=none
 k:Kr M0 H H1
theorem DictE.kr {H H1:Hp} {D d:Addr} {bs:List Addr} {kvs:List (Key × V)} {o:HO} (e:DictE H H1 D bs kvs) (hd:H1 d=none):Kr M0 H (upd H1 d o):=e.k.trans (.same (Same.put (Same.refl _) hd))
def kvG (vl:It6→V) (l:List It6):List (Key × V):=l.map fun x=>(Sum.inr x.1,vl x)
theorem kvG_len (vl:It6→V) (l:List It6):(kvG vl l).length=l.length:=by unfold kvG; rw [List.length_map]
theorem kvG_at {vl:It6→V} {l:List It6} {i:Nat} {k:Key} {v:V} (h:(kvG vl l)[i]?=some (k,v)):∃ x,l[i]?=some x∧k=.inr x.1∧v=vl x:=by
 unfold kvG at h
 rw [List.getElem?_map] at h
 cases e:l[i]? with
 | none=>rw [e] at h; cases h
 | some p=>rw [e] at h; cases h; exact ⟨p,rfl,rfl,rfl⟩
theorem dict_itG {K:PySem.W.Frag} {a:Addr} {its:List It6} {tt:TT} {te:TE} {σ:St} {H:Hp} {Q:VK} (vl:It6→V) (c:It6→Bool) (v:It6→Int) (hI:Rd H a (.dK (kvG vl its))) (nd:(its.map (·.1)).Nodup) (hl12:its.length ≤ 20)
  (ht:∀ (x:It6) (H':Hp) (Q':Bool→Hp→Prop),x ∈ its→Kr M0 H H'→(∀ H'',Same H' H''→Q' (c x) H'')→tt (some (.str x.1) :: some (vl x) :: σ) H' Q')
  (he:∀ (x:It6) (H':Hp) (Q':VK),c x=true→x ∈ its→Kr M0 H H'→(∀ t,H' t=none→Q' (.ref t) (upd H' t (.tup [.str x.1,.int (v x)])))→te (some (.str x.1) :: some (vl x) :: σ) H' Q')
  (hd:∀ (D:Addr) (bs:List Addr) (H1:Hp),DictE H H1 D bs (kvW (vI v (its.filter c)))→Q (.ref D) H1) (o:Obj):CompGoN (Itd a o (kvG vl its)) (upd H a (.frz o (.dK (kvG vl its)))) 2 σ (gTwo K) tt te Q:=by
 have k0:Kr M0 H (upd H a (.frz o (.dK (kvG vl its)))):=.frz hI
 have hq:(upd H a (.frz o (.dK (kvG vl its)))) a=some (.frz o (.dK (kvG vl its))):=upd_same
 generalize upd H a (.frz o (.dK (kvG vl its)))=H0 at *
 refine comp_itemsF (K:=K) (fun D j l H'=>H0 D=none∧Same H0 H'∧∃ bs:List Addr,l=bs.map V.ref∧H' D=some (.lst l)∧RowsOf H' bs (((its.take j).filter c).map fun x=>[V.str x.1,V.int (v x)])) (small (by rw [kvG_len]; omega))
  (fun D hD=>⟨hD,Same.put (Same.refl _) hD,[],rfl,upd_same,RowsOf.nil⟩) (fun D j l H' ⟨_,s,_⟩=>s _ _ hq) (fun D j l H' ⟨_,_,bs,e,_,r⟩=>by
   rw [e,List.length_map,r.1,List.length_map]
   exact Nat.le_trans (List.length_filter_le _ _) (by rw [List.length_take]; omega)) ?_ ?_
 ·rintro D j kk w0 p l H' Q1 hkv hp ⟨hD,s1,bs,rfl,hl1,hr1⟩ hq1
  obtain ⟨x,ex,rfl,rfl⟩:=kvG_at hkv
  have hm:=List.mem_of_getElem? ex
  have s2:Same H' (upd H' p (.tup [kV (.inr x.1),vl x])):=Same.put (Same.refl _) hp
  generalize upd H' p (.tup [kV (.inr x.1),vl x])=H2 at *
  have s02:=Same.trans s1 s2
  refine ht x H2 _ hm (k0.trans (.same s02)) fun H3 s3=>hq1 _ _ (fun hb=>⟨hD,Same.trans s02 s3,bs,rfl,s3 _ _ (s2 _ _ hl1),?_⟩) (fun hb Q' hq'=>?_)
  ·rw [take_filter ex,if_neg (by rw [hb]; exact Bool.false_ne_true),List.append_nil]
   exact (hr1.same s2).same s3
  ·have s03:=Same.trans s02 s3
   refine he x H3 Q' hb hm (k0.trans (.same s03)) fun t htn=>?_
   have s4:Same H3 (upd H3 t (.tup [.str x.1,.int (v x)])):=Same.put (Same.refl _) htn
   have h4:(upd H3 t (.tup [.str x.1,.int (v x)])) t=some (.tup [.str x.1,.int (v x)]):=upd_same
   have hl4:=s4 _ _ (s3 _ _ (s2 _ _ hl1))
   have hr4:=((hr1.same s2).same s3).same s4
   generalize upd H3 t (.tup [.str x.1,.int (v x)])=H4 at *
   have kt:∀ b xs,H4 b=some (.tup xs)→(upd H4 D (.lst (bs.map V.ref ++ [V.ref t]))) b=some (.tup xs):=fun b xs e=>by rw [upd_ne (ne_of e hl4 (by intro z; cases z))]; exact e
   refine hq' _ _ hl4 ⟨hD,Same.put (Same.trans s03 s4) hD,bs ++ [t],by rw [List.map_append]; rfl,upd_same,?_⟩
   rw [take_filter ex,if_pos hb,List.map_append]
   exact RowsOf.snoc (H:=upd H4 D (.lst (bs.map V.ref ++ [V.ref t]))) ⟨hr4.1,fun i p r e1 e2=>kt _ _ (hr4.2 i p r e1 e2)⟩ (Same.refl _) (kt _ _ h4)
 ·rintro D l H' hD ⟨hD1,s1,bs,rfl,hl1,hr1⟩
  rw [kvG_len,List.take_length] at hr1
  exact hd D bs H' ⟨hl1,pairs_vI hr1,small (by rw [hr1.1,List.length_map]; have:=List.length_filter_le c its; omega),mergeP_nil (by rw [vI_keys]; exact nd_filter6 nd c),fun d hd0=>k0.free (s1.free hd0),k0.trans (.same s1)⟩
theorem dict_its {K:PySem.W.Frag} {a:Addr} {its:List It6} {tt:TT} {te:TE} {σ:St} {H:Hp} {Q:VK} (c:It6→Bool) (v:It6→Int) (hI:Rd H a (.dK (kvR its))) (hok:ItsOk H its)
  (ht:∀ (x:It6) (H':Hp) (Q':Bool→Hp→Prop),x ∈ its→Kr M0 H H'→H' x.2.1=some (.tup x.2.2.vs)→(∀ H'',Same H' H''→Q' (c x) H'')→tt (some (.str x.1) :: some (.ref x.2.1) :: σ) H' Q')
  (he:∀ (x:It6) (H':Hp) (Q':VK),c x=true→x ∈ its→Kr M0 H H'→H' x.2.1=some (.tup x.2.2.vs)→(∀ t,H' t=none→Q' (.ref t) (upd H' t (.tup [.str x.1,.int (v x)])))→te (some (.str x.1) :: some (.ref x.2.1) :: σ) H' Q')
  (hd:∀ (D:Addr) (bs:List Addr) (H1:Hp),DictE H H1 D bs (kvW (vI v (its.filter c)))→Q (.ref D) H1) (o:Obj):CompGoN (Itd a o (kvR its)) (upd H a (.frz o (.dK (kvR its)))) 2 σ (gTwo K) tt te Q :=
 dict_itG (fun x=>.ref x.2.1) c v hI hok.2.1 hok.2.2.1 (fun x H' Q' hx k hq=>ht x H' Q' hx k ((k.its0 hok).1 x hx) hq) (fun x H' Q' hc hx k hq=>he x H' Q' hc hx k ((k.its0 hok).1 x hx) hq) hd o
theorem dict_keys {a:Addr} {its:List It6} {tt:TT} {te:TE} {σ:St} {H:Hp} {Q:VK} (c:It6→Bool) (v:It6→Int) (hI:Rd H a (.dK (kvR its))) (hok:ItsOk H its)
  (ht:∀ (x:It6) (H':Hp) (Q':Bool→Hp→Prop),x ∈ its→Kr M0 H H'→(∀ H'',Same H' H''→Q' (c x) H'')→tt (some (.str x.1) :: σ) H' Q')
  (he:∀ (x:It6) (H':Hp) (Q':VK),c x=true→x ∈ its→Kr M0 H H'→(∀ t,H' t=none→Q' (.ref t) (upd H' t (.tup [.str x.1,.int (v x)])))→te (some (.str x.1) :: σ) H' Q')
  (hd:∀ (D:Addr) (bs:List Addr) (H1:Hp),DictE H H1 D bs (kvW (vI v (its.filter c)))→Q (.ref D) H1) (o:Obj):CompGo (Itk a o (kvR its)) (upd H a (.frz o (.dK (kvR its)))) σ tt te Q:=by
 have hl12:its.length ≤ 20:=hok.2.2.1
 have k0:Kr M0 H (upd H a (.frz o (.dK (kvR its)))):=.frz hI
 have hq:(upd H a (.frz o (.dK (kvR its)))) a=some (.frz o (.dK (kvR its))):=upd_same
 generalize upd H a (.frz o (.dK (kvR its)))=H0 at *
 refine comp_ofT (α:=It6) (l:=its) (fun x=>V.str x.1) c (fun x=>[V.str x.1,V.int (v x)]) (by have z:=IsIt.keys hq; rw [kvR_keys] at z; exact z) (small (by omega)) (fun x H' Q' hm s hq'=>ht x H' Q' hm (k0.trans (.same s)) hq') (fun x H' Q' hb hm s hq'=>he x H' Q' hb hm (k0.trans (.same s)) hq') fun D bs H' hD s1 hl1 hr1=>?_
 exact hd D bs H' ⟨hl1,pairs_vI hr1,small (by rw [hr1.1,List.length_map]; have:=List.length_filter_le c its; omega),mergeP_nil (by rw [vI_keys]; exact nd_filter6 hok.2.1 c),fun d hd0=>k0.free (s1.free hd0),k0.trans (.same s1)⟩
theorem filter_T {α:Type} (l:List α):l.filter (fun _=>true)=l:=List.filter_eq_self.mpr fun _ _=>rfl
theorem list_vals {a:Addr} {its:List It6} {te:TE} {σ:St} {H:Hp} {Q:VK} (v:It6→Int) (hI:Rd H a (.dK (kvR its))) (hok:ItsOk H its)
  (he:∀ (x:It6) (H':Hp) (Q':VK),x ∈ its→H' x.2.1=some (.tup x.2.2.vs)→Q' (.int (v x)) H'→te (some (.ref x.2.1) :: σ) H' Q')
  (hd:∀ (D:Addr) (H':Hp),H D=none→Kr M0 H H'→H' D=some (.lst ((its.map v).map V.int))→Q (.ref D) H') (o:Obj):CompGo (Itv a o (kvR its)) (upd H a (.frz o (.dK (kvR its)))) σ ttAll te Q:=by
 have hl12:its.length ≤ 20:=hok.2.2.1
 have k0:Kr M0 H (upd H a (.frz o (.dK (kvR its)))):=.frz hI
 have hq:(upd H a (.frz o (.dK (kvR its)))) a=some (.frz o (.dK (kvR its))):=upd_same
 generalize upd H a (.frz o (.dK (kvR its)))=H0 at *
 have hok0:=k0.its0 hok
 refine comp_of (α:=It6) (l:=its) (fun x=>V.ref x.2.1) (fun _=>true) (fun x=>.int (v x)) (by have z:=IsIt.values hq; rw [kvR_vals] at z; exact z) (small (by omega)) (fun x H' Q' _ _ hq'=>hq' _ (Same.refl _)) (fun x H' Q' _ hm s hq'=>he x H' Q' hm (s _ _ (hok0.1 x hm)) (hq' _ (Same.refl _))) fun D H' hD s1 hl1=>?_
 rw [filter_T] at hl1
 exact hd D H' (k0.free hD) (k0.trans (.same s1)) (by rw [hl1,List.map_map]; rfl)
structure Cst (mg:Str→Option Value) (u:Nat→Value):Prop where
 r:∀ i,RelV (.int (i:Nat)) (u i)
 LEAST:mg "LEAST"=some (u 0)
 WISH:mg "WISH"=some (u 1)
 MOST:mg "MOST"=some (u 2)
 GROW:mg "GROW"=some (u 3)
 SHRINK:mg "SHRINK"=some (u 4)
 RANK:mg "RANK"=some (u 5)
def I6.col (x:I6) (j:Nat):Int:=[x.le,x.wi,x.mo,x.gr,x.sh,x.ra].getD j 0
theorem I6.at (x:I6) {j:Nat} (h:j < 6):atI x.vs (j:Int)=some (.int (x.col j)):=by
 have z:=at_getD (xs:=[x.le,x.wi,x.mo,x.gr,x.sh,x.ra]) (i:=(j:Int)) (by omega) (by show (j:Int) < 6; omega)
 rw [Int.toNat_natCast] at z
 exact z
def spPlanInit (K:PySem.W.Frag) (C:Addr):Sp:=fun vs H Q _=>∃ (x dx:Addr) (a b c:V),vs=[.ref x,a,b,c]∧H x=some (.ins C dx []) ∧
 ∀ H':Hp,(∀ y u,y ≠ x→H y=some u→H' y=some u)→H' x=some (.ins C dx [("bases",a),("sign",b),("pourings",c)])→Q .non H'
structure PlanC (K:PySem.W.Frag) (C:Addr):Prop where
 cl:Cls K C
 nB:NoAttr K C "bases"
 nS:NoAttr K C "sign"
 nP:NoAttr K C "pourings"
def spColumn:Sp:=fun vs H Q _=>∃ (dI:Addr) (its:List It6) (j:Nat),vs=[.ref dI,.int (j:Nat)]∧Rd H dI (.dK (kvR its))∧ItsOk H its∧j < 6 ∧
 ∀ (d:Addr) (H':Hp),H d=none→Kr M0 H H'→H' d=some (.dK (kvW (vI (fun x=>x.2.2.col j) its)))→Q (.ref d) H'
def spTotalD:Sp:=fun vs H Q _=>∃ (d l:Addr) (ws us:List (Str × Int)),vs=[.ref d,.ref l]∧d ≠ l∧Rd H d (.dK (kvW ws))∧(ws.map (·.1)).Nodup∧Rd H l (.dK (kvW us))∧(∀ x ∈ us.map (·.1),x ∈ ws.map (·.1))∧us.length ≤ 1000 ∧
 ∀ H',(∀ b u,b ≠ l→H b=some u→H' b=some u)→Rd H' l (.dK (kvW us))→Q (.int ((us.map (·.1)).map (wOf ws)).sum) H'
section
variable {P:Program} {w:World} {K:PySem.W.Frag} {mg:Str→Option Value} {base:Heap}
abbrev nPlanInit:List Str:=["self","bases","sign","pourings"]
theorem scPlanInit:FnScope nPlanInit ["self","bases","sign","pourings"] (defScope sPlanInit):=⟨rfl,rfl,rfl,by decide +kernel,rfl,by decide +kernel,by decide +kernel⟩
set_option maxHeartbeats 16000000 in
theorem ok_planInit {f:Addr} {fd:FuncData} {C:Addr} (TC:PlanC K C) (F:Fun K "__init__" "Plan.__init__" sPlanInit f fd) (N:Names mg):FnOk P w K mg base CX0 1 f fd ["self","bases","sign","pourings"] (spPlanInit K C):=by
 refine F.ok scPlanInit (fun vs H Q E h=>?_) (fun cdv A outer s H vs Q E hr h=>?_)
 ·obtain ⟨x,dx,a,b,c,e,_⟩:=h
  rw [e]
  rfl
 ·obtain ⟨x,dx,a,b,c,e,hx,k⟩:=h
  subst e
  refine ⟨_,pss_cons (ps_fld (pv 0) (pv 1) rfl)
   (pss_cons (ps_fld (pv 0) (pv 2) rfl)
   (pss_one (ps_fld (pv 0) (pv 3) rfl))),?_⟩
  try rw [show (cxOf CX0 P w K mg base nPlanInit "Plan.__init__" (defScope sPlanInit) f cdv A outer s H E).nox.K=K from rfl]
  refine ⟨_,rfl,_,rfl,x,C,dx,_,rfl,hx,TC.cl,TC.nB,(by decide),?_⟩
  refine ⟨_,rfl,_,rfl,x,C,dx,_,rfl,upd_same,TC.cl,TC.nS,(by show 1 < 1000; decide),?_⟩
  refine ⟨_,rfl,_,rfl,x,C,dx,_,rfl,upd_same,TC.cl,TC.nP,(by show 2 < 1000; decide),?_⟩
  refine k _ (fun y u hy e=>?_) upd_same
  rw [upd_ne hy,upd_ne hy,upd_ne hy]
  exact e
abbrev nColumn:List Str:=["items","place"]
theorem scColumn:FnScope nColumn ["items","place"] (defScope sColumn):=⟨rfl,rfl,rfl,by decide +kernel,rfl,by decide +kernel,by decide +kernel⟩
theorem scColumnN0:(["name","item","items","place"]:List Str).Nodup:=by decide +kernel
set_option maxHeartbeats 16000000 in
theorem ok_column {f:Addr} {fd:FuncData} (F:Fun K "column_of" "column_of" sColumn f fd) (N:Names mg):FnOk P w K mg base CX0 1 f fd ["items","place"] spColumn:=by
 refine F.ok scColumn (fun vs H Q E h=>?_) (fun cdv A outer s H vs Q E hr h=>?_)
 ·obtain ⟨dI,its,j,e,_⟩:=h
  rw [e]
  rfl
 ·obtain ⟨dI,its,j,e,hI,hok,hj,k⟩:=h
  subst e
  refine ⟨_,pss_one (ps_ret (pe_callTy (call_dictPK rfl) (by rfl) N.dict PyProof.Rows.boot_dict (pa_cons (pe_compN (k:=2) (N':=["name","item","items","place"]) (compScN_mk (fs:=defScope sColumn) (N:=nColumn) rfl rfl (by decide +kernel)) rfl (pi_items (pv 0)) (fun _ _ _ _ _=>pg_twoK (K:=K) rfl rfl scColumnN0 rfl rfl rfl rfl) (fun _ _ _ _ _=>pts_nil) (fun _ _ _ _ _=>(pe_tup (pa_cons (pv 0) (pa_cons (pe_ix (r:=rIxT K) ix_tup (pv 1) (pv 3) (fun _ _=>rfl)) pa_nil))))) pa_nil))),?_⟩
  try rw [show (cxOf CX0 P w K mg base nColumn "column_of" (defScope sColumn) f cdv A outer s H E).nox.K=K from rfl]
  refine ⟨_,rfl,dI,_,rfl,hI,dict_its (K:=K) (fun _=>true) (fun x=>x.2.2.col j) hI hok (fun x H' Q' _ _ _ hq=>hq _ (Same.refl _)) (fun x H' Q' _ hx k' hT hq=>⟨_,rfl,_,rfl,_,rfl,x.2.1,_,_,_,rfl,rfl,SqT.of hT,x.2.2.at hj,(by show 2 ≤ sizeLine; decide),fun t ht=>hq t ht⟩) fun D bs H1 e=>⟨D,bs,_,rfl,e.l,e.p,e.s,fun d hd=>?_⟩⟩
  rw [e.m,filter_T]
  exact k d _ (e.f d hd) (e.kr hd) upd_same
abbrev nTotalD:List Str:=["numbers","names"]
theorem scTotalD:FnScope nTotalD ["numbers","names"] (defScope sTotal):=⟨rfl,rfl,rfl,by decide +kernel,rfl,by decide +kernel,by decide +kernel⟩
set_option maxHeartbeats 16000000 in
theorem ok_totalD {f:Addr} {fd:FuncData} (F:Fun K "total_of" "total_of" sTotal f fd) (N:Names mg):FnOk P w K mg base CX0 1 f fd ["numbers","names"] spTotalD:=by
 refine F.ok scTotalD (fun vs H Q E h=>?_) (fun cdv A outer s H vs Q E hr h=>?_)
 ·obtain ⟨d,l,ws,us,e,_⟩:=h
  rw [e]
  rfl
 ·obtain ⟨d,l,ws,us,e,ndl,hd,nd,hl,hin,hln,k⟩:=h
  subst e
  have hu:(A.deeper (PyProof.Rows.envOfC "total_of" (defScope sTotal) s.heap.objs.size f cdv)).units + 1 < cLine:=by have:=hr.units; omega
  refine ⟨_,pss_one (ps_ret (pe_callB (call_sumL rfl) (by rfl) N.sum PyProof.Rows.boot_sum (pa_cons (pe_comp (compSc_mk (fs:=defScope sTotal) (N:=nTotalD) rfl rfl (by decide +kernel)) rfl (pi_keys (pv 1)) (fun _ _ _ _ _=>pts_nil) (fun _ _ _ _ _=>(pe_dget hu (pv 1) (pv 0) (fun _ _=>rfl)))) pa_nil))),?_⟩
  try rw [show (cxOf CX0 P w K mg base nTotalD "total_of" (defScope sTotal) f cdv A outer s H E).nox.K=K from rfl]
  refine ⟨_,rfl,l,_,rfl,hl,fun o=>?_⟩
  have hq:(upd H l (.frz o (.dK (kvW us)))) l=some (.frz o (.dK (kvW us))):=upd_same
  have k01:∀ b u,b ≠ l→H b=some u→(upd H l (.frz o (.dK (kvW us)))) b=some u:=fun b u hb e=>by rw [upd_ne hb]; exact e
  generalize upd H l (.frz o (.dK (kvW us)))=H1 at *
  have hd1:=keepD hd ndl k01
  refine comp_of (α:=Str) (l:=us.map (·.1)) V.str (fun _=>true) (fun x=>.int (wOf ws x)) (by have z:=IsIt.keys hq; rw [kvW_keys] at z; exact z) (small (by rw [List.length_map]; omega)) (fun x H' Q' _ _ hq=>hq _ (Same.refl _)) (fun x H' Q' _ hx s1 hq=>?_) fun D H' hD s1 h1=>?_
  ·exact ⟨_,rfl,_,rfl,d,_,rfl,get_wOf (hd1.keep fun o e=>s1 _ _ e) nd (hin x hx),hq _ (Same.refl _)⟩
  ·rw [filter_T] at h1
   have h2:H' D=some (.lst (((us.map (·.1)).map (wOf ws)).map V.int)):=by rw [h1,List.map_map (l:=us.map (·.1))]; rfl
   exact ⟨D,_,rfl,SqL.of h2,k H' (fun b u hb e=>s1 _ _ (k01 b u hb e)) (.inr ⟨o,s1 _ _ hq⟩)⟩
end
end B04
namespace B04
open PySem L2 S2
structure Po where
 R:Int
 it:List Itm
structure PoA where
 t:Addr
 dW:Addr
 dC:Addr
 po:Po
structure Pl where
 b:It6→Int
 sg:Int
 ps:List Po
def cl (j:Nat):It6→Int:=fun x=>x.2.2.col j
def sumI (v:It6→Int) (l:List It6):Int:=(l.map v).sum
def toIt (w c:It6→Int) (l:List It6):List Itm:=l.map fun x=>(x.1,w x,c x)
theorem toIt_ws (w c:It6→Int) (l:List It6):wsI (toIt w c l)=vI w l:=by unfold wsI toIt vI; rw [List.map_map]; rfl
theorem toIt_keys (w c:It6→Int) (l:List It6):(toIt w c l).map (·.1)=l.map (·.1):=by unfold toIt; rw [List.map_map]; rfl
theorem vI_vals (v:It6→Int) (l:List It6):(kvW (vI v l)).map (·.2)=(l.map v).map V.int:=by rw [kvW_vals]; unfold vI; rw [List.map_map (l:=l)]; rfl
theorem toIt_caps {w c:It6→Int} {its:List It6} (nd:(its.map (·.1)).Nodup) (f:It6→Bool):CapsOk (vI c its) (toIt w c (its.filter f)):=by
 refine ⟨by rw [vI_keys]; exact nd,fun y hy=>?_⟩
 obtain ⟨x,hx,rfl⟩:=List.mem_map.mp hy
 exact mem_vI (List.mem_filter.mp hx).1
def plGrow (room:Int) (its:List It6):Pl:=⟨cl 1,1,[⟨room - sumI (cl 1) its,toIt (cl 3) (fun x=>cl 2 x - cl 1 x) its⟩]⟩
def rdyB (x:It6):Bool:=decide (0 < cl 4 x)
def wlC (x:It6):Int:=cl 1 x - cl 0 x
def plShrink (room:Int) (its:List It6):Pl:=⟨cl 1,-1,⟨sumI (cl 1) its - room,toIt (cl 4) wlC (its.filter rdyB)⟩ ::
 if 0 < sumI (cl 1) its - room - sumI wlC (its.filter rdyB) then [⟨sumI (cl 1) its - room - sumI wlC (its.filter rdyB),toIt (fun _=>1) wlC (its.filter fun x=>!rdyB x)⟩] else []⟩
def ofR (r:Int) (x:It6):Bool:=decide (cl 5 x=r)
def givR (its:List It6) (lack r:Int):Int:=if sumI (cl 0) (its.filter (ofR r)) < lack then sumI (cl 0) (its.filter (ofR r)) else lack
def yStep (its:List It6) (s:List Po × Int) (r:Int):List Po × Int :=
 if 0 < s.2 then (s.1 ++ [⟨givR its s.2 r,toIt (fun _=>1) (cl 0) (its.filter (ofR r))⟩],s.2 - givR its s.2 r) else s
def ranks (its:List It6):List Int:=(DS.dedup (its.map (cl 5))).mergeSort fun a b=>decide (a ≤ b)
theorem ranks_eq {its:List It6} {out:List Int} (hp:out.Perm (DS.dedup (its.map (cl 5)))) (hs:out.Pairwise (· ≤ ·)):out=ranks its:=by
 have h1:=List.mergeSort_perm (DS.dedup (its.map (cl 5))) (fun a b=>decide (a ≤ b))
 have h2:=List.pairwise_mergeSort (le:=fun a b:Int=>decide (a ≤ b)) (fun a b c h1 h2=>decide_eq_true (Int.le_trans (of_decide_eq_true h1) (of_decide_eq_true h2))) (fun a b=>by rw [Bool.or_eq_true,decide_eq_true_eq,decide_eq_true_eq]; omega) (DS.dedup (its.map (cl 5)))
 refine List.Perm.eq_of_pairwise (le:=(· ≤ ·)) (fun a b _ _=>Int.le_antisymm) hs (h2.imp fun h=>of_decide_eq_true h) (hp.trans h1.symm)
def plYield (room:Int) (its:List It6):Pl:=⟨cl 0,-1,((ranks its).foldl (yStep its) ([],sumI (cl 0) its - room)).1⟩
def planOf (room:Int) (its:List It6):Pl:=if sumI (cl 1) its ≤ room then plGrow room its else if sumI (cl 0) its ≤ room then plShrink room its else plYield room its
def PoAt (H:Hp) (q:PoA):Prop:=H q.t=some (.tup [.int q.po.R,.ref q.dW,.ref q.dC])∧q.dW ≠ q.dC∧Rd H q.dW (.dK (kvW (wsI q.po.it)))∧∃ cs,Rd H q.dC (.dK (kvW cs))∧CapsOk cs q.po.it
def PlAt (C:Addr) (H:Hp) (x:Addr) (its:List It6) (pl:Pl):Prop:=∃ (dx dB lp:Addr) (qs:List PoA),H x=some (.ins C dx [("bases",.ref dB),("sign",.int pl.sg),("pourings",.ref lp)])∧Rd H dB (.dK (kvW (vI pl.b its))) ∧
 H lp=some (.lst (qs.map fun q=>V.ref q.t))∧qs.map (·.po)=pl.ps∧∀ q ∈ qs,PoAt H q
def NoM (M:Addr→Prop) (G:Hp):Prop:=∀ b,M b→(∀ xs,G b ≠ some (.tup xs))∧∀ kvs,¬ Rd G b (.dK kvs)
theorem PoAt.kr {M:Addr→Prop} {G G':Hp} {q:PoA} (h:PoAt G q) (k:Kr M G G') (n:NoM M G):PoAt G' q:=by
 obtain ⟨h1,h2,h3,cs,h4,h5⟩:=h
 exact ⟨k.tup (fun z=>(n _ z).1 _ h1) h1,h2,k.rd (fun z=>(n _ z).2 _ h3) h3,cs,k.rd (fun z=>(n _ z).2 _ h4) h4,h5⟩
theorem NoM.zero {G:Hp}:NoM M0 G:=fun _ z=>z.elim
theorem NoM.lst {G:Hp} {l:Addr} {xs:List V} (h:G l=some (.lst xs)):NoM (fun b=>b=l) G:=fun b e=>by
 have e:b=l:=e
 subst e
 exact ⟨fun ys z=>(by rw [h] at z; cases z),fun kvs z=>(by rcases z with z | ⟨o,z⟩ <;> (rw [h] at z; cases z))⟩
theorem NoM.rdn {M:Addr→Prop} {G:Hp} {b:Addr} {kvs:List (Key × V)} (n:NoM M G) (h:Rd G b (.dK kvs)):¬ M b:=fun z=>(n b z).2 _ h
theorem Kr.put {M:Addr→Prop} {H G:Hp} {l:Addr} {o:HO} (k:Kr M H G) (h:H l=none):Kr M H (upd G l o):=fun b u n e=>by
 have hb:b ≠ l:=ne_of_none e h
 rcases k b u n e with z | ⟨kvs,z,r⟩
 ·exact .inl (by rw [upd_ne hb]; exact z)
 ·exact .inr ⟨kvs,z,r.keep fun o e=>by rw [upd_ne hb]; exact e⟩
theorem Kr.fresh {M:Addr→Prop} {H G G':Hp} {l:Addr} (k:Kr M H G) (h:H l=none) (c:∀ b u,b ≠ l→G b=some u→G' b=some u):Kr M H G':=fun b u n e=>by
 have hb:b ≠ l:=ne_of_none e h
 rcases k b u n e with z | ⟨kvs,z,r⟩
 ·exact .inl (c b u hb z)
 ·exact .inr ⟨kvs,z,r.keep fun o e=>c b o hb e⟩
theorem Kr.at {G:Hp} {l:Addr} {o:HO}:Kr (fun b=>b=l) G (upd G l o):=fun b u n e=>.inl (by rw [upd_ne n]; exact e)
theorem make_plan {K:PySem.W.Frag} {C:Addr} {H:Hp} {Q:VK} {E:XK} {its:List It6} {pl:Pl} {dB lp:Addr} {qs:List PoA} (hB:Rd H dB (.dK (kvW (vI pl.b its)))) (hl:H lp=some (.lst (qs.map fun q=>V.ref q.t))) (hp:qs.map (·.po)=pl.ps) (hq:∀ q ∈ qs,PoAt H q)
  (k:∀ x H',H x=none→Same H H'→PlAt C H' x its pl→Q (.ref x) H') (x dx:Addr) (hx:H x=none) (hdx:H dx=none) (ne:dx ≠ x):spPlanInit K C (.ref x :: ([.ref dB,.int pl.sg,.ref lp] ++ [])) (upd (upd H dx (.own x)) x (.ins C dx [])) (fun v H2=>v=.non∧Q (.ref x) H2) E:=by
 refine ⟨x,dx,_,_,_,rfl,upd_same,fun H' kp hi=>⟨rfl,k x H' hx ?_ ?_⟩⟩
 ·intro b u e
  have n1:=ne_of_none e hx
  have n2:=ne_of_none e hdx
  exact kp b u n1 (by rw [upd_ne n1,upd_ne n2]; exact e)
 ·have s:Same H H':=fun b u e=>kp b u (ne_of_none e hx) (by rw [upd_ne (ne_of_none e hx),upd_ne (ne_of_none e hdx)]; exact e)
  exact ⟨dx,dB,lp,qs,hi,hB.keep fun o e=>s _ _ e,s _ _ hl,hp,fun q h=>(hq q h).kr (.same s) .zero⟩
def spPlanF (pl:Int→List It6→Pl) (C:Addr):Sp:=fun vs H Q _=>∃ (dI:Addr) (its:List It6) (room:Int),vs=[.int room,.ref dI]∧Rd H dI (.dK (kvR its))∧ItsOk H its ∧
 ∀ (x:Addr) (H':Hp),H x=none→Kr M0 H H'→PlAt C H' x its (pl room its)→Q (.ref x) H'
section
variable {P:Program} {w:World} {K:PySem.W.Frag} {mg:Str→Option Value} {base:Heap}
abbrev nGrowing:List Str:=["room","items","wishes","caps"]
theorem scGrowing:FnScope nGrowing ["room","items"] (defScope sGrowing):=⟨rfl,rfl,rfl,by decide +kernel,rfl,by decide +kernel,by decide +kernel⟩
theorem scGrowingN0:(["name","item","room","items","wishes","caps"]:List Str).Nodup:=by decide +kernel
set_option maxHeartbeats 16000000 in
theorem ok_growing {f f1 f2:Addr} {fd d1 d2:FuncData} {C2:Addr} {uu:Nat→Value} (CC:Cst mg uu) (F:Fun K "plan_growing" "plan_growing" sGrowing f fd) (N:Names mg)
  (G1:FnOk P w K mg base CX0 1 f1 d1 ["items","place"] spColumn) (b1:Binds K d1 ["items","place"] []) (m1:mg "column_of"=some (.ref f1)) (k1:PySem.W.keepIn K (.ref f1)=true)
  (G2:FnOk P w K mg base CX0 1 f2 d2 ["self","bases","sign","pourings"] (spPlanInit K C2)) (b2:Binds K d2 ["self","bases","sign","pourings"] []) (m2:mg "Plan"=some (.ref C2)) (M2:Mk K C2 f2):FnOk P w K mg base CX0 3 f fd ["room","items"] (spPlanF plGrow C2):=by
 refine F.ok scGrowing (fun vs H Q E h=>?_) (fun cdv A outer s H vs Q E hr h=>?_)
 ·obtain ⟨dI,its,room,e,_⟩:=h
  rw [e]
  rfl
 ·obtain ⟨dI,its,room,e,hI,hok,k⟩:=h
  subst e
  have hr1:=hr.mono (j:=1) (by decide)
  have hr2:=hr.mono (j:=2) (by decide)
  refine ⟨_,pss_cons (ps_set (i:=2) scGrowing.nd rfl (Or.inl rfl) (pe_call G1 hr1 (by rfl) m1 k1 b1 .nil pass0 (pa_cons (pv 1) (pa_cons (pe_glob (v:=.int 1) (by rfl) CC.WISH (CC.r 1)) pa_nil))))
   (pss_cons (ps_set (i:=3) scGrowing.nd rfl (Or.inl rfl) (pe_callTy (call_dictPK rfl) (by rfl) N.dict PyProof.Rows.boot_dict (pa_cons (pe_compN (k:=2) (N':=["name","item","room","items","wishes","caps"]) (compScN_mk (fs:=defScope sGrowing) (N:=nGrowing) rfl rfl (by decide +kernel)) rfl (pi_items (pv 1)) (fun _ _ _ _ _=>pg_twoK (K:=K) rfl rfl scGrowingN0 rfl rfl rfl rfl) (fun _ _ _ _ _=>pts_nil) (fun _ _ _ _ _=>(pe_tup (pa_cons (pv 0) (pa_cons (pe_op op_sub (pe_ix (r:=rIxT K) ix_tup (pv 1) (pe_glob (v:=.int 2) (by rfl) CC.MOST (CC.r 2)) (fun _ _=>rfl)) (pe_ix (r:=rIxT K) ix_tup (pv 1) (pe_glob (v:=.int 1) (by rfl) CC.WISH (CC.r 1)) (fun _ _=>rfl))) pa_nil))))) pa_nil)))
   (pss_one (ps_ret (pe_make M2 G2 hr2 (by rfl) m2 b2 .nil pass0 (pa_cons (pv 2) (pa_cons pe_int (pa_cons (pe_lst (pa_cons (pe_tup (pa_cons (pe_op op_sub (pv 0) (pe_sumV rfl (pv 2) (by rfl) (by rfl) (by rfl) N.sum PyProof.Rows.boot_sum)) (pa_cons (pe_call G1 hr1 (by rfl) m1 k1 b1 .nil pass0 (pa_cons (pv 1) (pa_cons (pe_glob (v:=.int 3) (by rfl) CC.GROW (CC.r 3)) pa_nil))) (pa_cons (pv 3) pa_nil)))) pa_nil)) pa_nil))))))),?_⟩
  try rw [show (cxOf CX0 P w K mg base nGrowing "plan_growing" (defScope sGrowing) f cdv A outer s H E).nox.K=K from rfl]
  refine seq_abs fun N1 hN=>?_
  refine ⟨_,rfl,dI,its,1,rfl,hI,hok,by decide,fun dB H1 hdB k1 h1=>?_⟩
  refine hN _ _ ?_
  clear hN N1
  refine seq_abs fun N1 hN=>?_
  have hI1:=k1.rd (fun z=>z) hI
  have hok1:=k1.its0 hok
  refine ⟨_,rfl,dI,_,rfl,hI1,dict_its (K:=K) (fun _=>true) (fun x=>cl 2 x - cl 1 x) hI1 hok1 (fun x H' Q' _ _ _ hq=>hq _ (Same.refl _)) (fun x H' Q' _ hx k' hT hq=>⟨_,rfl,_,rfl,x.2.1,_,_,_,rfl,rfl,SqT.of hT,x.2.2.at (j:=2) (by decide),_,rfl,x.2.1,_,_,_,rfl,rfl,SqT.of hT,x.2.2.at (j:=1) (by decide),_,_,rfl,rfl,(by show 2 ≤ sizeLine; decide),fun t ht=>hq t ht⟩) fun D bs HD e=>⟨D,bs,_,rfl,e.l,e.p,e.s,fun dC hdC0=>?_⟩⟩
  rw [e.m,filter_T]
  have k2:=e.kr (o:=.dK (kvW (vI (fun x=>cl 2 x - cl 1 x) its))) hdC0
  have hdC:=e.f dC hdC0
  have h2:(upd HD dC (.dK (kvW (vI (fun x=>cl 2 x - cl 1 x) its)))) dC=some (.dK (kvW (vI (fun x=>cl 2 x - cl 1 x) its))):=upd_same
  generalize upd HD dC (.dK (kvW (vI (fun x=>cl 2 x - cl 1 x) its)))=H2 at *
  clear e hdC0
  refine hN _ _ ?_
  clear hN N1
  have hI2:=k2.rd (fun z=>z) hI1
  have hok2:=k2.its0 hok1
  have h2B:=k2.rd (fun z=>z) (.inl h1)
  refine ⟨_,rfl,_,rfl,_,rfl,dB,_,_,rfl,h2B,vI_vals _ _,_,_,rfl,rfl,_,rfl,dI,its,3,rfl,hI2,hok2,by decide,fun dW H3 hdW k3 h3=>?_⟩
  have h3B:=k3.rd (fun z=>z) h2B
  have h3C:=k3.rd (fun z=>z) (.inl h2)
  have nWC:dW ≠ dC:=Ne.symm (ne_of_none h2 hdW)
  refine ⟨_,rfl,(by show 3 ≤ sizeLine; decide),fun t ht=>?_⟩
  generalize hG:upd H3 t _=H4
  have s4:Same H3 H4:=by rw [← hG]; exact Same.put (Same.refl _) ht
  have h4:H4 t=some (.tup [.int (room - sumI (cl 1) its),.ref dW,.ref dC]):=by rw [← hG]; exact upd_same
  clear hG
  refine ⟨(by show 1 ≤ sizeLine; decide),fun lp hlp=>?_⟩
  generalize hG:upd H4 lp _=H5
  have s5:Same H4 H5:=by rw [← hG]; exact Same.put (Same.refl _) hlp
  have h5:H5 lp=some (.lst [.ref t]):=by rw [← hG]; exact upd_same
  clear hG
  have s35:=Same.trans s4 s5
  have kA:Kr M0 H H5:=(k1.trans (k2.trans k3)).trans (.same s35)
  refine make_plan (pl:=plGrow room its) (qs:=[⟨t,dW,dC,⟨room - sumI (cl 1) its,toIt (cl 3) (fun x=>cl 2 x - cl 1 x) its⟩⟩]) (h3B.keep fun o e=>s35 _ _ e) h5 rfl (fun q hq=>?_) fun x H' hx s hp=>k x H' (kA.free hx) (kA.trans (.same s)) hp
  rw [List.mem_singleton.mp hq]
  refine ⟨s5 _ _ h4,nWC,?_,vI (fun x=>cl 2 x - cl 1 x) its,h3C.keep fun o e=>s35 _ _ e,?_⟩
  ·rw [toIt_ws]
   exact .inl (s35 _ _ h3)
  ·have z:=toIt_caps (w:=cl 3) (c:=fun x=>cl 2 x - cl 1 x) hok.2.1 fun _=>true
   rw [filter_T] at z
   exact z
end
end B04
namespace B04
open PySem L2 S2
theorem tot_vI {its l:List It6} {v c:It6→Int} (nd:(its.map (·.1)).Nodup) (h:∀ x ∈ l,x ∈ its):(((vI v l).map (·.1)).map (wOf (vI c its))).sum=sumI c l:=by
 rw [vI_keys,List.map_map]
 unfold sumI
 congr 1
 exact List.map_congr_left fun x hx=>wOf_vI nd (h x hx)
theorem memF6 {l:List It6} {c:It6→Bool} {x:It6} (h:x ∈ l.filter c):x ∈ l:=(List.mem_filter.mp h).1
theorem key_inj {its:List It6} (nd:(its.map (·.1)).Nodup) {x y:It6} (hx:x ∈ its) (hy:y ∈ its) (e:x.1=y.1):x=y:=by
 induction its with
 | nil=>cases hx
 | cons p l ih =>
  rw [List.map_cons,List.nodup_cons] at nd
  rcases List.mem_cons.mp hx with h1 | h1 <;> rcases List.mem_cons.mp hy with h2 | h2
  ·rw [h1,h2]
  ·exact absurd (by rw [← h1,e]; exact List.mem_map_of_mem h2) nd.1
  ·exact absurd (by rw [← h2,← e]; exact List.mem_map_of_mem h1) nd.1
  ·exact ih nd.2 h1 h2
theorem some_vI {its:List It6} {v:It6→Int} (nd:(its.map (·.1)).Nodup) (c:It6→Bool) {x:It6} (hx:x ∈ its):(!(valV (kvW (vI v (its.filter c))) (.inr x.1)).isSome)=!c x:=by
 congr 1
 cases hc:c x with
 | true =>
  rw [valW (n:=v x) (by rw [vI_keys]; exact nd_filter6 nd c) (mem_vI (List.mem_filter.mpr ⟨hx,hc⟩))]
  rfl
 | false =>
  rw [valW_none (fun z=>?_)]
  ·rfl
  ·rw [vI_keys] at z
   obtain ⟨y,hy,e⟩:=List.mem_map.mp z
   have:=key_inj nd (memF6 hy) hx e
   subst this
   rw [(List.mem_filter.mp hy).2] at hc
   cases hc
theorem yLen (its:List It6):∀ (rs:List Int) (s:List Po × Int),(rs.foldl (yStep its) s).1.length ≤ s.1.length + rs.length
 | [],s=>Nat.le_refl _
 | r :: rs,s=>by
  rw [List.foldl_cons]
  refine Nat.le_trans (yLen its rs _) ?_
  have:(yStep its s r).1.length ≤ s.1.length + 1:=by
   unfold yStep
   split
   ·rw [List.length_append]; exact Nat.le_refl _
   ·exact Nat.le_succ _
  rw [List.length_cons]
  omega
theorem ranks_len {its:List It6} (h:its.length ≤ 20):(ranks its).length ≤ 20:=by
 have h1:=(List.mergeSort_perm (DS.dedup (its.map (cl 5))) (fun a b=>decide (a ≤ b))).length_eq
 have h2:=DS.dedup_len (its.map (cl 5))
 rw [List.length_map] at h2
 unfold ranks
 omega
section
variable {P:Program} {w:World} {K:PySem.W.Frag} {mg:Str→Option Value} {base:Heap}
abbrev nShrinking:List Str:=["room","items","wishes","lack","caps","ready","pourings","others"]
theorem scShrinking:FnScope nShrinking ["room","items"] (defScope sShrinking):=⟨rfl,rfl,rfl,by decide +kernel,rfl,by decide +kernel,by decide +kernel⟩
theorem scShrinkingN0:(["name","item","room","items","wishes","lack","caps","ready","pourings","others"]:List Str).Nodup:=by decide +kernel
set_option maxHeartbeats 16000000 in
theorem ok_shrinking {f f1 f2 f3:Addr} {fd d1 d2 d3:FuncData} {C2:Addr} {uu:Nat→Value} (CC:Cst mg uu) (F:Fun K "plan_shrinking" "plan_shrinking" sShrinking f fd) (N:Names mg)
  (G1:FnOk P w K mg base CX0 1 f1 d1 ["items","place"] spColumn) (b1:Binds K d1 ["items","place"] []) (m1:mg "column_of"=some (.ref f1)) (k1:PySem.W.keepIn K (.ref f1)=true)
  (G2:FnOk P w K mg base CX0 1 f2 d2 ["self","bases","sign","pourings"] (spPlanInit K C2)) (b2:Binds K d2 ["self","bases","sign","pourings"] []) (m2:mg "Plan"=some (.ref C2)) (M2:Mk K C2 f2)
  (G3:FnOk P w K mg base CX0 1 f3 d3 ["numbers","names"] spTotalD) (b3:Binds K d3 ["numbers","names"] []) (m3:mg "total_of"=some (.ref f3)) (k3:PySem.W.keepIn K (.ref f3)=true):FnOk P w K mg base CX0 3 f fd ["room","items"] (spPlanF plShrink C2):=by
 refine F.ok scShrinking (fun vs H Q E h=>?_) (fun cdv A outer s H vs Q E hr h=>?_)
 ·obtain ⟨dI,its,room,e,_⟩:=h
  rw [e]
  rfl
 ·obtain ⟨dI,its,room,e,hI,hok,k⟩:=h
  subst e
  have hr1:=hr.mono (j:=1) (by decide)
  have hr2:=hr.mono (j:=2) (by decide)
  have hu:(A.deeper (PyProof.Rows.envOfC "plan_shrinking" (defScope sShrinking) s.heap.objs.size f cdv)).units + 1 < cLine:=by have:=hr.units; omega
  refine ⟨_,pss_cons (ps_set (i:=2) scShrinking.nd rfl (Or.inl rfl) (pe_call G1 hr1 (by rfl) m1 k1 b1 .nil pass0 (pa_cons (pv 1) (pa_cons (pe_glob (v:=.int 1) (by rfl) CC.WISH (CC.r 1)) pa_nil))))
   (pss_cons (ps_set (i:=3) scShrinking.nd rfl (Or.inl rfl) (pe_op op_sub (pe_sumV rfl (pv 2) (by rfl) (by rfl) (by rfl) N.sum PyProof.Rows.boot_sum) (pv 0)))
   (pss_cons (ps_set (i:=4) scShrinking.nd rfl (Or.inl rfl) (pe_callTy (call_dictPK rfl) (by rfl) N.dict PyProof.Rows.boot_dict (pa_cons (pe_compN (k:=2) (N':=["name","item","room","items","wishes","lack","caps","ready","pourings","others"]) (compScN_mk (fs:=defScope sShrinking) (N:=nShrinking) rfl rfl (by decide +kernel)) rfl (pi_items (pv 1)) (fun _ _ _ _ _=>pg_twoK (K:=K) rfl rfl scShrinkingN0 rfl rfl rfl rfl) (fun _ _ _ _ _=>pts_nil) (fun _ _ _ _ _=>(pe_tup (pa_cons (pv 0) (pa_cons (pe_op op_sub (pe_ix (r:=rIxT K) ix_tup (pv 1) (pe_glob (v:=.int 1) (by rfl) CC.WISH (CC.r 1)) (fun _ _=>rfl)) (pe_ix (r:=rIxT K) ix_tup (pv 1) (pe_glob (v:=.int 0) (by rfl) CC.LEAST (CC.r 0)) (fun _ _=>rfl))) pa_nil))))) pa_nil)))
   (pss_cons (ps_set (i:=5) scShrinking.nd rfl (Or.inr rfl) (pe_callTy (call_dictPK rfl) (by rfl) N.dict PyProof.Rows.boot_dict (pa_cons (pe_compN (k:=2) (N':=["name","item","room","items","wishes","lack","caps","ready","pourings","others"]) (compScN_mk (fs:=defScope sShrinking) (N:=nShrinking) rfl rfl (by decide +kernel)) rfl (pi_items (pv 1)) (fun _ _ _ _ _=>pg_twoK (K:=K) rfl rfl scShrinkingN0 rfl rfl rfl rfl) (fun _ _ _ _ _=>pts_one (pt_cmpR op_gt (pe_ix (r:=rIxT K) ix_tup (pv 1) (pe_glob (v:=.int 4) (by rfl) CC.SHRINK (CC.r 4)) (fun _ _=>rfl)) pe_int (nomark _))) (fun _ _ _ _ _=>(pe_tup (pa_cons (pv 0) (pa_cons (pe_ix (r:=rIxT K) ix_tup (pv 1) (pe_glob (v:=.int 4) (by rfl) CC.SHRINK (CC.r 4)) (fun _ _=>rfl)) pa_nil))))) pa_nil)))
   (pss_cons (ps_set (i:=6) scShrinking.nd rfl (Or.inl rfl) (pe_lst (pa_cons (pe_tup (pa_cons (pv 3) (pa_cons (pv 5) (pa_cons (pv 4) pa_nil)))) pa_nil)))
   (pss_cons (ps_set (i:=3) scShrinking.nd rfl (Or.inl rfl) (pe_op op_sub (pv 3) (pe_call G3 hr1 (by rfl) m3 k3 b3 .nil pass0 (pa_cons (pv 4) (pa_cons (pv 5) pa_nil)))))
   (pss_cons (ps_if (pt_cmpR op_gt (pv 3) pe_int (nomark _)) (pss_cons (ps_set (i:=7) scShrinking.nd rfl (Or.inl rfl) (pe_callTy (call_dictPK rfl) (by rfl) N.dict PyProof.Rows.boot_dict (pa_cons (pe_comp (compSc_mk (fs:=defScope sShrinking) (N:=nShrinking) rfl rfl (by decide +kernel)) rfl (pi_keys (pv 1)) (fun _ _ _ _ _=>pts_one (pt_cmp (pc_dnotin hu (pv 0) (pv 6)))) (fun _ _ _ _ _=>(pe_tup (pa_cons (pv 0) (pa_cons pe_int pa_nil))))) pa_nil)))
    (pss_one (ps_expr (pe_bm PySem.F.plainAttrs_list PySem.F.slot_list_append PySem.F.type_list_append mt_append (pv 6) (pa_cons (pe_tup (pa_cons (pv 3) (pa_cons (pv 7) (pa_cons (pv 4) pa_nil)))) pa_nil))))) pss_nil)
   (pss_one (ps_ret (pe_make M2 G2 hr2 (by rfl) m2 b2 .nil pass0 (pa_cons (pv 2) (pa_cons (pe_un un_neg pe_int) (pa_cons (pv 6) pa_nil)))))))))))),?_⟩
  try rw [show (cxOf CX0 P w K mg base nShrinking "plan_shrinking" (defScope sShrinking) f cdv A outer s H E).nox.K=K from rfl]
  refine seq_abs fun N1 hN=>?_
  refine ⟨_,rfl,dI,its,1,rfl,hI,hok,by decide,fun dB H1 hdB k1 h1=>?_⟩
  refine hN _ _ ?_
  clear hN N1
  have hI1:=k1.rd (fun z=>z) hI
  have hok1:=k1.its0 hok
  refine seq_abs fun N1 hN=>?_
  refine ⟨_,rfl,dB,_,_,rfl,.inl h1,vI_vals _ _,_,rfl,_,_,rfl,rfl,?_⟩
  refine hN _ _ ?_
  clear hN N1
  refine seq_abs fun N1 hN=>?_
  refine ⟨_,rfl,dI,_,rfl,hI1,dict_its (K:=K) (fun _=>true) wlC hI1 hok1 (fun x H' Q' _ _ _ hq=>hq _ (Same.refl _)) (fun x H' Q' _ hx k' hT hq=>⟨_,rfl,_,rfl,x.2.1,_,_,_,rfl,rfl,SqT.of hT,x.2.2.at (j:=1) (by decide),_,rfl,x.2.1,_,_,_,rfl,rfl,SqT.of hT,x.2.2.at (j:=0) (by decide),_,_,rfl,rfl,(by show 2 ≤ sizeLine; decide),fun t ht=>hq t ht⟩) fun D bs HD e=>⟨D,bs,_,rfl,e.l,e.p,e.s,fun dC hdC0=>?_⟩⟩
  rw [e.m,filter_T]
  have k2:=e.kr (o:=.dK (kvW (vI wlC its))) hdC0
  have hdC:=e.f dC hdC0
  generalize hG:upd HD dC _=H2
  have s2:Same HD H2:=by rw [← hG]; exact Same.put (Same.refl _) hdC0
  have h2:H2 dC=some (.dK (kvW (vI wlC its))):=by rw [← hG]; exact upd_same
  clear hG
  replace k2:=e.k.trans (.same s2)
  clear e hdC0 s2
  refine hN _ _ ?_
  clear hN N1
  have hI2:=k2.rd (fun z=>z) hI1
  have hok2:=k2.its0 hok1
  have h2B:=k2.rd (fun z=>z) (.inl h1)
  refine seq_abs fun N1 hN=>?_
  refine ⟨_,rfl,dI,_,rfl,hI2,dict_its (K:=K) rdyB (cl 4) hI2 hok2 (fun x H' Q' hx k' hT hq=>⟨_,rfl,x.2.1,_,_,_,rfl,rfl,SqT.of hT,x.2.2.at (j:=4) (by decide),_,_,rfl,rfl,_,rfl,hq _ (Same.refl _)⟩) (fun x H' Q' _ hx k' hT hq=>⟨_,rfl,_,rfl,x.2.1,_,_,_,rfl,rfl,SqT.of hT,x.2.2.at (j:=4) (by decide),(by show 2 ≤ sizeLine; decide),fun t ht=>hq t ht⟩) fun D bs HD e=>⟨D,bs,_,rfl,e.l,e.p,e.s,fun dR hdR0=>?_⟩⟩
  rw [e.m]
  have hdR:=e.f dR hdR0
  generalize hG:upd HD dR _=H3
  have s3:Same HD H3:=by rw [← hG]; exact Same.put (Same.refl _) hdR0
  have h3:H3 dR=some (.dK (kvW (vI (cl 4) (its.filter rdyB)))):=by rw [← hG]; exact upd_same
  clear hG
  have k3:=e.k.trans (.same s3)
  clear e hdR0 s3
  refine hN _ _ ?_
  clear hN N1
  have h3B:=k3.rd (fun z=>z) h2B
  have h3C:=k3.rd (fun z=>z) (.inl h2)
  have nRC:dR ≠ dC:=Ne.symm (ne_of_none h2 hdR)
  refine seq_abs fun N1 hN=>?_
  refine ⟨_,rfl,_,rfl,_,rfl,(by show 3 ≤ sizeLine; decide),fun t ht=>?_⟩
  generalize hG:upd H3 t _=H4
  have s4:Same H3 H4:=by rw [← hG]; exact Same.put (Same.refl _) ht
  have h4:H4 t=some (.tup [.int (sumI (cl 1) its - room),.ref dR,.ref dC]):=by rw [← hG]; exact upd_same
  clear hG
  refine ⟨(by show 1 ≤ sizeLine; decide),fun lp hlp=>?_⟩
  generalize hG:upd H4 lp _=H5
  have s5:Same H4 H5:=by rw [← hG]; exact Same.put (Same.refl _) hlp
  have h5:H5 lp=some (.lst [.ref t]):=by rw [← hG]; exact upd_same
  clear hG
  refine hN _ _ ?_
  clear hN N1
  have s35:=Same.trans s4 s5
  have kA:Kr M0 H H5:=(k1.trans (k2.trans k3)).trans (.same s35)
  have h5B:=h3B.keep fun o e=>s35 _ _ e
  have h5C:=h3C.keep fun o e=>s35 _ _ e
  have h5R:=s35 _ _ h3
  have h5t:=s5 _ _ h4
  have hlp0:H lp=none:=(k1.trans (k2.trans k3)).free (s4.free hlp)
  clear s35 s4 s5 h3 h4 h3B h3C k1 k2 k3 h1 h2 h2B hI1 hI2 hok1 hok2 ht hlp
  refine seq_abs fun N1 hN=>?_
  refine ⟨_,rfl,_,rfl,_,rfl,dC,dR,_,_,rfl,Ne.symm nRC,h5C,by rw [vI_keys]; exact hok.2.1,.inl h5R,(fun x hx=>by
   rw [vI_keys] at hx ⊢
   obtain ⟨y,hy,rfl⟩:=List.mem_map.mp hx
   exact List.mem_map_of_mem (memF6 hy)),(by rw [vI_len]; have:=List.length_filter_le rdyB its; have:=hok.2.2.1; omega),fun H6 k6 r6=>?_⟩
  rw [tot_vI hok.2.1 fun x hx=>memF6 hx]
  refine ⟨_,_,rfl,rfl,?_⟩
  refine hN _ _ ?_
  clear hN N1
  have k56:Kr M0 H5 H6:=.but (.inl h5R) (fun b u hb _ e=>k6 b u hb e) r6
  have k06:=kA.trans k56
  have h6B:=k56.rd (fun z=>z) h5B
  have h6C:=k56.rd (fun z=>z) h5C
  have h6l:=k56.lst (fun z=>z) h5
  have h6t:=k56.tup (fun z=>z) h5t
  clear k6 k56 kA h5B h5C h5 h5t h5R
  have hI6:=k06.rd (fun z=>z) hI
  have hok6:=k06.its0 hok
  have hq1:PoAt H6 ⟨t,dR,dC,⟨sumI (cl 1) its - room,toIt (cl 4) wlC (its.filter rdyB)⟩⟩:=⟨h6t,nRC,by rw [toIt_ws]; exact r6,vI wlC its,h6C,toIt_caps hok.2.1 _⟩
  refine seq_abs fun N1 hN=>?_
  have fin:∀ (o7:Option V) (G:Hp) (qs:List PoA),Kr M0 H G→Rd G dB (.dK (kvW (vI (cl 1) its)))→G lp=some (.lst (qs.map fun q=>V.ref q.t))→qs.map (·.po)=(plShrink room its).ps→(∀ q ∈ qs,PoAt G q) →
    N1 [some (.int room),some (.ref dI),some (.ref dB),some (.int (sumI (cl 1) its - room - sumI wlC (its.filter rdyB))),some (.ref dC),some (.ref dR),some (.ref lp),o7] G:=fun o7 G qs kG hB hl hp hq=>by
   refine hN _ _ ?_
   clear hN N1
   refine ⟨_,rfl,_,rfl,_,rfl,?_⟩
   exact make_plan (pl:=plShrink room its) (qs:=qs) hB hl hp hq fun x H' hx s hp'=>k x H' (kG.free hx) (kG.trans (.same s)) hp'
  refine ⟨_,rfl,_,_,rfl,rfl,_,rfl,ite2 (fun hc=>?_) (fun hc=>?_)⟩
  ·have hc':0 < sumI (cl 1) its - room - sumI wlC (its.filter rdyB):=of_decide_eq_true hc
   refine ⟨_,rfl,dI,_,rfl,hI6,dict_keys (fun x=>!rdyB x) (fun _=>1) hI6 hok6 (fun x H' Q' hx k' hq=>⟨_,rfl,_,rfl,dR,_,rfl,.inl ⟨_,_,k'.rd (fun z=>z) r6,rfl,rfl⟩,_,rfl,(by rw [some_vI hok.2.1 _ hx]; exact hq _ (Same.refl _))⟩) (fun x H' Q' _ hx k' hq=>⟨_,rfl,(by show 2 ≤ sizeLine; decide),fun t ht=>hq t ht⟩) fun D bs HD e=>⟨D,bs,_,rfl,e.l,e.p,e.s,fun dO hdO0=>?_⟩⟩
   rw [e.m]
   have hdO:=e.f dO hdO0
   generalize hG:upd HD dO _=H7
   have s7:Same HD H7:=by rw [← hG]; exact Same.put (Same.refl _) hdO0
   have h7:H7 dO=some (.dK (kvW (vI (fun _=>1) (its.filter fun x=>!rdyB x)))):=by rw [← hG]; exact upd_same
   clear hG
   have k7:=e.k.trans (.same s7)
   clear e hdO0 s7
   have h7l:=k7.lst (fun z=>z) h6l
   have h7C:=k7.rd (fun z=>z) h6C
   have nOC:dO ≠ dC:=fun z=>by
    rw [z] at hdO
    rcases h6C with y | ⟨_,y⟩ <;> (rw [hdO] at y; cases y)
   refine ⟨_,rfl,.inl ⟨rfl,_,SqL.of h7l⟩,_,rfl,_,rfl,_,rfl,(by show 3 ≤ sizeLine; decide),fun t2 ht2=>?_⟩
   generalize hG:upd H7 t2 _=H8
   have s8:Same H7 H8:=by rw [← hG]; exact Same.put (Same.refl _) ht2
   have h8:H8 t2=some (.tup [.int (sumI (cl 1) its - room - sumI wlC (its.filter rdyB)),.ref dO,.ref dC]):=by rw [← hG]; exact upd_same
   clear hG
   have k8:=k7.trans (.same s8)
   have h8l:=s8 _ _ h7l
   refine ⟨lp,_,_,rfl,rfl,h8l,small (by show 1 ≤ 100000; omega),?_⟩
   have kp:Kr (fun b=>b=lp) H8 (upd H8 lp (.lst ([.ref t] ++ [.ref t2]))):=Kr.at
   refine fin _ _ [⟨t,dR,dC,⟨sumI (cl 1) its - room,toIt (cl 4) wlC (its.filter rdyB)⟩⟩,⟨t2,dO,dC,⟨sumI (cl 1) its - room - sumI wlC (its.filter rdyB),toIt (fun _=>1) wlC (its.filter fun x=>!rdyB x)⟩⟩] ((k06.trans k8).put hlp0) (kp.rd ((NoM.lst h8l).rdn (k8.rd (fun z=>z) h6B)) (k8.rd (fun z=>z) h6B)) upd_same ?_ fun q hq=>?_
   ·show _=_ :: (if _ then _ else _)
    rw [if_pos hc']
    rfl
   ·rcases List.mem_cons.mp hq with e | e
    ·rw [e]
     exact (hq1.kr k8 .zero).kr kp (.lst h8l)
    ·rw [List.mem_singleton.mp e]
     refine PoAt.kr (q:=⟨t2,dO,dC,⟨sumI (cl 1) its - room - sumI wlC (its.filter rdyB),toIt (fun _=>1) wlC (its.filter fun x=>!rdyB x)⟩⟩) ⟨h8,nOC,?_,vI wlC its,h7C.keep fun o e=>s8 _ _ e,toIt_caps hok.2.1 _⟩ kp (.lst h8l)
     rw [toIt_ws]
     exact .inl (s8 _ _ h7)
  ·have hc':¬ 0 < sumI (cl 1) its - room - sumI wlC (its.filter rdyB):=fun z=>hc (decide_eq_true z)
   refine fin _ _ [⟨t,dR,dC,⟨sumI (cl 1) its - room,toIt (cl 4) wlC (its.filter rdyB)⟩⟩] k06 h6B h6l ?_ fun q hq=>?_
   ·show _=_ :: (if _ then _ else _)
    rw [if_neg hc']
    rfl
   ·rw [List.mem_singleton.mp hq]
    exact hq1
abbrev nYielding:List Str:=["room","items","leasts","lack","pourings","rank","weights","given"]
theorem scYielding:FnScope nYielding ["room","items"] (defScope sYielding):=⟨rfl,rfl,rfl,by decide +kernel,rfl,by decide +kernel,by decide +kernel⟩
theorem scYieldingN0:(["name","item","room","items","leasts","lack","pourings","rank","weights","given"]:List Str).Nodup:=by decide +kernel
set_option maxHeartbeats 16000000 in
theorem ok_yielding {f f1 f2 f3:Addr} {fd d1 d2 d3:FuncData} {C2:Addr} {uu:Nat→Value} (CC:Cst mg uu) (F:Fun K "plan_yielding" "plan_yielding" sYielding f fd) (N:Names mg)
  (G1:FnOk P w K mg base CX0 1 f1 d1 ["items","place"] spColumn) (b1:Binds K d1 ["items","place"] []) (m1:mg "column_of"=some (.ref f1)) (k1:PySem.W.keepIn K (.ref f1)=true)
  (G2:FnOk P w K mg base CX0 1 f2 d2 ["self","bases","sign","pourings"] (spPlanInit K C2)) (b2:Binds K d2 ["self","bases","sign","pourings"] []) (m2:mg "Plan"=some (.ref C2)) (M2:Mk K C2 f2)
  (G3:FnOk P w K mg base CX0 1 f3 d3 ["numbers","names"] spTotalD) (b3:Binds K d3 ["numbers","names"] []) (m3:mg "total_of"=some (.ref f3)) (k3:PySem.W.keepIn K (.ref f3)=true):FnOk P w K mg base CX0 3 f fd ["room","items"] (spPlanF plYield C2):=by
 refine F.ok scYielding (fun vs H Q E h=>?_) (fun cdv A outer s H vs Q E hr h=>?_)
 ·obtain ⟨dI,its,room,e,_⟩:=h
  rw [e]
  rfl
 ·obtain ⟨dI,its,room,e,hI,hok,k⟩:=h
  subst e
  have hr1:=hr.mono (j:=1) (by decide)
  have hr2:=hr.mono (j:=2) (by decide)
  refine ⟨_,pss_cons (ps_set (i:=2) scYielding.nd rfl (Or.inl rfl) (pe_call G1 hr1 (by rfl) m1 k1 b1 .nil pass0 (pa_cons (pv 1) (pa_cons (pe_glob (v:=.int 0) (by rfl) CC.LEAST (CC.r 0)) pa_nil))))
   (pss_cons (ps_set (i:=3) scYielding.nd rfl (Or.inl rfl) (pe_op op_sub (pe_sumV rfl (pv 2) (by rfl) (by rfl) (by rfl) N.sum PyProof.Rows.boot_sum) (pv 0)))
   (pss_cons (ps_set (i:=4) scYielding.nd rfl (Or.inl rfl) (pe_lst pa_nil))
   (pss_cons (ps_for PassesOwn.never rfl (pi_list (pe_callB (call_sortSet rfl) (by rfl) N.sorted PyProof.Rows.boot_sorted (pa_cons (pe_callTy (call_setOf rfl) (by rfl) N.set PyProof.Rows.boot_set (pa_cons (pe_comp (compSc_mk (fs:=defScope sYielding) (N:=nYielding) rfl rfl (by decide +kernel)) rfl (pi_values (pv 1)) (fun _ _ _ _ _=>pts_nil) (fun _ _ _ _ _=>(pe_ix (r:=rIxT K) ix_tup (pv 0) (pe_glob (v:=.int 5) (by rfl) CC.RANK (CC.r 5)) (fun _ _=>rfl)))) pa_nil)) pa_nil))) (pg_name (i:=5) scYielding.nd rfl (Or.inr rfl))
    (pss_one (ps_if (pt_cmpR op_gt (pv 3) pe_int (nomark _)) (pss_cons (ps_set (i:=6) scYielding.nd rfl (Or.inl rfl) (pe_callTy (call_dictPK rfl) (by rfl) N.dict PyProof.Rows.boot_dict (pa_cons (pe_compN (k:=2) (N':=["name","item","room","items","leasts","lack","pourings","rank","weights","given"]) (compScN_mk (fs:=defScope sYielding) (N:=nYielding) rfl rfl (by decide +kernel)) rfl (pi_items (pv 1)) (fun _ _ _ _ _=>pg_twoK (K:=K) rfl rfl scYieldingN0 rfl rfl rfl rfl) (fun _ _ _ _ _=>pts_one (pt_cmpR op_eq (pe_ix (r:=rIxT K) ix_tup (pv 1) (pe_glob (v:=.int 5) (by rfl) CC.RANK (CC.r 5)) (fun _ _=>rfl)) (pv 7) (nomark _))) (fun _ _ _ _ _=>(pe_tup (pa_cons (pv 0) (pa_cons pe_int pa_nil))))) pa_nil)))
     (pss_cons (ps_set (i:=7) scYielding.nd rfl (Or.inl rfl) (pe_callB (call_min2 rfl) (by rfl) N.min PyProof.Rows.boot_min (pa_cons (pv 3) (pa_cons (pe_call G3 hr1 (by rfl) m3 k3 b3 .nil pass0 (pa_cons (pv 2) (pa_cons (pv 6) pa_nil))) pa_nil))))
     (pss_cons (ps_expr (pe_bm PySem.F.plainAttrs_list PySem.F.slot_list_append PySem.F.type_list_append mt_append (pv 4) (pa_cons (pe_tup (pa_cons (pv 7) (pa_cons (pv 6) (pa_cons (pv 2) pa_nil)))) pa_nil)))
     (pss_one (ps_set (i:=3) scYielding.nd rfl (Or.inl rfl) (pe_op op_sub (pv 3) (pv 7))))))) pss_nil)))
   (pss_one (ps_ret (pe_make M2 G2 hr2 (by rfl) m2 b2 .nil pass0 (pa_cons (pv 2) (pa_cons (pe_un un_neg pe_int) (pa_cons (pv 4) pa_nil))))))))),?_⟩
  try rw [show (cxOf CX0 P w K mg base nYielding "plan_yielding" (defScope sYielding) f cdv A outer s H E).nox.K=K from rfl]
  refine seq_abs fun N1 hN=>?_
  refine ⟨_,rfl,dI,its,0,rfl,hI,hok,by decide,fun dL H1 hdL k1 h1=>?_⟩
  refine hN _ _ ?_
  clear hN N1
  refine seq_abs fun N1 hN=>?_
  refine ⟨_,rfl,dL,_,_,rfl,.inl h1,vI_vals _ _,_,rfl,_,_,rfl,rfl,?_⟩
  refine hN _ _ ?_
  clear hN N1
  refine seq_abs fun N1 hN=>?_
  refine ⟨smallE (by simp),fun lp hlp=>?_⟩
  generalize hG:upd H1 lp _=H2
  have s2:Same H1 H2:=by rw [← hG]; exact Same.put (Same.refl _) hlp
  have h2:H2 lp=some (.lst []):=by rw [← hG]; exact upd_same
  clear hG
  refine hN _ _ ?_
  clear hN N1
  have k2:=k1.trans (.same s2)
  have hlp0:=k1.free hlp
  have h2L:Rd H2 dL (.dK (kvW (vI (cl 0) its))):=.inl (s2 _ _ h1)
  have hI2:=k2.rd (fun z=>z) hI
  have hok2:=k2.its0 hok
  clear s2 k1 h1 hlp
  refine seq_abs fun N1 hN=>?_
  refine ⟨_,rfl,dI,_,rfl,hI2,list_vals (cl 5) hI2 hok2 (fun x H' Q' hx hT hq=>⟨_,rfl,x.2.1,_,_,_,rfl,rfl,SqT.of hT,x.2.2.at (j:=5) (by decide),hq⟩) fun D H3 hD k3 h3=>?_⟩
  have hl12:its.length ≤ 20:=hok.2.2.1
  have hdl:=DS.dedup_len (its.map (cl 5))
  rw [List.length_map] at hdl
  refine ⟨D,its.map (cl 5),rfl,SqL.of h3,(by rw [List.length_map]; exact Nat.lt_of_lt_of_le (show its.length + 1 < 1000 by omega) (by decide)),fun p hp=>?_⟩
  generalize hG:upd H3 p _=H4
  have s4:Same H3 H4:=by rw [← hG]; exact Same.put (Same.refl _) hp
  have h4:H4 p=some (SetO P w p (DS.dedup (its.map (cl 5)))):=by rw [← hG]; exact upd_same
  clear hG
  refine ⟨p,_,rfl,h4,by omega,fun D2 out hD2 hperm hsort=>?_⟩
  obtain rfl:=ranks_eq hperm hsort
  generalize hG:upd H4 D2 _=H5
  have s5:Same H4 H5:=by rw [← hG]; exact Same.put (Same.refl _) hD2
  have h5:H5 D2=some (.lst ((ranks its).map V.int)):=by rw [← hG]; exact upd_same
  clear hG
  have k35:Kr M0 H2 H5:=k3.trans (.same (Same.trans s4 s5))
  have k5:=k2.trans k35
  have h5l:=k35.lst (fun z=>z) h2
  have h5L:=k35.rd (fun z=>z) h2L
  clear k35 s4 s5 h4 h3 k3 hD hp hD2 hperm hsort h2 h2L k2 hI2 hok2
  have hrl:=ranks_len hl12
  refine ⟨D2,rfl,⟨_,SqL.of h5⟩,for_list (K:=K) (a:=D2) (xs:=(ranks its).map V.int) (fun i σ G=>∃ (v5 v6 v7:Option V) (qs:List PoA),σ=[some (.int room),some (.ref dI),some (.ref dL),some (.int (((ranks its).take i).foldl (yStep its) ([],sumI (cl 0) its - room)).2),some (.ref lp),v5,v6,v7]∧Kr M0 H G ∧
    Rd G dL (.dK (kvW (vI (cl 0) its)))∧G lp=some (.lst (qs.map fun q=>V.ref q.t))∧G D2=some (.lst ((ranks its).map V.int))∧qs.map (·.po)=(((ranks its).take i).foldl (yStep its) ([],sumI (cl 0) its - room)).1∧∀ q ∈ qs,PoAt G q)
   ⟨none,none,none,[],rfl,k5,h5L,h5l,h5,rfl,fun q hq=>nomatch hq⟩ (fun i σ G _ ⟨_,_,_,_,_,_,_,_,z,_⟩=>SqL.of z) ?_ ?_⟩
  ·rintro i y σ G hy ⟨v5,v6,v7,qs,rfl,kG,hL,hl,hD2,hp,hq⟩
   obtain ⟨r,rfl,er⟩:=int_at hy
   have hi:i < (ranks its).length:=get_lt er
   have estep:((ranks its).take (i + 1)).foldl (yStep its) ([],sumI (cl 0) its - room)=yStep its (((ranks its).take i).foldl (yStep its) ([],sumI (cl 0) its - room)) r:=by
    rw [List.take_succ,er,List.foldl_append]
    rfl
   have hqsl:qs.length ≤ 20:=by
    have z:=yLen its ((ranks its).take i) ([],sumI (cl 0) its - room)
    rw [← hp,List.length_map,List.length_take] at z
    have:([]:List Po).length=0:=rfl
    simp only at z
    omega
   rw [estep]
   generalize ((ranks its).take i).foldl (yStep its) ([],sumI (cl 0) its - room)=st at *
   obtain ⟨ps,lk⟩:=st
   simp only at hp
   clear estep hy
   have hI6:=kG.rd (fun z=>z) hI
   have hok6:=kG.its0 hok
   refine ⟨_,rfl,_,_,rfl,rfl,_,rfl,ite2 (fun hc=>?_) (fun hc=>?_)⟩
   ·have hc':0 < lk:=of_decide_eq_true hc
    have ey:yStep its (ps,lk) r=(ps ++ [⟨givR its lk r,toIt (fun _=>1) (cl 0) (its.filter (ofR r))⟩],lk - givR its lk r):=if_pos hc'
    rw [ey]
    clear ey
    refine ⟨_,rfl,dI,_,rfl,hI6,dict_its (K:=K) (ofR r) (fun _=>1) hI6 hok6 (fun x H' Q' hx k' hT hq=>⟨_,rfl,x.2.1,_,_,_,rfl,rfl,SqT.of hT,x.2.2.at (j:=5) (by decide),_,rfl,rfl,_,rfl,(by rw [show decide (V.int (x.2.2.col 5)=V.int r)=ofR r x from by unfold ofR; rw [decide_eq_decide]; exact ⟨fun z=>V.int.inj z,fun z=>congrArg V.int z⟩]; exact hq _ (Same.refl _))⟩) (fun x H' Q' _ hx k' hT hq=>⟨_,rfl,(by show 2 ≤ sizeLine; decide),fun t ht=>hq t ht⟩) fun D bs HD e=>⟨D,bs,_,rfl,e.l,e.p,e.s,fun dW hdW0=>?_⟩⟩
    rw [e.m]
    have hdW:=e.f dW hdW0
    generalize hG:upd HD dW _=H7
    have s7:Same HD H7:=by rw [← hG]; exact Same.put (Same.refl _) hdW0
    have h7:H7 dW=some (.dK (kvW (vI (fun _=>1) (its.filter (ofR r))))):=by rw [← hG]; exact upd_same
    clear hG
    have k7:=e.k.trans (.same s7)
    clear e hdW0 s7
    have h7l:=k7.lst (fun z=>z) hl
    have h7D:=k7.lst (fun z=>z) hD2
    have h7L:=k7.rd (fun z=>z) hL
    have nWL:dW ≠ dL:=fun z=>by
     rw [z] at hdW
     rcases hL with y | ⟨_,y⟩ <;> (rw [hdW] at y; cases y)
    refine ⟨_,rfl,_,rfl,_,rfl,dL,dW,_,_,rfl,Ne.symm nWL,h7L,by rw [vI_keys]; exact hok.2.1,.inl h7,(fun x hx=>by
     rw [vI_keys] at hx ⊢
     obtain ⟨y,hy,rfl⟩:=List.mem_map.mp hx
     exact List.mem_map_of_mem (memF6 hy)),(by rw [vI_len]; have:=List.length_filter_le (ofR r) its; omega),fun H8 k8 r8=>?_⟩
    rw [tot_vI hok.2.1 fun x hx=>memF6 hx]
    refine ⟨_,_,rfl,?_⟩
    have k78:Kr M0 H7 H8:=.but (.inl h7) (fun b u hb _ e=>k8 b u hb e) r8
    have k68:=k7.trans k78
    have h8l:=k78.lst (fun z=>z) h7l
    have h8D:=k78.lst (fun z=>z) h7D
    have h8L:=k78.rd (fun z=>z) h7L
    refine ⟨_,rfl,.inl ⟨rfl,_,SqL.of h8l⟩,_,rfl,_,rfl,_,rfl,(by show 3 ≤ sizeLine; decide),fun t2 ht2=>?_⟩
    generalize hG:upd H8 t2 _=H9
    have s9:Same H8 H9:=by rw [← hG]; exact Same.put (Same.refl _) ht2
    have h9:H9 t2=some (.tup [.int (givR its lk r),.ref dW,.ref dL]):=by rw [← hG]; exact upd_same
    clear hG
    have h9l:=s9 _ _ h8l
    have h9L:=h8L.keep fun o e=>s9 _ _ e
    have k69:=k68.trans (.same s9)
    refine ⟨lp,_,_,rfl,rfl,h9l,small (by rw [List.length_map]; omega),?_⟩
    refine ⟨_,rfl,_,rfl,_,_,rfl,rfl,?_⟩
    have kp:Kr (fun b=>b=lp) H9 (upd H9 lp (.lst ((qs.map fun q=>V.ref q.t) ++ [.ref t2]))):=Kr.at
    have n9:=NoM.lst h9l
    refine (show ∃ v5 v6 v7 qs,_ from ⟨_,_,_,qs ++ [⟨t2,dW,dL,⟨givR its lk r,toIt (fun _=>1) (cl 0) (its.filter (ofR r))⟩⟩],rfl,(kG.trans k69).put hlp0,kp.rd (n9.rdn h9L) h9L,?_,?_,?_,fun q hq'=>?_⟩)
    ·rw [upd_same,List.map_append]
     rfl
    ·have e1:=s9 _ _ h8D
     have ne:D2 ≠ lp:=fun z=>by
      rw [z] at h5
      rw [h5l] at h5
      have z2:([]:List V)=(ranks its).map V.int:=by injection h5 with h5; injection h5
      have z3:=congrArg List.length z2
      rw [List.length_map] at z3
      simp at z3
      omega
     rw [upd_ne ne]
     exact e1
    ·rw [List.map_append,hp]
     rfl
    ·rcases List.mem_append.mp hq' with e | e
     ·exact ((hq q e).kr k69 .zero).kr kp n9
     ·rw [List.mem_singleton.mp e]
      refine PoAt.kr (q:=⟨t2,dW,dL,⟨givR its lk r,toIt (fun _=>1) (cl 0) (its.filter (ofR r))⟩⟩) ⟨h9,nWL,?_,vI (cl 0) its,h9L,toIt_caps hok.2.1 _⟩ kp n9
      rw [toIt_ws]
      exact r8.keep fun o e=>s9 _ _ e
   ·have ey:yStep its (ps,lk) r=(ps,lk):=if_neg fun z=>hc (decide_eq_true z)
    rw [ey]
    exact ⟨_,_,_,qs,rfl,kG,hL,hl,hD2,hp,hq⟩
  ·rintro σ G ⟨v5,v6,v7,qs,rfl,kG,hL,hl,hD2,hp,hq⟩
   rw [List.length_map,List.take_length] at hp
   refine hN _ _ ?_
   clear hN N1
   refine ⟨_,rfl,_,rfl,_,rfl,?_⟩
   exact make_plan (pl:=plYield room its) (qs:=qs) hL hl hp hq fun x H' hx s hp'=>k x H' (kG.free hx) (kG.trans (.same s)) hp'
abbrev nPlanOf:List Str:=["room","items"]
theorem scPlanOf:FnScope nPlanOf ["room","items"] (defScope sPlanOf):=⟨rfl,rfl,rfl,by decide +kernel,rfl,by decide +kernel,by decide +kernel⟩
set_option maxHeartbeats 16000000 in
theorem ok_planOf {f f1 f2 f3:Addr} {fd d1 d2 d3:FuncData} {C:Addr} {uu:Nat→Value} (CC:Cst mg uu) (F:Fun K "plan_of" "plan_of" sPlanOf f fd) (N:Names mg)
  (G1:FnOk P w K mg base CX0 3 f1 d1 ["room","items"] (spPlanF plGrow C)) (b1:Binds K d1 ["room","items"] []) (m1:mg "plan_growing"=some (.ref f1)) (k1:PySem.W.keepIn K (.ref f1)=true)
  (G2:FnOk P w K mg base CX0 3 f2 d2 ["room","items"] (spPlanF plShrink C)) (b2:Binds K d2 ["room","items"] []) (m2:mg "plan_shrinking"=some (.ref f2)) (k2:PySem.W.keepIn K (.ref f2)=true)
  (G3:FnOk P w K mg base CX0 3 f3 d3 ["room","items"] (spPlanF plYield C)) (b3:Binds K d3 ["room","items"] []) (m3:mg "plan_yielding"=some (.ref f3)) (k3:PySem.W.keepIn K (.ref f3)=true):FnOk P w K mg base CX0 4 f fd ["room","items"] (spPlanF planOf C):=by
 refine F.ok scPlanOf (fun vs H Q E h=>?_) (fun cdv A outer s H vs Q E hr h=>?_)
 ·obtain ⟨dI,its,room,e,_⟩:=h
  rw [e]
  rfl
 ·obtain ⟨dI,its,room,e,hI,hok,k⟩:=h
  subst e
  have hr3:=hr.mono (j:=3) (by decide)
  refine ⟨_,pss_cons (ps_if (pt_cmpR op_ge (pv 0) (pe_callB (call_sumL rfl) (by rfl) N.sum PyProof.Rows.boot_sum (pa_cons (pe_comp (compSc_mk (fs:=defScope sPlanOf) (N:=nPlanOf) rfl rfl (by decide +kernel)) rfl (pi_values (pv 1)) (fun _ _ _ _ _=>pts_nil) (fun _ _ _ _ _=>(pe_ix (r:=rIxT K) ix_tup (pv 0) (pe_glob (v:=.int 1) (by rfl) CC.WISH (CC.r 1)) (fun _ _=>rfl)))) pa_nil)) (nomark _)) (pss_one (ps_ret (pe_call G1 hr3 (by rfl) m1 k1 b1 .nil pass0 (pa_cons (pv 0) (pa_cons (pv 1) pa_nil))))) pss_nil)
   (pss_cons (ps_if (pt_cmpR op_ge (pv 0) (pe_callB (call_sumL rfl) (by rfl) N.sum PyProof.Rows.boot_sum (pa_cons (pe_comp (compSc_mk (fs:=defScope sPlanOf) (N:=nPlanOf) rfl rfl (by decide +kernel)) rfl (pi_values (pv 1)) (fun _ _ _ _ _=>pts_nil) (fun _ _ _ _ _=>(pe_ix (r:=rIxT K) ix_tup (pv 0) (pe_glob (v:=.int 0) (by rfl) CC.LEAST (CC.r 0)) (fun _ _=>rfl)))) pa_nil)) (nomark _)) (pss_one (ps_ret (pe_call G2 hr3 (by rfl) m2 k2 b2 .nil pass0 (pa_cons (pv 0) (pa_cons (pv 1) pa_nil))))) pss_nil)
   (pss_one (ps_ret (pe_call G3 hr3 (by rfl) m3 k3 b3 .nil pass0 (pa_cons (pv 0) (pa_cons (pv 1) pa_nil)))))),?_⟩
  try rw [show (cxOf CX0 P w K mg base nPlanOf "plan_of" (defScope sPlanOf) f cdv A outer s H E).nox.K=K from rfl]
  refine ⟨_,rfl,_,rfl,dI,_,rfl,hI,list_vals (cl 1) hI hok (fun x H' Q' hx hT hq=>⟨_,rfl,x.2.1,_,_,_,rfl,rfl,SqT.of hT,x.2.2.at (j:=1) (by decide),hq⟩) fun D H1 hD k1 h1=>?_⟩
  refine ⟨D,_,rfl,SqL.of h1,_,_,rfl,rfl,_,rfl,ite2 (fun hc=>?_) (fun hc=>?_)⟩
  ·have hc':sumI (cl 1) its ≤ room:=of_decide_eq_true hc
   refine ⟨_,rfl,_,rfl,dI,its,room,rfl,k1.rd (fun z=>z) hI,k1.its0 hok,fun x H' hx k' hp=>k x H' (k1.free hx) (k1.trans k') ?_⟩
   unfold planOf
   rw [if_pos hc']
   exact hp
  have hc':¬ sumI (cl 1) its ≤ room:=fun z=>hc (decide_eq_true z)
  have hI1:=k1.rd (fun z=>z) hI
  have hok1:=k1.its0 hok
  refine ⟨_,rfl,_,rfl,dI,_,rfl,hI1,list_vals (cl 0) hI1 hok1 (fun x H' Q' hx hT hq=>⟨_,rfl,x.2.1,_,_,_,rfl,rfl,SqT.of hT,x.2.2.at (j:=0) (by decide),hq⟩) fun D2 H2 hD2 k2 h2=>?_⟩
  have k02:=k1.trans k2
  refine ⟨D2,_,rfl,SqL.of h2,_,_,rfl,rfl,_,rfl,ite2 (fun hd=>?_) (fun hd=>?_)⟩
  ·have hd':sumI (cl 0) its ≤ room:=of_decide_eq_true hd
   refine ⟨_,rfl,_,rfl,dI,its,room,rfl,k02.rd (fun z=>z) hI,k02.its0 hok,fun x H' hx k' hp=>k x H' (k02.free hx) (k02.trans k') ?_⟩
   unfold planOf
   rw [if_neg hc',if_pos hd']
   exact hp
  ·have hd':¬ sumI (cl 0) its ≤ room:=fun z=>hd (decide_eq_true z)
   refine ⟨_,rfl,_,rfl,dI,its,room,rfl,k02.rd (fun z=>z) hI,k02.its0 hok,fun x H' hx k' hp=>k x H' (k02.free hx) (k02.trans k') ?_⟩
   unfold planOf
   rw [if_neg hc',if_neg hd']
   exact hp
end
end B04
namespace B04
open PySem L2 S2
structure PlOk (its:List It6) (pl:Pl):Prop where
 sg:pl.sg=1 ∨ pl.sg=-1
 po:∀ p ∈ pl.ps,InB p.it∧0 ≤ p.R∧p.R < 2 ^ 32
 sub:∀ p ∈ pl.ps,∀ y ∈ p.it,∃ x ∈ its,x.1=y.1
 dis:pl.ps.Pairwise fun p q=>∀ y ∈ p.it,∀ z ∈ q.it,y.1 ≠ z.1
 len:pl.ps.length ≤ 20
theorem sumI_le {v:It6→Int} {B:Int}:∀ {l:List It6},(∀ x ∈ l,0 ≤ v x∧v x ≤ B)→0 ≤ sumI v l∧sumI v l ≤ B * l.length
 | [],_=>by unfold sumI; simp
 | x :: l,h=>by
  have h1:=sumI_le (l:=l) fun y hy=>h y (List.mem_cons_of_mem _ hy)
  have h2:=h x List.mem_cons_self
  have e:sumI v (x :: l)=v x + sumI v l:=by unfold sumI; rw [List.map_cons,List.sum_cons]
  rw [e,List.length_cons]
  have e2:B * ((l.length + 1:Nat):Int)=B * (l.length:Int) + B:=by rw [Int.natCast_add,Int.mul_add]; simp
  omega
theorem toIt_in {w c:It6→Int} {its:List It6} (nd:(its.map (·.1)).Nodup) (hl:its.length ≤ 20) (f:It6→Bool) (h:∀ x ∈ its,0 ≤ w x∧w x ≤ 1000∧0 ≤ c x∧c x ≤ 1000000):InB (toIt w c (its.filter f)):=by
 refine ⟨by rw [toIt_keys]; exact nd_filter6 nd f,?_,fun y hy=>?_⟩
 ·have:=List.length_filter_le f its
  unfold toIt
  rw [List.length_map]
  omega
 ·obtain ⟨x,hx,rfl⟩:=List.mem_map.mp hy
  exact h x (memF6 hx)
theorem toIt_sub {w c:It6→Int} {its:List It6} {f:It6→Bool}:∀ y ∈ toIt w c (its.filter f),∃ x ∈ its,f x=true∧x.1=y.1:=fun y hy=>by
 obtain ⟨x,hx,rfl⟩:=List.mem_map.mp hy
 exact ⟨x,memF6 hx,(List.mem_filter.mp hx).2,rfl⟩
theorem toIt_dis {w c w' c':It6→Int} {its:List It6} (nd:(its.map (·.1)).Nodup) {f g:It6→Bool} (h:∀ x ∈ its,f x=true→g x=true→False):∀ y ∈ toIt w c (its.filter f),∀ z ∈ toIt w' c' (its.filter g),y.1 ≠ z.1:=fun y hy z hz e=>by
 obtain ⟨x,hx,fx,ex⟩:=toIt_sub y hy
 obtain ⟨x',hx',gx,ex'⟩:=toIt_sub z hz
 have:=key_inj nd hx hx' (by rw [ex,e,ex'])
 subst this
 exact h x hx fx gx
theorem yieldOk {its:List It6} (nd:(its.map (·.1)).Nodup) (hl:its.length ≤ 20) (hk:∀ x ∈ its,x.2.2.Ok):∀ (rs dn:List Int) (s:List Po × Int),(dn ++ rs).Nodup→s.2 ≤ 1000000 →
  (∀ p ∈ s.1,∃ r ∈ dn,p.it=toIt (fun _=>1) (cl 0) (its.filter (ofR r))∧0 ≤ p.R∧p.R ≤ 1000000)→s.1.Pairwise (fun p q=>∀ y ∈ p.it,∀ z ∈ q.it,y.1 ≠ z.1) →
  (∀ p ∈ (rs.foldl (yStep its) s).1,∃ r,p.it=toIt (fun _=>1) (cl 0) (its.filter (ofR r))∧0 ≤ p.R∧p.R ≤ 1000000)∧(rs.foldl (yStep its) s).1.Pairwise (fun p q=>∀ y ∈ p.it,∀ z ∈ q.it,y.1 ≠ z.1)
 | [],dn,s,_,_,h,d=>⟨fun p hp=>let ⟨r,_,e⟩:=h p hp; ⟨r,e⟩,d⟩
 | r :: rs,dn,s,hn,hB,h,d=>by
  rw [List.foldl_cons]
  have e:dn ++ r :: rs=(dn ++ [r]) ++ rs:=by rw [List.append_assoc]; rfl
  have hr:r ∉ dn:=fun z=>(List.nodup_append.mp hn).2.2 r z r List.mem_cons_self rfl
  obtain ⟨t0,t1⟩:=sumI_le (v:=cl 0) (B:=30000) (l:=its.filter (ofR r)) fun x hx=>by
   obtain ⟨a,b,c,d,_⟩:=hk x (memF6 hx)
   have:cl 0 x=x.2.2.le:=rfl
   omega
  refine yieldOk nd hl hk rs (dn ++ [r]) _ (by rw [← e]; exact hn) ?_ ?_ ?_ <;> unfold yStep <;> by_cases q:0 < s.2
  ·rw [if_pos q]
   show s.2 - givR its s.2 r ≤ 1000000
   unfold givR
   split <;> omega
  ·rw [if_neg q]
   exact hB
  ·rw [if_pos q]
   intro p hp
   rcases List.mem_append.mp hp with z | z
   ·obtain ⟨r',h1,h2⟩:=h p z
    exact ⟨r',List.mem_append_left _ h1,h2⟩
   ·rw [List.mem_singleton.mp z]
    refine ⟨r,List.mem_append_right _ List.mem_cons_self,rfl,?_⟩
    show 0 ≤ givR its s.2 r∧givR its s.2 r ≤ 1000000
    unfold givR
    split <;> omega
  ·rw [if_neg q]
   intro p hp
   obtain ⟨r',h1,h2⟩:=h p hp
   exact ⟨r',List.mem_append_left _ h1,h2⟩
  ·rw [if_pos q]
   refine List.pairwise_append.mpr ⟨d,List.pairwise_singleton _ _,fun p hp p2 hp2=>?_⟩
   rw [List.mem_singleton.mp hp2]
   obtain ⟨r',h1,h2,_⟩:=h p hp
   rw [h2]
   refine toIt_dis nd fun x _ a b=>?_
   have a':cl 5 x=r':=of_decide_eq_true a
   have b':cl 5 x=r:=of_decide_eq_true b
   exact hr (by rw [← b',a']; exact h1)
  ·rw [if_neg q]
   exact d
theorem plan_ok {H:Hp} {its:List It6} {room:Int} (hok:ItsOk H its) (h0:0 ≤ room) (h1:room < 2 ^ 32):PlOk its (planOf room its):=by
 obtain ⟨_,nd,hl,hk⟩:=hok
 have bd:∀ x ∈ its,0 ≤ cl 0 x∧cl 0 x ≤ cl 1 x∧cl 1 x ≤ cl 2 x∧cl 2 x ≤ 30000∧0 ≤ cl 3 x∧cl 3 x ≤ 99∧0 ≤ cl 4 x∧cl 4 x ≤ 99:=fun x hx=>by
  obtain ⟨a,b,c,d,e,f,g,i,_⟩:=hk x hx
  exact ⟨a,b,c,d,e,f,g,i⟩
 obtain ⟨a0,a1⟩:=sumI_le (v:=cl 1) (B:=30000) (l:=its) fun x hx=>by have:=bd x hx; omega
 obtain ⟨b0,b1⟩:=sumI_le (v:=cl 0) (B:=30000) (l:=its) fun x hx=>by have:=bd x hx; omega
 obtain ⟨c0,c1⟩:=sumI_le (v:=wlC) (B:=30000) (l:=its.filter rdyB) fun x hx=>by
  have:=bd x (memF6 hx)
  have:wlC x=cl 1 x - cl 0 x:=rfl
  omega
 have e12:(30000:Int) * (its.length:Int) ≤ 600000:=by omega
 unfold planOf
 split
 ·refine ⟨.inl rfl,fun p hp=>?_,fun p hp=>?_,List.pairwise_singleton _ _,by show 1 ≤ 20; decide⟩
  ·rw [List.mem_singleton.mp hp]
   have z:=toIt_in (w:=cl 3) (c:=fun x=>cl 2 x - cl 1 x) nd hl (fun _=>true) fun x hx=>by have:=bd x hx; show _∧_∧0 ≤ cl 2 x - cl 1 x∧cl 2 x - cl 1 x ≤ _; omega
   rw [filter_T] at z
   refine ⟨z,?_⟩
   show 0 ≤ room - sumI (cl 1) its∧room - sumI (cl 1) its < 2 ^ 32
   omega
  ·rw [List.mem_singleton.mp hp]
   intro y hy
   obtain ⟨x,hx,rfl⟩:=List.mem_map.mp hy
   exact ⟨x,hx,rfl⟩
 ·split
  ·have in1:InB (toIt (cl 4) wlC (its.filter rdyB)):=toIt_in nd hl _ fun x hx=>by have:=bd x hx; have:wlC x=cl 1 x - cl 0 x:=rfl; omega
   have in2:InB (toIt (fun _=>1) wlC (its.filter fun x=>!rdyB x)):=toIt_in nd hl _ fun x hx=>by have:=bd x hx; have:wlC x=cl 1 x - cl 0 x:=rfl; show (0:Int) ≤ 1∧(1:Int) ≤ 1000∧_; omega
   have key:∀ p ∈ (plShrink room its).ps,p=⟨sumI (cl 1) its - room,toIt (cl 4) wlC (its.filter rdyB)⟩ ∨ (0 < sumI (cl 1) its - room - sumI wlC (its.filter rdyB)∧p=⟨sumI (cl 1) its - room - sumI wlC (its.filter rdyB),toIt (fun _=>1) wlC (its.filter fun x=>!rdyB x)⟩):=fun p hp=>by
    rcases List.mem_cons.mp hp with z | z
    ·exact .inl z
    ·by_cases q:0 < sumI (cl 1) its - room - sumI wlC (its.filter rdyB)
     ·rw [if_pos q] at z
      exact .inr ⟨q,List.mem_singleton.mp z⟩
     ·rw [if_neg q] at z
      cases z
   refine ⟨.inr rfl,fun p hp=>?_,fun p hp=>?_,?_,?_⟩
   ·rcases key p hp with z | ⟨q,z⟩
    ·rw [z]
     refine ⟨in1,?_⟩
     show 0 ≤ sumI (cl 1) its - room∧sumI (cl 1) its - room < 2 ^ 32
     omega
    ·rw [z]
     refine ⟨in2,?_⟩
     show 0 ≤ sumI (cl 1) its - room - sumI wlC (its.filter rdyB)∧sumI (cl 1) its - room - sumI wlC (its.filter rdyB) < 2 ^ 32
     omega
   ·rcases key p hp with z | ⟨q,z⟩ <;> (rw [z]; intro y hy; obtain ⟨x,hx,_,e⟩:=toIt_sub y hy; exact ⟨x,hx,e⟩)
   ·refine List.pairwise_cons.mpr ⟨fun p hp=>?_,?_⟩
    ·rcases key p (List.mem_cons_of_mem _ hp) with z | ⟨q,z⟩
     ·split at hp
      ·rw [List.mem_singleton.mp hp]
       refine toIt_dis nd fun x _ a b=>?_
       rw [a] at b
       cases b
      ·cases hp
     ·rw [z]
      refine toIt_dis nd fun x _ a b=>?_
      rw [a] at b
      cases b
    ·split
     ·exact List.pairwise_singleton _ _
     ·exact .nil
   ·show (if _ then _ else _:List Po).length + 1 ≤ 20
    split <;> simp
  ·have hrn:(ranks its).Nodup:=(List.mergeSort_perm (DS.dedup (its.map (cl 5))) fun a b=>decide (a ≤ b)).nodup_iff.mpr (DS.nodup_dedup _)
   obtain ⟨y1,y2⟩:=yieldOk nd hl hk (ranks its) [] ([],sumI (cl 0) its - room) hrn (by show sumI (cl 0) its - room ≤ 1000000; omega) (fun p hp=>nomatch hp) .nil
   refine ⟨.inr rfl,fun p hp=>?_,fun p hp=>?_,y2,?_⟩
   ·obtain ⟨r,e,q0,q1⟩:=y1 p hp
    rw [e]
    exact ⟨toIt_in nd hl _ fun x hx=>by have:=bd x hx; show (0:Int) ≤ 1∧(1:Int) ≤ 1000∧_; omega,q0,by omega⟩
   ·obtain ⟨r,e,_⟩:=y1 p hp
    rw [e]
    intro y hy
    obtain ⟨x,hx,_,e⟩:=toIt_sub y hy
    exact ⟨x,hx,e⟩
   ·have z:=yLen its (ranks its) ([],sumI (cl 0) its - room)
    have:=ranks_len hl
    have e0:([]:List Po).length=0:=rfl
    show (List.foldl (yStep its) ([],sumI (cl 0) its - room) (ranks its)).1.length ≤ 20
    simp only at z
    omega
theorem PourP.congr {it:List Itm} {R:Int} {sz sz':Itm→Int} {l:Option (Nat × Nat)} (h:PourP it R sz l) (e:∀ x ∈ it,sz' x=sz x):PourP it R sz' l:=by
 rcases h with ⟨h1,h2,h3⟩ | ⟨h1,p,q,out,h2,h3,h4,h5,h6⟩
 ·exact .inl ⟨h1,h2,fun x hx=>by rw [e x hx]; exact h3 x hx⟩
 ·exact .inr ⟨h1,p,q,out,h2,h3,h4,h5,fun x hx=>by rw [e x hx]; exact h6 x hx⟩
def LvsAt (H:Hp) (vs:List V) (ls:List (Option (Nat × Nat))):Prop:=vs.length=ls.length∧∀ (i:Nat) (v:V) (l:Option (Nat × Nat)),vs[i]?=some v→ls[i]?=some l→LvAt H v (lI l)
theorem LvsAt.keep {H H':Hp} {vs:List V} {ls:List (Option (Nat × Nat))} (h:LvsAt H vs ls) (k:∀ t xs,H t=some (.tup xs)→H' t=some (.tup xs)):LvsAt H' vs ls:=⟨h.1,fun i v l e1 e2=>lv_keep (h.2 i v l e1 e2) fun t xs _ e=>k t xs e⟩
theorem LvsAt.snoc {H:Hp} {vs:List V} {ls:List (Option (Nat × Nat))} {v:V} {l:Option (Nat × Nat)} (h:LvsAt H vs ls) (hv:LvAt H v (lI l)):LvsAt H (vs ++ [v]) (ls ++ [l]):=by
 refine ⟨by rw [List.length_append,List.length_append,h.1]; rfl,fun i u m e1 e2=>?_⟩
 by_cases hi:i < vs.length
 ·rw [List.getElem?_append_left hi] at e1
  rw [List.getElem?_append_left (by rw [← h.1]; exact hi)] at e2
  exact h.2 i u m e1 e2
 ·rw [List.getElem?_append_right (by omega)] at e1
  rw [List.getElem?_append_right (by rw [← h.1]; omega),← h.1] at e2
  have e0:i - vs.length=0:=by
   have:=get_lt e1
   simp at this
   omega
  rw [e0] at e1 e2
  cases e1
  cases e2
  exact hv
def szF (pl:Pl) (c:Str→Int) (x:It6):Int:=pl.b x + pl.sg * c x.1
def ShP (its:List It6) (pl:Pl) (c:Str→Int) (ls:List (Option (Nat × Nat))):Prop:=ls.length=pl.ps.length∧(∀ (i:Nat) (p:Po) (l:Option (Nat × Nat)),pl.ps[i]?=some p→ls[i]?=some l→PourP p.it p.R (fun y=>c y.1) l) ∧
 ∀ n:Str,(∀ p ∈ pl.ps,∀ y ∈ p.it,y.1 ≠ n)→c n=0
theorem putF_sz {its:List It6} (nd:(its.map (·.1)).Nodup) {pl:Pl} {c:Str→Int} {x:It6} (hx:x ∈ its) {d:Int}:putK (kvW (vI (szF pl c) its)) (.inr x.1) (.int (szF pl c x + pl.sg * d))=kvW (vI (szF pl fun n=>if n=x.1 then c n + d else c n) its):=by
 rw [putW_old (by rw [vI_keys]; exact List.mem_map_of_mem hx)]
 unfold vI
 rw [List.map_map]
 congr 1
 refine List.map_congr_left fun y hy=>?_
 show (if y.1=x.1 then (y.1,szF pl c x + pl.sg * d) else (y.1,szF pl c y))=_
 by_cases e:y.1=x.1
 ·have:=key_inj nd hy hx e
  subst this
  rw [if_pos rfl]
  show (y.1,pl.b y + pl.sg * c y.1 + pl.sg * d)=(y.1,pl.b y + pl.sg * (if y.1=y.1 then c y.1 + d else c y.1))
  rw [if_pos rfl,Int.mul_add,Int.add_assoc]
 ·rw [if_neg e]
  show (y.1,pl.b y + pl.sg * c y.1)=(y.1,pl.b y + pl.sg * (if y.1=x.1 then c y.1 + d else c y.1))
  rw [if_neg e]
def spShare (C T:Addr):Sp:=fun vs H Q _=>∃ (dI:Addr) (its:List It6) (room:Int) (ps:Array Value),vs=[.int room,.ref dI]∧Rd H dI (.dK (kvR its))∧ItsOk H its∧0 ≤ room∧room < 2 ^ 32∧H T=some (.tbl ps)∧TabOk H lamPos lamQual ps ∧
 ∀ (tt dS lL:Addr) (c:Str→Int) (lvs:List V) (ls:List (Option (Nat × Nat))) (ps':Array Value) (H':Hp),Kr (fun b=>b=T) H H' →
  H' tt=some (.tup [.ref dS,.int (room - sumI (szF (planOf room its) c) its),.ref lL])→H' dS=some (.dK (kvW (vI (szF (planOf room its) c) its)))→H' lL=some (.lst lvs)→LvsAt H' lvs ls→ShP its (planOf room its) c ls→H' T=some (.tbl ps')→TabOk H' lamPos lamQual ps'→H dS=none→Q (.ref tt) H'
section
variable {P:Program} {w:World} {K:PySem.W.Frag} {mg:Str→Option Value} {base:Heap}
abbrev nShare:List Str:=["room","items","plan","sizes","levels","amount","weights","caps","told","name","cells"]
theorem scShare:FnScope nShare ["room","items"] (defScope sShare):=⟨rfl,rfl,rfl,by decide +kernel,rfl,by decide +kernel,by decide +kernel⟩
set_option maxHeartbeats 16000000 in
theorem ok_share {f f1 f2:Addr} {fd d1 d2:FuncData} {C T:Addr} (TC:PlanC K C) (F:Fun K "share" "share" sShare f fd) (N:Names mg)
  (G1:FnOk P w K mg base CX0 4 f1 d1 ["room","items"] (spPlanF planOf C)) (b1:Binds K d1 ["room","items"] []) (m1:mg "plan_of"=some (.ref f1)) (k1:PySem.W.keepIn K (.ref f1)=true)
  (G2:FnOk P w K mg base CX0 4 f2 d2 ["room","weights","caps"] (spPour T)) (b2:Binds K d2 ["room","weights","caps"] []) (m2:mg "pour"=some (.ref f2)) (k2:PySem.W.keepIn K (.ref f2)=true):FnOk P w K mg base CX0 5 f fd ["room","items"] (spShare C T):=by
 refine F.ok scShare (fun vs H Q E h=>?_) (fun cdv A outer s H vs Q E hr h=>?_)
 ·obtain ⟨dI,its,room,tps,e,_⟩:=h
  rw [e]
  rfl
 ·obtain ⟨dI,its,room,tps,e,hI,hok,hr0,hr1,hT,hTk,k⟩:=h
  subst e
  have hr4:=hr.mono (j:=4) (by decide)
  have hu:(A.deeper (PyProof.Rows.envOfC "share" (defScope sShare) s.heap.objs.size f cdv)).units + 1 < cLine:=by have:=hr.units; omega
  refine ⟨_,pss_cons (ps_set (i:=2) scShare.nd rfl (Or.inl rfl) (pe_call G1 hr4 (by rfl) m1 k1 b1 .nil pass0 (pa_cons (pv 0) (pa_cons (pv 1) pa_nil))))
   (pss_cons (ps_set (i:=3) scShare.nd rfl (Or.inl rfl) (pe_callTy call_copyD (by rfl) N.dict PyProof.Rows.boot_dict (pa_cons (pe_fld (pv 2) rfl) pa_nil)))
   (pss_cons (ps_set (i:=4) scShare.nd rfl (Or.inl rfl) (pe_lst pa_nil))
   (pss_cons (ps_for PassesOwn.never rfl (pi_list (pe_fld (pv 2) rfl)) (pg_tup rfl (pgs_cons (pg_name (i:=5) scShare.nd rfl (Or.inl rfl)) (pgs_cons (pg_name (i:=6) scShare.nd rfl (Or.inl rfl)) (pgs_cons (pg_name (i:=7) scShare.nd rfl (Or.inl rfl)) pgs_nil))))
    (pss_cons (ps_set (i:=8) scShare.nd rfl (Or.inl rfl) (pe_call G2 hr4 (by rfl) m2 k2 b2 .nil pass0 (pa_cons (pv 5) (pa_cons (pv 6) (pa_cons (pv 7) pa_nil)))))
    (pss_cons (ps_for PassesOwn.never rfl (pi_items (pe_ix ix_tup (pv 8) pe_int (fun _ _=>rfl))) (pg_tup rfl (pgs_cons (pg_name (i:=9) scShare.nd rfl (Or.inl rfl)) (pgs_cons (pg_name (i:=10) scShare.nd rfl (Or.inl rfl)) pgs_nil)))
     (pss_one (ps_dput hu (pv 3) (pv 9) (pe_op op_add (pe_dget hu (pv 3) (pv 9) (fun _ _=>rfl)) (pe_op op_mul (pe_fld (pv 2) rfl) (pv 10))) rfl)))
    (pss_one (ps_expr (pe_bm PySem.F.plainAttrs_list PySem.F.slot_list_append PySem.F.type_list_append mt_append (pv 4) (pa_cons (pe_ix ix_tup (pv 8) pe_int (fun _ _=>rfl)) pa_nil)))))))
   (pss_one (ps_ret (pe_tup (pa_cons (pv 3) (pa_cons (pe_op op_sub (pv 0) (pe_sumV rfl (pv 3) (by rfl) (by rfl) (by rfl) N.sum PyProof.Rows.boot_sum)) (pa_cons (pv 4) pa_nil))))))))),?_⟩
  try rw [show (cxOf CX0 P w K mg base nShare "share" (defScope sShare) f cdv A outer s H E).nox.K=K from rfl]
  have hu':=hu
  refine seq_abs fun N1 hN=>?_
  refine ⟨_,rfl,_,rfl,dI,its,room,rfl,hI,hok,fun x H1 hx k1 hp=>?_⟩
  refine hN _ _ ?_
  clear hN N1
  have pok:=plan_ok hok hr0 hr1
  have hT1:H1 T=some (.tbl tps):=by
   rcases k1 T _ (fun z=>z) hT with z | ⟨kvs',z | ⟨o',z⟩,r⟩
   ·exact z
   ·cases z
   ·cases z
  have hTk1:TabOk H1 lamPos lamQual tps:=tab_keep hTk fun c e=>by
   rcases k1 c _ (fun z=>z) e with z | ⟨kvs',z | ⟨o',z⟩,r⟩
   ·exact z
   ·cases z
   ·cases z
  obtain ⟨dx,dB,lp,qs,hins,hB,hl,hps,hqs⟩:=hp
  have hpl:(planOf room its).ps.length ≤ 20:=pok.len
  have hql:qs.length ≤ 20:=by rw [← List.length_map (f:=(·.po)),hps]; exact hpl
  generalize planOf room its=pl at *
  refine seq_abs fun N1 hN=>?_
  refine ⟨_,rfl,x,C,dx,_,_,rfl,hins,TC.cl,TC.nB,rfl,dB,_,rfl,hB,fun eS heS=>?_⟩
  generalize hG:upd H1 eS _=H2
  have s2:Same H1 H2:=by rw [← hG]; exact Same.put (Same.refl _) heS
  have h2:H2 eS=some (.dK (kvW (vI pl.b its))):=by rw [← hG]; exact upd_same
  clear hG
  refine hN _ _ ?_
  clear hN N1
  refine seq_abs fun N1 hN=>?_
  refine ⟨smallE (by simp),fun el hel=>?_⟩
  generalize hG:upd H2 el _=H3
  have s3:Same H2 H3:=by rw [← hG]; exact Same.put (Same.refl _) hel
  have h3:H3 el=some (.lst []):=by rw [← hG]; exact upd_same
  clear hG
  refine hN _ _ ?_
  clear hN N1
  have s13:=Same.trans s2 s3
  have hel1:H1 el=none:=s2.free hel
  have h3S:H3 eS=some (.dK (kvW (vI (szF pl fun _=>0) its))):=by
   rw [s3 _ _ h2]
   have e:(szF pl fun _=>0)=pl.b:=by
    funext y
    show pl.b y + pl.sg * 0=_
    rw [Int.mul_zero,Int.add_zero]
   rw [e]
  have nSl:eS ≠ el:=ne_of_none h2 hel
  have nd:=hok.2.1
  refine seq_abs fun N1 hN=>?_
  refine ⟨_,rfl,x,C,dx,_,_,rfl,s13 _ _ hins,TC.cl,TC.nP,rfl,lp,rfl,⟨_,SqL.of (s13 _ _ hl)⟩,for_list (K:=K) (a:=lp) (xs:=qs.map fun q=>V.ref q.t) (fun i σ G=>∃ (v5 v6 v7 v8 v9 v10:Option V) (c:Str→Int) (lvs:List V) (ls:List (Option (Nat × Nat))) (ps':Array Value),
    σ=[some (.int room),some (.ref dI),some (.ref x),some (.ref eS),some (.ref el),v5,v6,v7,v8,v9,v10]∧Kr (fun b=>b=T) H1 G∧G eS=some (.dK (kvW (vI (szF pl c) its)))∧G el=some (.lst lvs)∧LvsAt G lvs ls∧ls.length=i∧G T=some (.tbl ps')∧TabOk G lamPos lamQual ps' ∧
    (∀ (j:Nat) (p:Po) (l:Option (Nat × Nat)),pl.ps[j]?=some p→ls[j]?=some l→PourP p.it p.R (fun y=>c y.1) l)∧∀ n:Str,(∀ p ∈ pl.ps.take i,∀ y ∈ p.it,y.1 ≠ n)→c n=0)
   ⟨none,none,none,none,none,none,fun _=>0,[],[],tps,rfl,.same s13,h3S,h3,⟨rfl,fun i v l e=>(by simp at e)⟩,rfl,s13 _ _ hT1,(tab_keep hTk1 fun c e=>s13 _ _ e),(fun j p l _ e=>by simp at e),fun _ _=>rfl⟩ (fun i σ G _ ⟨_,_,_,_,_,_,_,_,_,_,_,z,_⟩=>SqL.of (z.lst (ne_of hl hT1 (by intro z; cases z)) hl)) ?_ ?_⟩
  ·rintro i y σ G hy ⟨v5,v6,v7,v8,v9,v10,c,lvs,ls,ps',rfl,kG,hS,hL,hLv,hLl,hTG,hTkG,hPs,hc0⟩
   rw [List.getElem?_map] at hy
   obtain ⟨q,eq,rfl⟩:∃ q,qs[i]?=some q∧y=V.ref q.t:=by
    cases e:qs[i]? with
    | none=>rw [e] at hy; cases hy
    | some q=>rw [e] at hy; cases hy; exact ⟨q,rfl,rfl⟩
   have hpi:pl.ps[i]?=some q.po:=by rw [← hps,List.getElem?_map,eq]; rfl
   have hpm:=List.mem_of_getElem? hpi
   have nT:NoM (fun b=>b=T) H1:=fun b e=>by
    have e:b=T:=e
    subst e
    exact ⟨fun ys z=>(by rw [hT1] at z; cases z),fun kvs z=>(by rcases z with z | ⟨o,z⟩ <;> (rw [hT1] at z; cases z))⟩
   obtain ⟨g1,g2,g3,cs,g4,g5⟩:=(hqs q (List.mem_of_getElem? eq)).kr kG nT
   obtain ⟨hIn,hR0,hR1⟩:=pok.po _ hpm
   have hi:i < 20:=Nat.lt_of_lt_of_le (get_lt eq) hql
   refine ⟨q.t,_,rfl,SqT.of g1,rfl,_,_,rfl,_,_,rfl,_,_,rfl,rfl,?_⟩
   refine seq_abs fun N2 hN2=>?_
   refine ⟨_,rfl,_,rfl,_,rfl,q.dW,q.dC,q.po.it,cs,q.po.R,ps',rfl,g2,g3,g4,g5,hIn,hR0,hR1,hTG,hTkG,fun tt sd sz lv ps2 G2 htt hsd k2 hW2 hT2 hTk2 h2t h2s hP=>?_⟩
   refine hN2 _ _ ?_
   clear hN2 N2
   have kw:Kr (fun b=>b=T) G G2:=.but g3 (fun b u h1 h2 e=>k2 b u h2 h1 e) hW2
   have kG2:=kG.trans kw
   have neT:∀ {b u},G b=some u→u ≠ .tbl ps'→b ≠ T:=fun e ne=>ne_of e hTG ne
   have hS2:G2 eS=some (.dK (kvW (vI (szF pl c) its))):=k2 _ _ (neT hS (by intro z; cases z)) (fun z=>by
    rw [z] at heS
    have:=(hqs q (List.mem_of_getElem? eq)).2.2.1
    rcases this with y | ⟨_,y⟩ <;> (rw [heS] at y; cases y)) hS
   have hL2:=kw.lst (neT hL (by intro z; cases z)) hL
   have hLv2:LvsAt G2 lvs ls:=hLv.keep fun t xs e=>kw.tup (neT e (by intro z; cases z)) e
   obtain ⟨l,hPP,hLv0⟩:=hP.pure
   have nsS:eS ≠ sd:=ne_of_none hS hsd
   have nsL:el ≠ sd:=ne_of_none hL hsd
   have nST:eS ≠ T:=neT hS (by intro z; cases z)
   have nLT:el ≠ T:=neT hL (by intro z; cases z)
   clear hP kG k2 hW2 g1 g3 g4 hS hL
   refine seq_abs fun N2 hN2=>?_
   refine ⟨_,rfl,tt,_,_,_,rfl,rfl,SqT.of h2t,atI_nat (j:=0) rfl,sd,_,rfl,.inl h2s,fun o=>?_⟩
   have kf:∀ b u,b ≠ sd→G2 b=some u→(upd G2 sd (.frz o (.dK (kvW (szI sz q.po.it))))) b=some u:=fun b u hb e=>by rw [upd_ne hb]; exact e
   have kK:Kr (fun b=>b=T) G2 (upd G2 sd (.frz o (.dK (kvW (szI sz q.po.it))))):=.frz (.inl h2s)
   have hq3:(upd G2 sd (.frz o (.dK (kvW (szI sz q.po.it))))) sd=some (.frz o (.dK (kvW (szI sz q.po.it)))):=upd_same
   generalize upd G2 sd (.frz o (.dK (kvW (szI sz q.po.it))))=G3 at *
   have hS3:=kf _ _ nsS hS2
   have nxT:x ≠ T:=ne_of hins hT1 (by intro z; cases z)
   have hx3:=(kG2.trans kK).ins nxT hins
   have nxS:x ≠ eS:=ne_of_none hins heS
   have ndI:=hIn.1
   have hsdT:sd ≠ T:=ne_of h2s hT2 (by intro z; cases z)
   refine for_items (a:=sd) (o:=o) (kvs:=kvW (szI sz q.po.it)) (fun j σ G'=>∃ (v9 v10:Option V) (c':Str→Int),σ=[some (.int room),some (.ref dI),some (.ref x),some (.ref eS),some (.ref el),some (.int q.po.R),some (.ref q.dW),some (.ref q.dC),some (.ref tt),v9,v10]∧(∀ b u,b ≠ eS→G3 b=some u→G' b=some u) ∧
     G' eS=some (.dK (kvW (vI (szF pl c') its)))∧(∀ n,n ∉ (q.po.it.take j).map (·.1)→c' n=c n)∧∀ y ∈ q.po.it.take j,c' y.1=c y.1 + sz y)
    ⟨_,_,c,rfl,fun _ _ _ e=>e,hS3,fun _ _=>rfl,fun y hy=>by simp at hy⟩ (fun j σ G' _ ⟨_,_,_,_,z,_⟩=>z _ _ (Ne.symm nsS) hq3) ?_ ?_
   ·rintro j kk v p σ G' hkv hp ⟨v9,v10,c',rfl,k',hE,hA,hB⟩
    obtain ⟨nm,n,ews,rfl,rfl⟩:=kvW_at hkv
    obtain ⟨y,ey,e1,e2⟩:∃ y,q.po.it[j]?=some y∧y.1=nm∧sz y=n:=by
     unfold szI at ews
     rw [List.getElem?_map] at ews
     cases e:q.po.it[j]? with
     | none=>rw [e] at ews; cases ews
     | some y=>rw [e] at ews; cases ews; exact ⟨y,rfl,rfl,rfl⟩
    obtain ⟨x0,hx0,e0⟩:=pok.sub _ hpm y (List.mem_of_getElem? ey)
    have e3:nm=x0.1:=by rw [e0,e1]
    subst e3 e2
    clear ews hkv
    generalize hG:upd G' p _=G4
    have s4:Same G' G4:=by rw [← hG]; exact Same.put (Same.refl _) hp
    have h4:G4 p=some (.tup [.str x0.1,.int (sz y)]):=by rw [← hG]; exact upd_same
    clear hG
    have hE4:=s4 _ _ hE
    refine ⟨p,_,rfl,SqT.of h4,rfl,_,_,rfl,_,_,rfl,rfl,?_⟩
    refine ⟨_,rfl,_,rfl,eS,_,rfl,get_vI (.inl hE4) nd hx0,_,rfl,x,C,dx,_,_,rfl,s4 _ _ (k' _ _ nxS hx3),TC.cl,TC.nS,rfl,_,rfl,_,_,rfl,rfl,.inl (by rcases pok.sg with z | z <;> (rw [z]; exact ⟨by decide,by decide⟩)),_,_,rfl,rfl,_,rfl,_,rfl,eS,_,rfl,DPut.k (k:=.inr x0.1) hE4 (small (by rw [kvW_len,vI_len]; have:=hok.2.2.1; omega)),?_⟩
    have etk:q.po.it.take (j + 1)=q.po.it.take j ++ [y]:=by rw [List.take_succ,ey]; rfl
    have hnin:∀ z ∈ q.po.it.take j,z.1 ≠ x0.1:=fun z hz e=>by
     have z1:=take_nin (l:=q.po.it.map (·.1)) ndI (i:=j) (x:=y.1) (by rw [List.getElem?_map,ey]; rfl)
     rw [← List.map_take] at z1
     exact z1 (by rw [← e0,← e]; exact List.mem_map_of_mem hz)
    refine (show ∃ v9 v10 c',_ from ⟨_,_,fun n=>if n=x0.1 then c' n + sz y else c' n,rfl,fun b u hb e=>?_,?_,fun n hn=>?_,fun z hz=>?_⟩)
    ·rw [upd_ne hb]
     exact s4 _ _ (k' b u hb e)
    ·exact upd_same.trans (congrArg (fun z=>some (HO.dK z)) (putF_sz nd hx0 (c:=c') (pl:=pl) (d:=sz y)))
    ·rw [etk,List.map_append,List.mem_append,not_or] at hn
     have h1:n ≠ x0.1:=fun z=>hn.2 (by rw [z,e0]; exact List.mem_cons_self)
     show (if n=x0.1 then c' n + sz y else c' n)=c n
     rw [if_neg h1]
     exact hA n hn.1
    ·rw [etk] at hz
     show (if z.1=x0.1 then c' z.1 + sz y else c' z.1)=c z.1 + sz z
     rcases List.mem_append.mp hz with h | h
     ·rw [if_neg (hnin z h)]
      exact hB z h
     ·rw [List.mem_singleton.mp h,if_pos e0.symm,hA y.1 (fun h=>by
       obtain ⟨z2,hz2,e⟩:=List.mem_map.mp h
       exact hnin z2 hz2 (by rw [e,e0]))]
   ·rintro σ G' ⟨v9,v10,c',rfl,k',hE,hA,hB⟩
    rw [kvW_len,szI_len,List.take_length] at hA hB
    refine hN2 _ _ ?_
    clear hN2 N2
    have nlS:el ≠ eS:=Ne.symm nSl
    have hL5:=k' _ _ nlS (kf _ _ nsL hL2)
    have kT:∀ t xs,G2 t=some (.tup xs)→G' t=some (.tup xs):=fun t xs e=>k' _ _ (fun z=>by rw [z,hS2] at e; cases e) (kf _ _ (fun z=>by rw [z,h2s] at e; cases e) e)
    have h5t:=kT _ _ h2t
    have hLv5:=hLv2.keep kT
    have hlv5:LvAt G' lv (lI l):=lv_keep hLv0 fun t xs _ e=>kT t xs e
    have kG5:Kr (fun b=>b=T) H1 G':=(kG2.trans kK).fresh heS k'
    have hT5:G' T=some (.tbl ps2):=k' _ _ (Ne.symm nST) (kf _ _ (Ne.symm hsdT) hT2)
    have hTk5:TabOk G' lamPos lamQual ps2:=tab_keep hTk2 fun c e=>k' _ _ (fun z=>by rw [z,hS2] at e; cases e) (kf _ _ (fun z=>by rw [z,h2s] at e; cases e) e)
    refine ⟨_,rfl,.inl ⟨rfl,_,SqL.of hL5⟩,_,rfl,tt,_,_,_,rfl,rfl,SqT.of h5t,atI_nat (j:=1) rfl,el,_,_,rfl,rfl,hL5,small (by rw [hLv.1,hLl]; omega),?_⟩
    have kp:∀ {b u},b ≠ el→G' b=some u→(upd G' el (.lst (lvs ++ [lv]))) b=some u:=fun hb e=>by rw [upd_ne hb]; exact e
    have kpt:∀ t xs,G' t=some (.tup xs)→(upd G' el (.lst (lvs ++ [lv]))) t=some (.tup xs):=fun t xs e=>kp (fun z=>by rw [z,hL5] at e; cases e) e
    -- those ahead have other names
    have hot:∀ (j:Nat) (p:Po),j < i→pl.ps[j]?=some p→∀ y ∈ p.it,y.1 ∉ q.po.it.map (·.1):=fun j p hj ep y hy hm=>by
     obtain ⟨z,hz,e⟩:=List.mem_map.mp hm
     have hjl:=get_lt ep
     have hil:=get_lt hpi
     rw [List.getElem?_eq_getElem hjl] at ep
     rw [List.getElem?_eq_getElem hil] at hpi
     have:=List.pairwise_iff_getElem.mp pok.dis j i hjl hil hj
     rw [Option.some.inj ep,Option.some.inj hpi] at this
     exact this y hy z hz e.symm
    have hz0:∀ y ∈ q.po.it,c y.1=0:=fun y hy=>hc0 _ fun p hp z hz e=>by
     obtain ⟨j,hj⟩:=List.getElem?_of_mem hp
     have hji:j < i:=by
      have:=get_lt hj
      rw [List.length_take] at this
      omega
     rw [List.getElem?_take_of_lt hji] at hj
     exact hot j p hji hj z hz (by rw [e]; exact List.mem_map_of_mem hy)
    refine (show ∃ v5 v6 v7 v8 v9 v10 c lvs ls ps',_ from ⟨_,_,_,_,_,_,c',lvs ++ [lv],ls ++ [l],ps2,rfl,kG5.put hel1,kp nSl hE,upd_same,(hLv5.keep kpt).snoc (lv_keep hlv5 fun t xs _ e=>kpt t xs e),by rw [List.length_append,hLl]; rfl,kp (Ne.symm nLT) hT5,tab_keep hTk5 fun c e=>kp (fun z=>by rw [z,hL5] at e; cases e) e,fun j p m ep em=>?_,fun n hn=>?_⟩)
    ·by_cases hj:j < i
     ·rw [List.getElem?_append_left (by rw [hLl]; exact hj)] at em
      refine (hPs j p m ep em).congr fun y hy=>?_
      exact hA _ (hot j p hj ep y hy)
     ·rw [List.getElem?_append_right (by omega),hLl] at em
      have ej:j=i:=by
       have:=get_lt em
       simp at this
       omega
      subst ej
      rw [hpi] at ep
      cases ep
      rw [Nat.sub_self] at em
      cases em
      refine hPP.congr fun y hy=>?_
      show c' y.1=sz y
      rw [hB y hy,hz0 y hy,Int.zero_add]
    ·have etk:pl.ps.take (i + 1)=pl.ps.take i ++ [q.po]:=by rw [List.take_succ,hpi]; rfl
     rw [etk] at hn
     rw [hA n fun h=>?_]
     ·exact hc0 n fun p hp=>hn p (List.mem_append_left _ hp)
     ·obtain ⟨z,hz,e⟩:=List.mem_map.mp h
      exact hn q.po (List.mem_append_right _ List.mem_cons_self) z hz e
  ·rintro σ G ⟨v5,v6,v7,v8,v9,v10,c,lvs,ls,ps',rfl,kG,hS,hL,hLv,hLl,hTG,hTkG,hPs,hc0⟩
   have el2:qs.length=pl.ps.length:=by rw [← hps,List.length_map]
   rw [List.length_map,el2] at hLl hc0
   rw [List.take_length] at hc0
   refine hN _ _ ?_
   clear hN N1
   refine ⟨_,rfl,_,rfl,_,rfl,eS,_,_,rfl,.inl hS,vI_vals _ _,_,_,rfl,rfl,_,rfl,(by show 3 ≤ sizeLine; decide),fun tt htt=>?_⟩
   generalize hG:upd G tt _=G2
   have s2':Same G G2:=by rw [← hG]; exact Same.put (Same.refl _) htt
   have h2':G2 tt=some (.tup [.ref eS,.int (room - sumI (szF pl c) its),.ref el]):=by rw [← hG]; exact upd_same
   clear hG
   refine k tt eS el c lvs ls ps' G2 ?_ h2' (s2' _ _ hS) (s2' _ _ hL) (hLv.keep fun t xs e=>s2' _ _ e) ⟨hLl,hPs,hc0⟩ (s2' _ _ hTG) (tab_keep hTkG fun c e=>s2' _ _ e) (k1.free heS)
   exact (k1.le fun b u z=>z.elim).trans (kG.trans (.same s2'))
end
end B04
namespace B04
open PySem L2 S2
theorem smI_zero {g:Itm→Int} {l:List Itm} (h:∀ x ∈ l,g x=0):smI g l=0:=by
 have z0:∀ l:List Itm,smI (fun _=>0) l=0:=fun l=>by
  induction l with
  | nil=>rfl
  | cons y l ih=>rw [smI_cons,ih]; rfl
 rw [smI_eq (h:=fun _=>0) h]
 exact z0 l
theorem ff_comm (f g:Itm→Bool) (l:List Itm):(l.filter f).filter g=(l.filter g).filter f:=by
 rw [List.filter_filter,List.filter_filter]
 exact List.filter_congr fun x _=>Bool.and_comm _ _
theorem pour_same {it it':List Itm} {R:Int} {sz sz':Itm→Int} {l l':Option (Nat × Nat)} (g:Itm→Bool) (hS:it.filter posB=(it'.filter posB).filter g) (hz:∀ x ∈ it'.filter posB,g x=false→cI x=0) (hR:0 ≤ R) (hc:∀ x ∈ it,0 ≤ cI x) (hc':∀ x ∈ it',0 ≤ cI x)
  (h:PourP it R sz l) (h':PourP it' R sz' l'):l=l'∧(∀ x ∈ it.filter posB,sz x=sz' x)∧∀ x ∈ it'.filter posB,g x=false→sz' x=0:=by
 have hw0:∀ x ∈ it'.filter posB,0 < wI x:=fun x hx=>of_decide_eq_true (List.mem_filter.mp hx).2
 have hin:∀ x ∈ it.filter posB,x ∈ it∧posB x=true∧x ∈ it'∧x ∈ it'.filter posB∧g x=true:=fun x hx=>by
  have h2:=hx
  rw [hS] at h2
  exact ⟨memF hx,(List.mem_filter.mp hx).2,memF (memF h2),memF h2,(List.mem_filter.mp h2).2⟩
 have hin':∀ x ∈ it'.filter posB,x ∈ it'∧posB x=true:=fun x hx=>⟨memF hx,(List.mem_filter.mp hx).2⟩
 have nF:∀ x ∈ (it'.filter posB).filter (fun x=>!g x),cI x=0:=fun x hx=>hz x (memF hx) (by have:=(List.mem_filter.mp hx).2; simpa using this)
 have eC:smI cI (it'.filter posB)=smI cI (it.filter posB):=by
  rw [smI_split cI g (it'.filter posB),smI_zero nF,Int.add_zero,hS]
 rcases h with ⟨a1,a2,a3⟩ | ⟨a1,p,q,out,a2,a3,a4,a5,a6⟩ <;> rcases h' with ⟨b1,b2,b3⟩ | ⟨b1,p',q',out',b2,b3,b4,b5,b6⟩
 ·refine ⟨by rw [a2,b2],fun x hx=>?_,fun x hx hg=>?_⟩
  ·obtain ⟨h1,h2,h3,_⟩:=hin x hx
   rw [a3 x h1,b3 x h3,h2]
  ·rw [b3 x (hin' x hx).1,if_pos (hin' x hx).2,hz x hx hg]
 ·omega
 ·omega
 ·obtain ⟨_,_,_,hsum,_⟩:=lev_open hR hc a3
  obtain ⟨_,_,_,hsum',_⟩:=lev_open hR hc' b3
  have hq:=a3.1
  have hS2:smI (fun x=>min (cI x * q) (wI x * p)) (it'.filter posB)=R * q:=by
   rw [smI_split _ g (it'.filter posB),← hS,hsum,smI_zero (fun x hx=>?_),Int.add_zero]
   have h1:=nF x hx
   have h2:=hw0 x (memF hx)
   show min (cI x * (q:Int)) (wI x * (p:Int))=0
   have h3:0 ≤ wI x * (p:Int):=Int.mul_nonneg (Int.le_of_lt h2) (by omega)
   rw [h1,Int.zero_mul]
   omega
  obtain ⟨rfl,rfl⟩:=lev_unique hw0 hq b3.1 b1 hS2 hsum' a3.2.1 b3.2.1
  have full0:∀ x ∈ it'.filter posB,g x=false→fullB p q x=true:=fun x hx hg=>by
   have h3:0 ≤ wI x * (p:Int):=Int.mul_nonneg (Int.le_of_lt (hw0 x hx)) (by omega)
   unfold fullB
   rw [hz x hx hg,Int.zero_mul]
   exact decide_eq_true h3
  have eO:(it.filter posB).filter (fun x=>!fullB p q x)=(it'.filter posB).filter (fun x=>!fullB p q x):=by
   rw [hS,List.filter_filter]
   refine List.filter_congr fun x hx=>?_
   cases hg:g x with
   | true=>rw [Bool.and_true]
   | false=>rw [full0 x hx hg]; rfl
  have eF:smI cI ((it.filter posB).filter (fullB p q))=smI cI ((it'.filter posB).filter (fullB p q)):=by
   rw [hS,ff_comm g (fullB p q),smI_split cI g ((it'.filter posB).filter (fullB p q)),smI_zero (l:=((it'.filter posB).filter (fullB p q)).filter fun x=>!g x) (fun x hx=>?_),Int.add_zero]
   exact hz x (memF (memF hx)) (by have:=(List.mem_filter.mp hx).2; simpa using this)
  rw [eO] at a4
  rw [eO,eF] at a5 a6
  have eout:out=out':=turn_unique (a4.trans b4.symm) a5 b5
  subst eout
  refine ⟨by rw [a2,b2],fun x hx=>?_,fun x hx hg=>?_⟩
  ·obtain ⟨h1,h2,h3,_⟩:=hin x hx
   rw [a6 x h1,b6 x h3]
  ·rw [b6 x (hin' x hx).1,if_pos (hin' x hx).2,if_pos (full0 x hx hg),hz x hx hg]
theorem pour_range {it:List Itm} {R:Int} {sz:Itm→Int} {l:Option (Nat × Nat)} (hIn:InB it) (hR:0 ≤ R) (h:PourP it R sz l):(∀ x ∈ it,0 ≤ sz x∧sz x ≤ cI x∧(wI x=0→sz x=0)) ∧
  ((smI cI (it.filter posB) ≤ R∧∀ x ∈ it,0 < wI x→sz x=cI x) ∨ smI sz (it.filter posB)=R):=by
 obtain ⟨nd,hl,hB⟩:=hIn
 have hc:∀ x ∈ it,0 ≤ cI x:=fun x hx=>(hB x hx).2.2.1
 rcases h with ⟨a1,a2,a3⟩ | ⟨a1,p,q,out,a2,a3,a4,a5,a6⟩
 ·refine ⟨fun x hx=>?_,.inl ⟨a1,fun x hx hw=>?_⟩⟩
  ·have:=hc x hx
   rw [a3 x hx]
   cases hp:posB x with
   | true =>
    rw [if_pos rfl]
    refine ⟨this,Int.le_refl _,fun hw=>?_⟩
    have:=of_decide_eq_true hp
    omega
   | false =>
    rw [if_neg Bool.false_ne_true]
    exact ⟨Int.le_refl _,this,fun _=>rfl⟩
  ·rw [a3 x hx,if_pos (show posB x=true from decide_eq_true hw)]
 ·obtain ⟨hOne,hR0,_,_,hoc⟩:=lev_open hR hc a3
  have hOw:∀ x ∈ (it.filter posB).filter (fun x=>!fullB p q x),0 < wI x:=fun x hx=>of_decide_eq_true (List.mem_filter.mp (memF hx)).2
  have hW:=smI_pos hOne hOw
  refine ⟨fun x hx=>?_,.inr (pour_total nd hR hc a3 a4 a6)⟩
  have:=hc x hx
  rw [a6 x hx]
  cases hp:posB x with
  | false =>
   rw [if_neg Bool.false_ne_true]
   exact ⟨Int.le_refl _,this,fun _=>rfl⟩
  | true =>
   rw [if_pos rfl]
   have hw:=of_decide_eq_true hp
   cases hf:fullB p q x with
   | true =>
    rw [if_pos rfl]
    exact ⟨this,Int.le_refl _,fun hw0=>by omega⟩
   | false =>
    rw [if_neg Bool.false_ne_true]
    have hm:x ∈ (it.filter posB).filter fun x=>!fullB p q x:=List.mem_filter.mpr ⟨List.mem_filter.mpr ⟨hx,hp⟩,by rw [hf]; rfl⟩
    refine ⟨?_,dlt_le hW (hoc x hm),fun hw0=>by omega⟩
    unfold dlt
    rw [whole_smI]
    have h1:0 ≤ DV.part (R - smI cI ((it.filter posB).filter (fullB p q))) (smI wI ((it.filter posB).filter fun x=>!fullB p q x)) (wI x):=Int.ediv_nonneg (Int.mul_nonneg hR0 (Int.le_of_lt hw)) (Int.le_of_lt hW)
    split <;> omega
end B04
namespace B04
open PySem L2 S2
def spLRoom:Sp:=fun vs H Q _=>∃ (dI:Addr) (its:List It6) (z:Int),vs=[.ref dI,.int z]∧Rd H dI (.dK (kvR its))∧ItsOk H its∧∀ (R:Int) (H':Hp),Kr M0 H H'→0 ≤ R→R < 2 ^ 32→Q (.int R) H'
section
variable {P:Program} {w:World} {K:PySem.W.Frag} {mg:Str→Option Value} {base:Heap}
abbrev nLRoom:List Str:=["_law_items_here","_law_cell","_law_leasts","_law_wishes","_law_mosts"]
theorem scLRoom:FnScope nLRoom ["_law_items_here","_law_cell"] (defScope sLRoom):=⟨rfl,rfl,rfl,by decide +kernel,rfl,by decide +kernel,by decide +kernel⟩
set_option maxHeartbeats 16000000 in
theorem ok_lRoom {f:Addr} {fd:FuncData} (F:Fun K "_law_room" "_law_room" sLRoom f fd) (N:Names mg):FnOk P w K mg base CX0 1 f fd ["_law_items_here","_law_cell"] spLRoom:=by
 refine F.ok scLRoom (fun vs H Q E h=>?_) (fun cdv A outer s H vs Q E hr h=>?_)
 ·obtain ⟨dI,its,z,e,_⟩:=h
  rw [e]
  rfl
 ·obtain ⟨dI,its,z,e,hI,hok,k⟩:=h
  subst e
  refine ⟨_,pss_cons (ps_set (i:=2) scLRoom.nd rfl (Or.inl rfl) (pe_callB (call_sumL rfl) (by rfl) N.sum PyProof.Rows.boot_sum (pa_cons (pe_comp (compSc_mk (fs:=defScope sLRoom) (N:=nLRoom) rfl rfl (by decide +kernel)) rfl (pi_values (pv 0)) (fun _ _ _ _ _=>pts_nil) (fun _ _ _ _ _=>(pe_ix (r:=rIxT K) ix_tup (pv 0) pe_int (fun _ _=>rfl)))) pa_nil)))
   (pss_cons (ps_set (i:=3) scLRoom.nd rfl (Or.inl rfl) (pe_callB (call_sumL rfl) (by rfl) N.sum PyProof.Rows.boot_sum (pa_cons (pe_comp (compSc_mk (fs:=defScope sLRoom) (N:=nLRoom) rfl rfl (by decide +kernel)) rfl (pi_values (pv 0)) (fun _ _ _ _ _=>pts_nil) (fun _ _ _ _ _=>(pe_ix (r:=rIxT K) ix_tup (pv 0) pe_int (fun _ _=>rfl)))) pa_nil)))
   (pss_cons (ps_set (i:=4) scLRoom.nd rfl (Or.inl rfl) (pe_callB (call_sumL rfl) (by rfl) N.sum PyProof.Rows.boot_sum (pa_cons (pe_comp (compSc_mk (fs:=defScope sLRoom) (N:=nLRoom) rfl rfl (by decide +kernel)) rfl (pi_values (pv 0)) (fun _ _ _ _ _=>pts_nil) (fun _ _ _ _ _=>(pe_ix (r:=rIxT K) ix_tup (pv 0) pe_int (fun _ _=>rfl)))) pa_nil)))
   (pss_cons (ps_if (pt_cmpR op_eq (pe_op op_mod (pv 1) pe_int) pe_int (nomark _)) (pss_one (ps_ret (pe_op op_mod (pe_op op_mul (pe_op op_fdiv (pv 1) pe_int) pe_int) (pe_op op_add (pv 2) pe_int)))) pss_nil)
   (pss_cons (ps_if (pt_cmpR op_eq (pe_op op_mod (pv 1) pe_int) pe_int (nomark _)) (pss_one (ps_ret (pe_op op_add (pv 2) (pe_op op_mod (pe_op op_mul (pe_op op_fdiv (pv 1) pe_int) pe_int) (pe_op op_add (pe_op op_sub (pv 3) (pv 2)) pe_int))))) pss_nil)
   (pss_cons (ps_if (pt_cmpR op_eq (pe_op op_mod (pv 1) pe_int) pe_int (nomark _)) (pss_one (ps_ret (pe_op op_add (pv 3) (pe_op op_mod (pe_op op_mul (pe_op op_fdiv (pv 1) pe_int) pe_int) (pe_op op_add (pe_op op_sub (pv 4) (pv 3)) pe_int))))) pss_nil)
   (pss_one (ps_ret (pe_op op_mod (pe_op op_fdiv (pv 1) pe_int) (pe_op op_pow pe_int pe_int))))))))),?_⟩
  try rw [show (cxOf CX0 P w K mg base nLRoom "_law_room" (defScope sLRoom) f cdv A outer s H E).nox.K=K from rfl]
  have bd:∀ x ∈ its,0 ≤ cl 0 x∧cl 0 x ≤ cl 1 x∧cl 1 x ≤ cl 2 x∧cl 2 x ≤ 30000:=fun x hx=>by
   obtain ⟨a,b,c,d,_⟩:=hok.2.2.2 x hx
   exact ⟨a,b,c,d⟩
  have mono:∀ {u v:It6→Int},(∀ x ∈ its,u x ≤ v x)→sumI u its ≤ sumI v its:=fun {u v} h=>by
   unfold sumI
   clear bd hok hI k
   induction its with
   | nil=>exact Int.le_refl _
   | cons x l ih =>
    rw [List.map_cons,List.map_cons,List.sum_cons,List.sum_cons]
    have h1:=h x List.mem_cons_self
    have h2:=ih fun y hy=>h y (List.mem_cons_of_mem _ hy)
    omega
  obtain ⟨a0,a1⟩:=sumI_le (v:=cl 0) (B:=30000) (l:=its) fun x hx=>by have:=bd x hx; omega
  obtain ⟨b0,b1⟩:=sumI_le (v:=cl 1) (B:=30000) (l:=its) fun x hx=>by have:=bd x hx; omega
  obtain ⟨c0,c1⟩:=sumI_le (v:=cl 2) (B:=30000) (l:=its) fun x hx=>by have:=bd x hx; omega
  have m1:=mono (u:=cl 0) (v:=cl 1) fun x hx=>(bd x hx).2.1
  have m2:=mono (u:=cl 1) (v:=cl 2) fun x hx=>(bd x hx).2.2.1
  have e12:(30000:Int) * (its.length:Int) ≤ 600000:=by have:=hok.2.2.1; omega
  refine seq_abs fun N1 hN=>?_
  refine ⟨_,rfl,dI,_,rfl,hI,list_vals (cl 0) hI hok (fun x H' Q' hx hT hq=>⟨_,rfl,x.2.1,_,_,_,rfl,rfl,SqT.of hT,x.2.2.at (j:=0) (by decide),hq⟩) fun D1 H1 hD1 k1 h1=>⟨D1,_,rfl,SqL.of h1,?_⟩⟩
  refine hN _ _ ?_
  clear hN N1
  have hI1:=k1.rd (fun z=>z) hI
  have hok1:=k1.its0 hok
  refine seq_abs fun N1 hN=>?_
  refine ⟨_,rfl,dI,_,rfl,hI1,list_vals (cl 1) hI1 hok1 (fun x H' Q' hx hT hq=>⟨_,rfl,x.2.1,_,_,_,rfl,rfl,SqT.of hT,x.2.2.at (j:=1) (by decide),hq⟩) fun D2 H2 hD2 k2 h2=>⟨D2,_,rfl,SqL.of h2,?_⟩⟩
  refine hN _ _ ?_
  clear hN N1
  have hI2:=k2.rd (fun z=>z) hI1
  have hok2:=k2.its0 hok1
  refine seq_abs fun N1 hN=>?_
  refine ⟨_,rfl,dI,_,rfl,hI2,list_vals (cl 2) hI2 hok2 (fun x H' Q' hx hT hq=>⟨_,rfl,x.2.1,_,_,_,rfl,rfl,SqT.of hT,x.2.2.at (j:=2) (by decide),hq⟩) fun D3 H3 hD3 k3 h3=>⟨D3,_,rfl,SqL.of h3,?_⟩⟩
  refine hN _ _ ?_
  clear hN N1
  have kA:=k1.trans (k2.trans k3)
  clear h1 h2 h3 hI1 hI2 hok1 hok2 k1 k2 k3
  unfold sumI at *
  generalize (its.map (cl 0)).sum=s0 at *
  generalize (its.map (cl 1)).sum=s1 at *
  generalize (its.map (cl 2)).sum=s2 at *
  refine ⟨_,rfl,_,_,rfl,rfl,(by show (0:Int) < 4; decide),rfl,_,rfl,ite2 (fun _=>?_) (fun _=>?_)⟩
  ·have d1:=Int.emod_nonneg (z / 4 * 7) (show s0 + 1 ≠ 0 by omega)
   have d2:=Int.emod_lt_of_pos (z / 4 * 7) (show 0 < s0 + 1 by omega)
   exact ⟨_,rfl,_,_,rfl,rfl,⟨by decide,by decide⟩,_,_,rfl,rfl,.inr ⟨by decide,by decide⟩,_,rfl,_,_,rfl,rfl,_,_,rfl,rfl,(by show 0 < s0 + 1; omega),k _ _ kA d1 (by omega)⟩
  refine ⟨_,rfl,_,_,rfl,rfl,(by show (0:Int) < 4; decide),rfl,_,rfl,ite2 (fun _=>?_) (fun _=>?_)⟩
  ·have d1:=Int.emod_nonneg (z / 4 * 7) (show s1 - s0 + 1 ≠ 0 by omega)
   have d2:=Int.emod_lt_of_pos (z / 4 * 7) (show 0 < s1 - s0 + 1 by omega)
   exact ⟨_,rfl,_,rfl,_,_,rfl,rfl,⟨by decide,by decide⟩,_,_,rfl,rfl,.inr ⟨by decide,by decide⟩,_,rfl,_,rfl,_,_,rfl,rfl,_,_,rfl,rfl,_,_,rfl,rfl,(by show 0 < s1 - s0 + 1; omega),_,_,rfl,rfl,k _ _ kA (by omega) (by omega)⟩
  refine ⟨_,rfl,_,_,rfl,rfl,(by show (0:Int) < 4; decide),rfl,_,rfl,ite2 (fun _=>?_) (fun _=>?_)⟩
  ·have d1:=Int.emod_nonneg (z / 4 * 7) (show s2 - s1 + 20 ≠ 0 by omega)
   have d2:=Int.emod_lt_of_pos (z / 4 * 7) (show 0 < s2 - s1 + 20 by omega)
   exact ⟨_,rfl,_,rfl,_,_,rfl,rfl,⟨by decide,by decide⟩,_,_,rfl,rfl,.inr ⟨by decide,by decide⟩,_,rfl,_,rfl,_,_,rfl,rfl,_,_,rfl,rfl,_,_,rfl,rfl,(by show 0 < s2 - s1 + 20; omega),_,_,rfl,rfl,k _ _ kA (by omega) (by omega)⟩
  ·have e9:(10:Int) ^ (9:Int).toNat=1000000000:=by rfl
   have d1:=Int.emod_nonneg (z / 4) (show (1000000000:Int) ≠ 0 by decide)
   have d2:=Int.emod_lt_of_pos (z / 4) (show (0:Int) < 1000000000 by decide)
   rw [← e9] at d1 d2
   exact ⟨_,rfl,_,_,rfl,rfl,⟨by decide,by decide⟩,_,_,rfl,rfl,⟨by decide,by decide,by decide⟩,_,_,rfl,rfl,(by show (0:Int) < 10 ^ (9:Int).toNat; decide),k _ _ kA d1 (by rw [e9] at d2; omega)⟩
end
end B04
namespace L2
open PySem PySem.Spec PySem.W PyProof.Rows
section
variable {X:Cx}
theorem hits_same {A:Around} {s:Shared} {kvs:List (Key × V)} {vs:List (Key × Value)} (r2:KV kvs vs) (nd:(kvs.map (·.1)).Nodup) (hi:∀ kv ∈ kvs,(∃ n,kv.2=V.int n) ∨ ∃ a,kv.2=V.ref a) :
  ∀ (ks:List (Key × V)) (us:List (Key × Value)),KV ks us→(∀ kv ∈ ks,kv ∈ kvs)→KeqHits A s vs us true:=by
 intro ks us kv
 induction kv with
 | nil=>intro _; exact .nil
 | @cons p q l1 l2 h t ih =>
  intro sub
  have hp:=sub p (List.mem_cons_self ..)
  have e:valV kvs p.1=some p.2:=by
   clear ih h t r2 hi sub
   induction kvs with
   | nil=>cases hp
   | cons k kvs ih =>
    rcases List.mem_cons.mp hp with z | z
    ·rw [z]; exact valV_pos rfl
    ·rw [List.map_cons,List.nodup_cons] at nd
     rw [valV_neg (fun e=>nd.1 (by rw [e]; exact List.mem_map_of_mem z))]
     exact ih nd.2 z
  have rv:=r2.val p.1
  rw [e] at rv
  obtain ⟨q1,q2⟩:=q
  obtain ⟨e1,rq⟩:=h
  cases ev:valueAt vs p.1 with
  | none=>rw [ev] at rv; exact rv.elim
  | some y =>
   rw [ev] at rv
   have rv':RelV p.2 y:=rv
   have rq':RelV p.2 q2:=rq
   refine (KeqHits.hit (A:=A) (s:=s) (kb:=vs) (k:=q1) (v:=q2) (y:=y) (r:=l2) (e:=true) (by rw [← ev]; exact congrArg _ e1.symm) (fun P' w' E' Q' h'=>?_) (ih fun kv hk=>sub kv (List.mem_cons_of_mem _ hk)))
   rcases hi p hp with ⟨n,en⟩ | ⟨a,en⟩
   ·rw [en] at rv' rq'
    obtain ⟨t1,e2⟩:=rq'
    obtain ⟨t2,e3⟩:=rv'
    rw [e2,e3]
    exact wpAny_eqBool_int (by simpa using h')
   ·rw [en] at rv' rq'
    obtain rfl:q2=Value.ref a:=rq'
    obtain rfl:y=Value.ref a:=rv'
    exact SeqAt.EqAt.same (A:=A) (s:=s) (.ref a) P' w' E' Q' h'
def SameW (K:PySem.W.Frag) (H:Hp) (x y:V):Prop:=EqD K H 4 x y true ∨ ∃ a b kvs,x=.ref a∧y=.ref b∧Rd H a (.dK kvs)∧Rd H b (.dK kvs)∧∀ kv ∈ kvs,(∃ n,kv.2=V.int n) ∨ ∃ a,kv.2=V.ref a
theorem eqW_ofW {pins:List (Addr × Obj)} {σ:St} {H:Hp} {s:Shared} (I:Inv X pins σ H s) {A:Around} (hu:A.units + 4 < cLine) {x y:V} {u v:Value} (h:SameW X.K H x y) (rx:RelV x u) (ry:RelV y v):EqW X.prog X.w A s u v:=by
 rcases h with h | ⟨a,b,kvs,rfl,rfl,da,db,hi⟩
 ·exact fun E Q q=>eqD_at I h hu rx ry X.prog X.w E Q q
 ·intro E Q q
  obtain rfl:u=Value.ref a:=rx
  obtain rfl:v=Value.ref b:=ry
  by_cases ab:a=b
  ·subst ab
   exact SeqAt.EqAt.same (A:=A) (s:=s) (.ref a) X.prog X.w E Q q
  obtain ⟨z,ha,vs,r1,d1⟩:=dk_rd I.hok da
  obtain ⟨_,hb,us,r2,d2⟩:=dk_rd I.hok db
  have el:vs.length=us.length:=by rw [← r1.length,r2.length]
  unfold eqBool
  refine wpAny_holding ?_
  refine wpAny_ite_split (fun z=>absurd (by have:=eq_of_beq z; injection this) ab) (fun _=>?_)
  refine wpAny_bind (show wpAny _ _ (compareOp .Eq (.ref a) (.ref b)) _ _ _ from keq_eq ha hb d1 d2 (by omega) (fun _=>hits_same r2 (nodup_of (H:=H) r1 d1) hi kvs vs r1 fun _ h=>h) ?_)
  rw [el,beq_self_eq_true,Bool.and_true]
  exact wpAny_truthy_bool q
end
end L2
namespace B04
open PySem L2 S2
theorem putI {w:It6→Int} {l:List It6} (nd:(l.map (·.1)).Nodup) {i:Nat} {x:It6} (h:l[i]?=some x):putK (kvW (vI w (l.take i))) (.inr x.1) (.int (w x))=kvW (vI w (l.take (i + 1))):=by
 rw [putW_new (fun z=>?_)]
 ·rw [List.take_succ,h]
  unfold vI
  rw [List.map_append]
  rfl
 ·rw [vI_keys,List.map_take] at z
  exact take_nin nd (i:=i) (x:=x.1) (by rw [List.getElem?_map,h]; rfl) z
theorem sz_vI (sz:Itm→Int) (w c:It6→Int) (l:List It6):szI sz (toIt w c l)=vI (fun x=>sz (x.1,w x,c x)) l:=by unfold szI toIt vI; rw [List.map_map]; rfl
def spLLess:Sp:=fun vs H Q _=>∃ (dA dO:Addr) (l its:List It6) (u v:It6→Int),vs=[.ref dA,.ref dO]∧dA ≠ dO∧Rd H dA (.dK (kvW (vI u l)))∧Rd H dO (.dK (kvW (vI v its)))∧(∀ x ∈ l,x ∈ its)∧(l.map (·.1)).Nodup∧(its.map (·.1)).Nodup∧l.length ≤ 20 ∧
 ∀ (d:Addr) (H':Hp),H d=none→Kr M0 H H'→(∀ b w,b ≠ dA→H b=some w→H' b=some w)→H' d=some (.dK (kvW (vI (fun x=>u x - v x) l)))→Q (.ref d) H'
def spLOnes:Sp:=fun vs H Q _=>∃ (dA:Addr) (l:List It6) (u:It6→V),vs=[.ref dA]∧Rd H dA (.dK (kvG u l))∧(l.map (·.1)).Nodup∧l.length ≤ 20 ∧
 ∀ (d:Addr) (H':Hp),H d=none→Kr M0 H H'→(∀ b w,b ≠ dA→H b=some w→H' b=some w)→H' d=some (.dK (kvW (vI (fun _=>1) l)))→Q (.ref d) H'
def spLColumn:Sp:=fun vs H Q _=>∃ (dI:Addr) (its:List It6) (j:Nat),vs=[.ref dI,.int (j:Nat)]∧Rd H dI (.dK (kvR its))∧ItsOk H its∧j < 6 ∧
 ∀ (d:Addr) (H':Hp),H d=none→Kr M0 H H'→H' d=some (.dK (kvW (vI (fun x=>x.2.2.col j) its)))→Q (.ref d) H'
theorem kvG_dk {H:Hp} {d:Addr} {v:It6→Int} {l:List It6} (h:Rd H d (.dK (kvW (vI v l)))):Rd H d (.dK (kvG (fun x=>.int (v x)) l)):=by
 have e:kvW (vI v l)=kvG (fun x=>.int (v x)) l:=by unfold kvW vI kvG; rw [List.map_map]; rfl
 rw [← e]
 exact h
theorem val_kvG {u:It6→V}:∀ {l:List It6},(l.map (·.1)).Nodup→∀ {x:It6},x ∈ l→valV (kvG u l) (.inr x.1)=some (u x)
 | [],_,_,h=>nomatch h
 | p :: l,nd,x,h=>by
  rw [List.map_cons,List.nodup_cons] at nd
  show valV ((Sum.inr p.1,u p) :: kvG u l) (.inr x.1)=_
  rcases List.mem_cons.mp h with e | e
  ·rw [← e]
   exact valV_pos rfl
  ·rw [valV_neg (fun z=>nd.1 (by rw [Sum.inr.inj z]; exact List.mem_map_of_mem (f:=(·.1)) e))]
   exact val_kvG nd.2 e
theorem get_kvG {H:Hp} {d:Addr} {u:It6→V} {l:List It6} (hd:Rd H d (.dK (kvG u l))) (nd:(l.map (·.1)).Nodup) {x:It6} (h:x ∈ l):DGet H d (kV (.inr x.1)) (some (u x)):=by
 rw [← val_kvG nd h]
 exact .inl ⟨_,_,hd,rfl,rfl⟩
section
variable {P:Program} {w:World} {K:PySem.W.Frag} {mg:Str→Option Value} {base:Heap}
abbrev nLLess:List Str:=["_law_some","_law_others","_law_found","_law_name"]
theorem scLLess:FnScope nLLess ["_law_some","_law_others"] (defScope sLLess):=⟨rfl,rfl,rfl,by decide +kernel,rfl,by decide +kernel,by decide +kernel⟩
set_option maxHeartbeats 16000000 in
theorem ok_lLess {f:Addr} {fd:FuncData} (F:Fun K "_law_less" "_law_less" sLLess f fd) (N:Names mg):FnOk P w K mg base CX0 1 f fd ["_law_some","_law_others"] spLLess:=by
 refine F.ok scLLess (fun vs H Q E h=>?_) (fun cdv A outer s H vs Q E hr h=>?_)
 ·obtain ⟨dA,dO,l,its,u,v,e,_⟩:=h
  rw [e]
  rfl
 ·obtain ⟨dA,dO,l,its,u,v,e,nAO,hA,hO,hsub,nd,ndI,hl,k⟩:=h
  subst e
  have hu:(A.deeper (PyProof.Rows.envOfC "_law_less" (defScope sLLess) s.heap.objs.size f cdv)).units + 1 < cLine:=by have:=hr.units; omega
  refine ⟨_,pss_cons (ps_set (i:=2) scLLess.nd rfl (Or.inl rfl) pe_dnewK)
   (pss_cons (ps_for PassesOwn.never rfl (pi_keys (pv 0)) (pg_name (i:=3) scLLess.nd rfl (Or.inl rfl))
    (pss_one (ps_dput hu (pv 2) (pv 3) (pe_op op_sub (pe_dget hu (pv 0) (pv 3) (fun _ _=>rfl)) (pe_dget hu (pv 1) (pv 3) (fun _ _=>rfl))) rfl)))
   (pss_one (ps_ret (pv 2)))),?_⟩
  try rw [show (cxOf CX0 P w K mg base nLLess "_law_less" (defScope sLLess) f cdv A outer s H E).nox.K=K from rfl]
  refine seq_abs fun N1 hN=>?_
  intro dF hdF
  generalize hG:upd H dF _=H1
  have s1:Same H H1:=by rw [← hG]; exact Same.put (Same.refl _) hdF
  have h1:H1 dF=some (.dK []):=by rw [← hG]; exact upd_same
  clear hG
  refine hN _ _ ?_
  clear hN N1
  have hA1:=kvG_dk (hA.keep fun o e=>s1 _ _ e)
  have hO1:=hO.keep fun o e=>s1 _ _ e
  refine seq_abs fun N1 hN=>?_
  refine ⟨_,rfl,dA,_,rfl,hA1,fun o=>?_⟩
  have kf:Kr M0 H1 (upd H1 dA (.frz o (.dK (kvG (fun x=>.int (u x)) l)))):=.frz hA1
  have hq:(upd H1 dA (.frz o (.dK (kvG (fun x=>.int (u x)) l)))) dA=some (.frz o (.dK (kvG (fun x=>.int (u x)) l))):=upd_same
  have nFA:dF ≠ dA:=fun z=>by
   rw [z] at hdF
   rcases hA with y | ⟨_,y⟩ <;> (rw [hdF] at y; cases y)
  have h2:(upd H1 dA (.frz o (.dK (kvG (fun x=>.int (u x)) l)))) dF=some (.dK []):=by rw [upd_ne nFA]; exact h1
  have kx:∀ b w,b ≠ dA→H1 b=some w→(upd H1 dA (.frz o (.dK (kvG (fun x=>.int (u x)) l)))) b=some w:=fun b w hb e=>by rw [upd_ne hb]; exact e
  generalize upd H1 dA (.frz o (.dK (kvG (fun x=>.int (u x)) l)))=H2 at *
  have hO2:=kf.rd (fun z=>z) hO1
  have k02:Kr M0 H H2:=Kr.trans (.same s1) kf
  refine for_keys (a:=dA) (o:=o) (kvs:=kvG (fun x=>.int (u x)) l) (fun i σ G=>∃ (v3:Option V),σ=[some (.ref dA),some (.ref dO),some (.ref dF),v3]∧(∀ b w,b ≠ dF→H2 b=some w→G b=some w)∧G dF=some (.dK (kvW (vI (fun x=>u x - v x) (l.take i)))))
   ⟨none,rfl,fun _ _ _ e=>e,h2⟩ (fun i σ G _ h=>by obtain ⟨_,_,z,_⟩:=h; exact z _ _ (Ne.symm nFA) hq) ?_ ?_
  ·rintro i kk vv σ G hkv ⟨v3,rfl,kG,hF⟩
   obtain ⟨x,ex,rfl,rfl⟩:=kvG_at hkv
   have hx:=List.mem_of_getElem? ex
   have hAG:Rd G dA (.dK (kvG (fun x=>.int (u x)) l)):=.inr ⟨o,kG _ _ (Ne.symm nFA) hq⟩
   have hOG:Rd G dO (.dK (kvW (vI v its))):=hO2.keep fun o e=>kG _ _ (fun z=>by
    rw [z] at hO
    rcases hO with y | ⟨_,y⟩ <;> (rw [hdF] at y; cases y)) e
   refine ⟨_,rfl,_,rfl,dA,_,rfl,get_kvG hAG nd hx,_,rfl,_,rfl,dO,_,rfl,get_vI hOG ndI (hsub x hx),_,_,rfl,rfl,_,rfl,_,rfl,dF,_,rfl,DPut.k (k:=.inr x.1) hF (small (by rw [kvW_len,vI_len,List.length_take]; omega)),?_⟩
   refine (show ∃ v3,_ from ⟨_,rfl,fun b w hb e=>?_,?_⟩)
   ·rw [upd_ne hb]
    exact kG b w hb e
   ·exact upd_same.trans (congrArg (fun z=>some (HO.dK z)) (putI (w:=fun x=>u x - v x) nd ex))
  ·rintro σ G ⟨v3,rfl,kG,hF⟩
   rw [kvG_len,List.take_length] at hF
   refine hN _ _ ?_
   exact ⟨_,rfl,k dF G hdF (k02.fresh hdF kG) (fun b w hb e=>kG b w (ne_of_none e hdF) (kx b w hb (s1 _ _ e))) hF⟩
abbrev nLOnes:List Str:=["_law_names_here","_law_found","_law_name"]
theorem scLOnes:FnScope nLOnes ["_law_names_here"] (defScope sLOnes):=⟨rfl,rfl,rfl,by decide +kernel,rfl,by decide +kernel,by decide +kernel⟩
set_option maxHeartbeats 16000000 in
theorem ok_lOnes {f:Addr} {fd:FuncData} (F:Fun K "_law_ones" "_law_ones" sLOnes f fd) (N:Names mg):FnOk P w K mg base CX0 1 f fd ["_law_names_here"] spLOnes:=by
 refine F.ok scLOnes (fun vs H Q E h=>?_) (fun cdv A outer s H vs Q E hr h=>?_)
 ·obtain ⟨dA,l,u,e,_⟩:=h
  rw [e]
  rfl
 ·obtain ⟨dA,l,u,e,hA,nd,hl,k⟩:=h
  subst e
  have hu:(A.deeper (PyProof.Rows.envOfC "_law_ones" (defScope sLOnes) s.heap.objs.size f cdv)).units + 1 < cLine:=by have:=hr.units; omega
  refine ⟨_,pss_cons (ps_set (i:=1) scLOnes.nd rfl (Or.inl rfl) pe_dnewK)
   (pss_cons (ps_for PassesOwn.never rfl (pi_keys (pv 0)) (pg_name (i:=2) scLOnes.nd rfl (Or.inl rfl))
    (pss_one (ps_dput hu (pv 1) (pv 2) pe_int rfl)))
   (pss_one (ps_ret (pv 1)))),?_⟩
  try rw [show (cxOf CX0 P w K mg base nLOnes "_law_ones" (defScope sLOnes) f cdv A outer s H E).nox.K=K from rfl]
  refine seq_abs fun N1 hN=>?_
  intro dF hdF
  generalize hG:upd H dF _=H1
  have s1:Same H H1:=by rw [← hG]; exact Same.put (Same.refl _) hdF
  have h1:H1 dF=some (.dK []):=by rw [← hG]; exact upd_same
  clear hG
  refine hN _ _ ?_
  clear hN N1
  have hA1:=hA.keep fun o e=>s1 _ _ e
  refine seq_abs fun N1 hN=>?_
  refine ⟨_,rfl,dA,_,rfl,hA1,fun o=>?_⟩
  have kf:Kr M0 H1 (upd H1 dA (.frz o (.dK (kvG u l)))):=.frz hA1
  have hq:(upd H1 dA (.frz o (.dK (kvG u l)))) dA=some (.frz o (.dK (kvG u l))):=upd_same
  have nFA:dF ≠ dA:=fun z=>by
   rw [z] at hdF
   rcases hA with y | ⟨_,y⟩ <;> (rw [hdF] at y; cases y)
  have h2:(upd H1 dA (.frz o (.dK (kvG u l)))) dF=some (.dK []):=by rw [upd_ne nFA]; exact h1
  have kx:∀ b w,b ≠ dA→H1 b=some w→(upd H1 dA (.frz o (.dK (kvG u l)))) b=some w:=fun b w hb e=>by rw [upd_ne hb]; exact e
  generalize upd H1 dA (.frz o (.dK (kvG u l)))=H2 at *
  have k02:Kr M0 H H2:=Kr.trans (.same s1) kf
  refine for_keys (a:=dA) (o:=o) (kvs:=kvG u l) (fun i σ G=>∃ (v2:Option V),σ=[some (.ref dA),some (.ref dF),v2]∧(∀ b w,b ≠ dF→H2 b=some w→G b=some w)∧G dF=some (.dK (kvW (vI (fun _=>1) (l.take i)))))
   ⟨none,rfl,fun _ _ _ e=>e,h2⟩ (fun i σ G _ h=>by obtain ⟨_,_,z,_⟩:=h; exact z _ _ (Ne.symm nFA) hq) ?_ ?_
  ·rintro i kk vv σ G hkv ⟨v2,rfl,kG,hF⟩
   obtain ⟨x,ex,rfl,rfl⟩:=kvG_at hkv
   refine ⟨_,rfl,_,rfl,dF,_,rfl,DPut.k (k:=.inr x.1) hF (small (by rw [kvW_len,vI_len,List.length_take]; omega)),?_⟩
   refine (show ∃ v2,_ from ⟨_,rfl,fun b w hb e=>?_,?_⟩)
   ·rw [upd_ne hb]
    exact kG b w hb e
   ·exact upd_same.trans (congrArg (fun z=>some (HO.dK z)) (putI (w:=fun _=>1) nd ex))
  ·rintro σ G ⟨v2,rfl,kG,hF⟩
   rw [kvG_len,List.take_length] at hF
   refine hN _ _ ?_
   exact ⟨_,rfl,k dF G hdF (k02.fresh hdF kG) (fun b w hb e=>kG b w (ne_of_none e hdF) (kx b w hb (s1 _ _ e))) hF⟩
abbrev nLColumn:List Str:=["_law_items_here","_law_at_here","_law_found","_law_name"]
theorem scLColumn:FnScope nLColumn ["_law_items_here","_law_at_here"] (defScope sLColumn):=⟨rfl,rfl,rfl,by decide +kernel,rfl,by decide +kernel,by decide +kernel⟩
set_option maxHeartbeats 16000000 in
theorem ok_lColumn {f:Addr} {fd:FuncData} (F:Fun K "_law_column" "_law_column" sLColumn f fd) (N:Names mg):FnOk P w K mg base CX0 1 f fd ["_law_items_here","_law_at_here"] spLColumn:=by
 refine F.ok scLColumn (fun vs H Q E h=>?_) (fun cdv A outer s H vs Q E hr h=>?_)
 ·obtain ⟨dI,its,j,e,_⟩:=h
  rw [e]
  rfl
 ·obtain ⟨dI,its,j,e,hI,hok,hj,k⟩:=h
  subst e
  have hu:(A.deeper (PyProof.Rows.envOfC "_law_column" (defScope sLColumn) s.heap.objs.size f cdv)).units + 1 < cLine:=by have:=hr.units; omega
  refine ⟨_,pss_cons (ps_set (i:=2) scLColumn.nd rfl (Or.inl rfl) pe_dnewK)
   (pss_cons (ps_for PassesOwn.never rfl (pi_keys (pv 0)) (pg_name (i:=3) scLColumn.nd rfl (Or.inl rfl))
    (pss_one (ps_dput hu (pv 2) (pv 3) (pe_ix ix_tup (pe_dget hu (pv 0) (pv 3) (fun _ _=>rfl)) (pv 1) (fun _ _=>rfl)) rfl)))
   (pss_one (ps_ret (pv 2)))),?_⟩
  try rw [show (cxOf CX0 P w K mg base nLColumn "_law_column" (defScope sLColumn) f cdv A outer s H E).nox.K=K from rfl]
  have nd:=hok.2.1
  have hl:its.length ≤ 20:=hok.2.2.1
  refine seq_abs fun N1 hN=>?_
  intro dF hdF
  generalize hG:upd H dF _=H1
  have s1:Same H H1:=by rw [← hG]; exact Same.put (Same.refl _) hdF
  have h1:H1 dF=some (.dK []):=by rw [← hG]; exact upd_same
  clear hG
  refine hN _ _ ?_
  clear hN N1
  have hI1:Rd H1 dI (.dK (kvG (fun x=>.ref x.2.1) its)):=hI.keep fun o e=>s1 _ _ e
  refine seq_abs fun N1 hN=>?_
  refine ⟨_,rfl,dI,_,rfl,hI1,fun o=>?_⟩
  have kf:Kr M0 H1 (upd H1 dI (.frz o (.dK (kvG (fun x=>.ref x.2.1) its)))):=.frz hI1
  have hq:(upd H1 dI (.frz o (.dK (kvG (fun x=>.ref x.2.1) its)))) dI=some (.frz o (.dK (kvG (fun x=>.ref x.2.1) its))):=upd_same
  have nFA:dF ≠ dI:=fun z=>by
   rw [z] at hdF
   rcases hI with y | ⟨_,y⟩ <;> (rw [hdF] at y; cases y)
  have h2:(upd H1 dI (.frz o (.dK (kvG (fun x=>.ref x.2.1) its)))) dF=some (.dK []):=by rw [upd_ne nFA]; exact h1
  generalize upd H1 dI (.frz o (.dK (kvG (fun x=>.ref x.2.1) its)))=H2 at *
  have k02:Kr M0 H H2:=Kr.trans (.same s1) kf
  have hok2:=k02.its0 hok
  refine for_keys (a:=dI) (o:=o) (kvs:=kvG (fun x=>.ref x.2.1) its) (fun i σ G=>∃ (v3:Option V),σ=[some (.ref dI),some (.int (j:Nat)),some (.ref dF),v3]∧(∀ b w,b ≠ dF→H2 b=some w→G b=some w)∧G dF=some (.dK (kvW (vI (fun x=>x.2.2.col j) (its.take i)))))
   ⟨none,rfl,fun _ _ _ e=>e,h2⟩ (fun i σ G _ h=>by obtain ⟨_,_,z,_⟩:=h; exact z _ _ (Ne.symm nFA) hq) ?_ ?_
  ·rintro i kk vv σ G hkv ⟨v3,rfl,kG,hF⟩
   obtain ⟨x,ex,rfl,rfl⟩:=kvG_at hkv
   have hx:=List.mem_of_getElem? ex
   have hIG:Rd G dI (.dK (kvG (fun x=>.ref x.2.1) its)):=.inr ⟨o,kG _ _ (Ne.symm nFA) hq⟩
   have hT:G x.2.1=some (.tup x.2.2.vs):=kG _ _ (fun z=>by
    have e:=hok2.1 x hx
    rw [z,h2] at e
    cases e) (hok2.1 x hx)
   refine ⟨_,rfl,_,rfl,dI,_,rfl,get_kvG hIG nd hx,_,rfl,x.2.1,_,_,_,rfl,rfl,SqT.of hT,x.2.2.at hj,_,rfl,_,rfl,dF,_,rfl,DPut.k (k:=.inr x.1) hF (small (by rw [kvW_len,vI_len,List.length_take]; omega)),?_⟩
   refine (show ∃ v3,_ from ⟨_,rfl,fun b w hb e=>?_,?_⟩)
   ·rw [upd_ne hb]
    exact kG b w hb e
   ·exact upd_same.trans (congrArg (fun z=>some (HO.dK z)) (putI (w:=fun x=>x.2.2.col j) nd ex))
  ·rintro σ G ⟨v3,rfl,kG,hF⟩
   rw [kvG_len,List.take_length] at hF
   refine hN _ _ ?_
   exact ⟨_,rfl,k dF G hdF (k02.fresh hdF kG) hF⟩
end
end B04
namespace B04
open PySem L2 S2
def spLGrown:Sp:=fun vs H Q _=>∃ (dI dS:Addr) (its:List It6) (sz:It6→Int) (ov:Int),vs=[.ref dI,.ref dS,.int ov]∧dI ≠ dS∧Rd H dI (.dK (kvR its))∧ItsOk H its∧Rd H dS (.dK (kvW (vI sz its)))∧(∀ x ∈ its,cl 1 x ≤ sz x∧sz x ≤ cl 2 x∧(cl 3 x=0→sz x=cl 1 x)∧(0 < ov→0 < cl 3 x→sz x=cl 2 x)) ∧
 ∀ H':Hp,Kr M0 H H'→Q (.bl true) H'
section
variable {P:Program} {w:World} {K:PySem.W.Frag} {mg:Str→Option Value} {base:Heap}
abbrev nLGrown:List Str:=["_law_items_here","_law_sizes","_law_over","_law_name","_law_least","_law_wish","_law_most","_law_grow","_law_shrink","_law_rank"]
theorem scLGrown:FnScope nLGrown ["_law_items_here","_law_sizes","_law_over"] (defScope sLGrown):=⟨rfl,rfl,rfl,by decide +kernel,rfl,by decide +kernel,by decide +kernel⟩
set_option maxHeartbeats 16000000 in
theorem ok_lGrown {f:Addr} {fd:FuncData} (F:Fun K "_law_grown" "_law_grown" sLGrown f fd) (N:Names mg):FnOk P w K mg base CX0 1 f fd ["_law_items_here","_law_sizes","_law_over"] spLGrown:=by
 refine F.ok scLGrown (fun vs H Q E h=>?_) (fun cdv A outer s H vs Q E hr h=>?_)
 ·obtain ⟨dI,dS,its,sz,ov,e,_⟩:=h
  rw [e]
  rfl
 ·obtain ⟨dI,dS,its,sz,ov,e,nIS,hI,hok,hS,hg,k⟩:=h
  subst e
  have hu:(A.deeper (PyProof.Rows.envOfC "_law_grown" (defScope sLGrown) s.heap.objs.size f cdv)).units + 1 < cLine:=by have:=hr.units; omega
  refine ⟨_,pss_cons (ps_for PassesOwn.never rfl (pi_keys (pv 0)) (pg_name (i:=3) scLGrown.nd rfl (Or.inl rfl))
    (pss_cons (ps_asg (pe_dget hu (pv 0) (pv 3) (fun _ _=>rfl)) (pg_tup rfl (pgs_cons (pg_name (i:=4) scLGrown.nd rfl (Or.inl rfl)) (pgs_cons (pg_name (i:=5) scLGrown.nd rfl (Or.inl rfl)) (pgs_cons (pg_name (i:=6) scLGrown.nd rfl (Or.inl rfl)) (pgs_cons (pg_name (i:=7) scLGrown.nd rfl (Or.inl rfl)) (pgs_cons (pg_name (i:=8) scLGrown.nd rfl (Or.inl rfl)) (pgs_cons (pg_name (i:=9) scLGrown.nd rfl (Or.inl rfl)) pgs_nil))))))))
    (pss_cons (ps_if (pw_or (pt_cmpR op_lt (pe_dget hu (pv 1) (pv 3) (fun _ _=>rfl)) (pv 5) (nomark _)) (pw_or (pt_cmpR op_gt (pe_dget hu (pv 1) (pv 3) (fun _ _=>rfl)) (pv 6) (nomark _)) (pw_or1 (pw_and (pt_cmpR op_eq (pv 7) pe_int (nomark _)) (pw_and1 (pt_cmpR op_ne (pe_dget hu (pv 1) (pv 3) (fun _ _=>rfl)) (pv 5) (nomark _)))).pt))).pt (pss_one (ps_ret pe_bl)) pss_nil)
    (pss_one (ps_if (pw_and (pt_cmpR op_gt (pv 2) pe_int (nomark _)) (pw_and (pt_cmpR op_gt (pv 7) pe_int (nomark _)) (pw_and1 (pt_cmpR op_ne (pe_dget hu (pv 1) (pv 3) (fun _ _=>rfl)) (pv 6) (nomark _))))).pt (pss_one (ps_ret pe_bl)) pss_nil)))))
   (pss_one (ps_ret pe_bl)),?_⟩
  try rw [show (cxOf CX0 P w K mg base nLGrown "_law_grown" (defScope sLGrown) f cdv A outer s H E).nox.K=K from rfl]
  have nd:=hok.2.1
  have hI1:Rd H dI (.dK (kvG (fun x=>.ref x.2.1) its)):=hI
  refine seq_abs fun N1 hN=>?_
  refine ⟨_,rfl,dI,_,rfl,hI1,fun o=>?_⟩
  have kf:Kr M0 H (upd H dI (.frz o (.dK (kvG (fun x=>.ref x.2.1) its)))):=.frz hI1
  have hq:(upd H dI (.frz o (.dK (kvG (fun x=>.ref x.2.1) its)))) dI=some (.frz o (.dK (kvG (fun x=>.ref x.2.1) its))):=upd_same
  generalize upd H dI (.frz o (.dK (kvG (fun x=>.ref x.2.1) its)))=H2 at *
  have hok2:=kf.its0 hok
  have hS2:=kf.rd (fun z=>z) hS
  refine for_keys (a:=dI) (o:=o) (kvs:=kvG (fun x=>.ref x.2.1) its) (fun i σ G=>∃ (v3 v4 v5 v6 v7 v8 v9:Option V),σ=[some (.ref dI),some (.ref dS),some (.int ov),v3,v4,v5,v6,v7,v8,v9]∧Same H2 G)
   ⟨none,none,none,none,none,none,none,rfl,Same.refl _⟩ (fun i σ G _ h=>by obtain ⟨_,_,_,_,_,_,_,_,z⟩:=h; exact z _ _ hq) ?_ ?_
  ·rintro i kk vv σ G hkv ⟨v3,v4,v5,v6,v7,v8,v9,rfl,sG⟩
   obtain ⟨x,ex,rfl,rfl⟩:=kvG_at hkv
   have hx:=List.mem_of_getElem? ex
   have hT:G x.2.1=some (.tup x.2.2.vs):=sG _ _ (hok2.1 x hx)
   have hSG:Rd G dS (.dK (kvW (vI sz its))):=hS2.keep fun o e=>sG _ _ e
   obtain ⟨g1,g2,g3,g4⟩:=hg x hx
   have gS:=get_vI hSG nd hx
   refine seq_abs fun N2 hN2=>?_
   refine ⟨_,rfl,_,rfl,dI,_,rfl,get_kvG (.inr ⟨o,sG _ _ hq⟩) nd hx,x.2.1,_,rfl,SqT.of hT,rfl,_,_,rfl,_,_,rfl,_,_,rfl,_,_,rfl,_,_,rfl,_,_,rfl,rfl,?_⟩
   refine hN2 _ _ ?_
   clear hN2 N2
   have g1:x.2.2.wi ≤ sz x:=g1
   have g2:sz x ≤ x.2.2.mo:=g2
   have g3:x.2.2.gr=0→sz x=x.2.2.wi:=g3
   have g4:0 < ov→0 < x.2.2.gr→sz x=x.2.2.mo:=g4
   refine seq_abs fun N2 hN2=>?_
   refine ⟨_,rfl,_,rfl,dS,_,rfl,gS,_,rfl,_,_,rfl,rfl,_,rfl,iteC (decide_eq_false (by show ¬ sz x < x.2.2.wi; omega)) ?_⟩
   refine ⟨_,rfl,_,rfl,dS,_,rfl,gS,_,rfl,_,_,rfl,rfl,_,rfl,iteC (decide_eq_false (by show ¬ x.2.2.mo < sz x; omega)) ?_⟩
   have fin:N2 [some (.ref dI),some (.ref dS),some (.int ov),some (.str x.1),some (.int x.2.2.le),some (.int x.2.2.wi),some (.int x.2.2.mo),some (.int x.2.2.gr),some (.int x.2.2.sh),some (.int x.2.2.ra)] G:=by
    refine hN2 _ _ ?_
    clear hN2 N2
    have nx:∃ (v3 v4 v5 v6 v7 v8 v9:Option V),[some (V.ref dI),some (.ref dS),some (.int ov),some (.str x.1),some (.int x.2.2.le),some (.int x.2.2.wi),some (.int x.2.2.mo),some (.int x.2.2.gr),some (.int x.2.2.sh),some (.int x.2.2.ra)]=[some (.ref dI),some (.ref dS),some (.int ov),v3,v4,v5,v6,v7,v8,v9]∧Same H2 G:=⟨_,_,_,_,_,_,_,rfl,sG⟩
    refine ⟨_,rfl,_,_,rfl,rfl,_,rfl,ite2 (fun h1=>?_) (fun _=>iteF nx)⟩
    refine ⟨_,rfl,_,_,rfl,rfl,_,rfl,ite2 (fun h2=>?_) (fun _=>iteF nx)⟩
    refine ⟨_,rfl,_,rfl,dS,_,rfl,gS,_,rfl,rfl,_,rfl,iteC ?_ nx⟩
    rw [g4 (of_decide_eq_true h1) (of_decide_eq_true h2)]
    simp
   refine ⟨_,rfl,rfl,_,rfl,ite2 (fun h=>?_) (fun h=>iteF fin)⟩
   have h0:x.2.2.gr=0:=by
    have:=of_decide_eq_true h
    injection this
   refine ⟨_,rfl,_,rfl,dS,_,rfl,gS,_,rfl,rfl,_,rfl,iteC ?_ fin⟩
   rw [g3 h0]
   simp
  ·rintro σ G ⟨v3,v4,v5,v6,v7,v8,v9,rfl,sG⟩
   refine hN _ _ ?_
   exact k G (kf.trans (.same sG))
end
end B04
namespace B04
open PySem L2 S2
theorem sumI_cons (v:It6→Int) (x:It6) (l:List It6):sumI v (x :: l)=v x + sumI v l:=by unfold sumI; rw [List.map_cons,List.sum_cons]
theorem sumI_eq {u v:It6→Int}:∀ {l:List It6},(∀ x ∈ l,u x=v x)→sumI u l=sumI v l
 | [],_=>rfl
 | x :: l,h=>by rw [sumI_cons,sumI_cons,h x List.mem_cons_self,sumI_eq fun y hy=>h y (List.mem_cons_of_mem _ hy)]
theorem sumI_mono {u v:It6→Int}:∀ {l:List It6},(∀ x ∈ l,u x ≤ v x)→sumI u l ≤ sumI v l
 | [],_=>Int.le_refl _
 | x :: l,h=>by
  have h1:=h x List.mem_cons_self
  have h2:=sumI_mono fun y hy=>h y (List.mem_cons_of_mem x hy)
  rw [sumI_cons,sumI_cons]
  omega
theorem sumI_tight {u v:It6→Int}:∀ {l:List It6},(∀ x ∈ l,u x ≤ v x)→sumI v l ≤ sumI u l→∀ x ∈ l,u x=v x
 | [],_,_,_,hx=>nomatch hx
 | y :: l,h,hs,x,hx=>by
  have h1:=h y List.mem_cons_self
  have h2:∀ z ∈ l,u z ≤ v z:=fun z hz=>h z (List.mem_cons_of_mem _ hz)
  have h3:=sumI_mono h2
  rw [sumI_cons,sumI_cons] at hs
  rcases List.mem_cons.mp hx with e | e
  ·subst e
   omega
  ·exact sumI_tight h2 (by omega) x e
theorem sumI_add (u v:It6→Int):∀ l:List It6,sumI (fun x=>u x + v x) l=sumI u l + sumI v l
 | []=>rfl
 | x :: l=>by rw [sumI_cons,sumI_cons,sumI_cons,sumI_add u v l]; omega
theorem sumI_sub (u v:It6→Int):∀ l:List It6,sumI (fun x=>u x - v x) l=sumI u l - sumI v l
 | []=>rfl
 | x :: l=>by rw [sumI_cons,sumI_cons,sumI_cons,sumI_sub u v l]; omega
theorem sumI_zero {u:It6→Int}:∀ {l:List It6},(∀ x ∈ l,u x=0)→sumI u l=0
 | [],_=>rfl
 | x :: l,h=>by rw [sumI_cons,h x List.mem_cons_self,sumI_zero fun y hy=>h y (List.mem_cons_of_mem _ hy)]; rfl
theorem sumI_nonneg {u:It6→Int} {l:List It6} (h:∀ x ∈ l,0 ≤ u x):0 ≤ sumI u l:=by
 have:=sumI_mono (u:=fun _=>0) (v:=u) (l:=l) h
 rw [sumI_zero (u:=fun _=>0) fun _ _=>rfl] at this
 exact this
theorem sumI_split (u:It6→Int) (f:It6→Bool):∀ l:List It6,sumI u l=sumI u (l.filter f) + sumI u (l.filter fun x=>!f x)
 | []=>rfl
 | x :: l=>by
  rw [sumI_cons,sumI_split u f l]
  cases e:f x with
  | true=>rw [List.filter_cons_of_pos e,List.filter_cons_of_neg (by rw [e]; exact Bool.false_ne_true),sumI_cons]; omega
  | false=>rw [List.filter_cons_of_neg (by rw [e]; exact Bool.false_ne_true),List.filter_cons_of_pos (by rw [e]; rfl),sumI_cons]; omega
theorem smI_toIt (g:Itm→Int) (w c:It6→Int):∀ l:List It6,smI g (toIt w c l)=sumI (fun x=>g (x.1,w x,c x)) l
 | []=>rfl
 | x :: l=>by
  show smI g ((x.1,w x,c x) :: toIt w c l)=_
  rw [smI_cons,sumI_cons,smI_toIt g w c l]
theorem smI_pos0 {it:List Itm} {sz:Itm→Int} (hw:∀ x ∈ it,0 ≤ wI x) (h:∀ x ∈ it,wI x=0→sz x=0):smI sz (it.filter posB)=smI sz it:=by
 rw [smI_split sz posB it,smI_zero (l:=it.filter fun x=>!posB x) (fun x hx=>?_),Int.add_zero]
 have h1:=memF hx
 have h2:=(List.mem_filter.mp hx).2
 have h3:=hw x h1
 refine h x h1 ?_
 cases e:posB x with
 | true=>rw [e] at h2; cases h2
 | false =>
  have:=of_decide_eq_false e
  omega
theorem pour_sum {w c:It6→Int} {s:Str→Int} {l:List It6} {R:Int} {lv:Option (Nat × Nat)} (hIn:InB (toIt w c l)) (hR:0 ≤ R) (h:PourP (toIt w c l) R (fun y=>s y.1) lv) :
  (∀ x ∈ l,0 ≤ s x.1∧s x.1 ≤ c x∧(w x=0→s x.1=0))∧((sumI (fun x=>s x.1) l ≤ R∧∀ x ∈ l,0 < w x→s x.1=c x) ∨ sumI (fun x=>s x.1) l=R):=by
 obtain ⟨h1,h2⟩:=pour_range hIn hR h
 have g1:∀ x ∈ l,0 ≤ s x.1∧s x.1 ≤ c x∧(w x=0→s x.1=0):=fun x hx=>h1 _ (List.mem_map_of_mem (f:=fun x:It6=>(x.1,w x,c x)) hx)
 have hw:∀ x ∈ toIt w c l,0 ≤ wI x:=fun x hx=>(hIn.2.2 x hx).1
 have e:smI (fun y=>s y.1) ((toIt w c l).filter posB)=sumI (fun x=>s x.1) l:=by
  rw [smI_pos0 hw fun x hx=>(h1 x hx).2.2,smI_toIt]
 refine ⟨g1,?_⟩
 rcases h2 with ⟨a,b⟩ | b
 ·refine .inl ⟨?_,fun x hx=>b _ (List.mem_map_of_mem (f:=fun x:It6=>(x.1,w x,c x)) hx)⟩
  have e9:smI (fun y=>s y.1) ((toIt w c l).filter posB)=smI cI ((toIt w c l).filter posB):=smI_eq fun x hx=>b x (memF hx) (of_decide_eq_true (p:=0 < wI x) (List.mem_filter.mp hx).2)
  rw [← e,e9]
  exact a
 ·exact .inr (by rw [← e]; exact b)
theorem pour_uniq {it:List Itm} {R:Int} {sz sz':Itm→Int} {l l':Option (Nat × Nat)} (hIn:InB it) (hR:0 ≤ R) (h:PourP it R sz l) (h':PourP it R sz' l'):l=l'∧∀ x ∈ it,sz x=sz' x:=by
 have hc:∀ x ∈ it,0 ≤ cI x:=fun x hx=>(hIn.2.2 x hx).2.2.1
 obtain ⟨a,b,_⟩:=pour_same (fun _=>true) (filter_T _).symm (fun _ _ z=>nomatch z) hR hc hc h h'
 refine ⟨a,fun x hx=>?_⟩
 cases e:posB x with
 | true=>exact b x (List.mem_filter.mpr ⟨hx,e⟩)
 | false =>
  have h0:wI x=0:=by
   have h1:=of_decide_eq_false e
   have h2:=(hIn.2.2 x hx).1
   omega
  rw [((pour_range hIn hR h).1 x hx).2.2 h0,((pour_range hIn hR h').1 x hx).2.2 h0]
theorem shp_uniq {its:List It6} {pl:Pl} {c c':Str→Int} {ls ls':List (Option (Nat × Nat))} (ok:PlOk its pl) (h:ShP its pl c ls) (h':ShP its pl c' ls'):ls=ls'∧c=c':=by
 have key:∀ (i:Nat) (p:Po) (l l':Option (Nat × Nat)),pl.ps[i]?=some p→ls[i]?=some l→ls'[i]?=some l'→l=l'∧∀ y ∈ p.it,c y.1=c' y.1:=fun i p l l' e e1 e2=>by
  obtain ⟨q1,q2,_⟩:=ok.po p (List.mem_of_getElem? e)
  exact pour_uniq q1 q2 (h.2.1 i p l e e1) (h'.2.1 i p l' e e2)
 refine ⟨List.ext_getElem? fun i=>?_,funext fun n=>?_⟩
 ·cases e:pl.ps[i]? with
  | none =>
   have h1:=List.getElem?_eq_none_iff.mp e
   rw [List.getElem?_eq_none_iff.mpr (by rw [h.1]; exact h1),List.getElem?_eq_none_iff.mpr (by rw [h'.1]; exact h1)]
  | some p =>
   have h1:=get_lt e
   have t1:i < ls.length:=by rw [h.1]; exact h1
   have t2:i < ls'.length:=by rw [h'.1]; exact h1
   have e1:ls[i]?=some ls[i]:=List.getElem?_eq_getElem t1
   have e2:ls'[i]?=some ls'[i]:=List.getElem?_eq_getElem t2
   rw [e1,e2,(key i p _ _ e e1 e2).1]
 ·by_cases q:∃ p ∈ pl.ps,∃ y ∈ p.it,y.1=n
  ·obtain ⟨p,hp,y,hy,rfl⟩:=q
   obtain ⟨i,hi⟩:=List.getElem?_of_mem hp
   have h1:=get_lt hi
   exact (key i p _ _ hi (List.getElem?_eq_getElem (by rw [h.1]; exact h1)) (List.getElem?_eq_getElem (by rw [h'.1]; exact h1))).2 y hy
  ·have q1:∀ p ∈ pl.ps,∀ y ∈ p.it,y.1 ≠ n:=fun p hp y hy e=>q ⟨p,hp,y,hy,e⟩
   rw [h.2.2 n q1,h'.2.2 n q1]
theorem shp_at {its:List It6} {pl:Pl} {c:Str→Int} {ls:List (Option (Nat × Nat))} (h:ShP its pl c ls) {p:Po} (hp:p ∈ pl.ps):∃ l,PourP p.it p.R (fun y=>c y.1) l:=by
 obtain ⟨i,hi⟩:=List.getElem?_of_mem hp
 exact ⟨_,h.2.1 i p _ hi (List.getElem?_eq_getElem (by rw [h.1]; exact get_lt hi))⟩
theorem grow_facts {its:List It6} {R:Int} {c:Str→Int} {ls:List (Option (Nat × Nat))} (ok:PlOk its (plGrow R its)) (h:ShP its (plGrow R its) c ls) :
  ls.length=1∧0 ≤ R - sumI (szF (plGrow R its) c) its∧∀ x ∈ its,cl 1 x ≤ szF (plGrow R its) c x∧szF (plGrow R its) c x ≤ cl 2 x∧(cl 3 x=0→szF (plGrow R its) c x=cl 1 x)∧(0 < R - sumI (szF (plGrow R its) c) its→0 < cl 3 x→szF (plGrow R its) c x=cl 2 x):=by
 have hm:(⟨R - sumI (cl 1) its,toIt (cl 3) (fun x=>cl 2 x - cl 1 x) its⟩:Po) ∈ (plGrow R its).ps:=List.mem_cons_self
 obtain ⟨l,hP⟩:=shp_at h hm
 obtain ⟨q1,q2,_⟩:=ok.po _ hm
 obtain ⟨a,b⟩:=pour_sum q1 q2 hP
 have e:∀ x,szF (plGrow R its) c x=cl 1 x + c x.1:=fun x=>by
  show cl 1 x + 1 * c x.1=_
  rw [Int.one_mul]
 have es:sumI (szF (plGrow R its) c) its=sumI (cl 1) its + sumI (fun x=>c x.1) its:=by
  rw [← sumI_add]
  exact sumI_eq fun x _=>e x
 refine ⟨h.1,?_,fun x hx=>?_⟩
 ·rw [es]
  rcases b with ⟨b,_⟩ | b <;> (have b':=b; dsimp only at b'; omega)
 ·obtain ⟨a1,a2,a3⟩:=a x hx
  have a2:c x.1 ≤ cl 2 x - cl 1 x:=a2
  rw [es,e]
  refine ⟨by omega,by omega,fun z=>by rw [a3 z]; omega,fun z1 z2=>?_⟩
  rcases b with ⟨_,b⟩ | b
  ·have:c x.1=cl 2 x - cl 1 x:=b x hx z2
   omega
  ·have b:sumI (fun x=>c x.1) its=R - sumI (cl 1) its:=b
   omega
theorem shrink_facts {its:List It6} {R:Int} {c:Str→Int} {ls:List (Option (Nat × Nat))} (ok:PlOk its (plShrink R its)) (nd:(its.map (·.1)).Nodup) (hk:∀ x ∈ its,x.2.2.Ok) (h0:sumI (cl 0) its ≤ R) (h1:R < sumI (cl 1) its) (h:ShP its (plShrink R its) c ls) :
  (ls.length=1 ∨ ls.length=2)∧R - sumI (szF (plShrink R its) c) its=0∧(∀ x ∈ its,cl 0 x ≤ szF (plShrink R its) c x∧szF (plShrink R its) c x ≤ cl 1 x) ∧
  ((∀ x ∈ its,cl 4 x=0→szF (plShrink R its) c x=cl 1 x) ∨ ∀ x ∈ its,0 < cl 4 x→szF (plShrink R its) c x=cl 0 x):=by
 have hk4:∀ x ∈ its,0 ≤ cl 4 x∧cl 0 x ≤ cl 1 x:=fun x hx=>by
  obtain ⟨a,b,_,_,_,_,d,_⟩:=hk x hx
  exact ⟨d,b⟩
 have e:∀ x,szF (plShrink R its) c x=cl 1 x - c x.1:=fun x=>by
  show cl 1 x + -1 * c x.1=_
  omega
 have es:sumI (szF (plShrink R its) c) its=sumI (cl 1) its - sumI (fun x=>c x.1) its:=by
  rw [← sumI_sub]
  exact sumI_eq fun x _=>e x
 have ew:sumI wlC its=sumI (cl 1) its - sumI (cl 0) its:=sumI_sub (cl 1) (cl 0) its
 have sp:=sumI_split (fun x=>c x.1) rdyB its
 have sw:=sumI_split wlC rdyB its
 have hm:(⟨sumI (cl 1) its - R,toIt (cl 4) wlC (its.filter rdyB)⟩:Po) ∈ (plShrink R its).ps:=List.mem_cons_self
 obtain ⟨l,hP⟩:=shp_at h hm
 obtain ⟨q1,q2,_⟩:=ok.po _ hm
 obtain ⟨a,b⟩:=pour_sum q1 q2 hP
 have b:(sumI (fun x=>c x.1) (its.filter rdyB) ≤ sumI (cl 1) its - R∧∀ x ∈ its.filter rdyB,0 < cl 4 x→c x.1=wlC x) ∨ sumI (fun x=>c x.1) (its.filter rdyB)=sumI (cl 1) its - R:=b
 have am:=sumI_mono (u:=fun x=>c x.1) (v:=wlC) fun x hx=>(a x hx).2.1
 have rd:∀ x ∈ its.filter rdyB,0 < cl 4 x:=fun x hx=>of_decide_eq_true (List.mem_filter.mp hx).2
 by_cases q:0 < sumI (cl 1) its - R - sumI wlC (its.filter rdyB)
 ·have hps:(plShrink R its).ps=[⟨sumI (cl 1) its - R,toIt (cl 4) wlC (its.filter rdyB)⟩,⟨sumI (cl 1) its - R - sumI wlC (its.filter rdyB),toIt (fun _=>1) wlC (its.filter fun x=>!rdyB x)⟩]:=by
   unfold plShrink
   rw [if_pos q]
  have hm2:(⟨sumI (cl 1) its - R - sumI wlC (its.filter rdyB),toIt (fun _=>1) wlC (its.filter fun x=>!rdyB x)⟩:Po) ∈ (plShrink R its).ps:=by
   rw [hps]
   exact List.mem_cons_of_mem _ List.mem_cons_self
  obtain ⟨l2,hP2⟩:=shp_at h hm2
  obtain ⟨q3,q4,_⟩:=ok.po _ hm2
  obtain ⟨a2,b2⟩:=pour_sum q3 q4 hP2
  have b2:(sumI (fun x=>c x.1) (its.filter fun x=>!rdyB x) ≤ sumI (cl 1) its - R - sumI wlC (its.filter rdyB)∧∀ x ∈ its.filter fun x=>!rdyB x,(0:Int) < 1→c x.1=wlC x) ∨ sumI (fun x=>c x.1) (its.filter fun x=>!rdyB x)=sumI (cl 1) its - R - sumI wlC (its.filter rdyB):=b2
  have full:∀ x ∈ its.filter rdyB,c x.1=wlC x:=by
   rcases b with ⟨_,b⟩ | b
   ·exact fun x hx=>b x hx (rd x hx)
   ·omega
  have s1:=sumI_eq full
  have s2:sumI (fun x=>c x.1) (its.filter fun x=>!rdyB x)=sumI (cl 1) its - R - sumI wlC (its.filter rdyB):=by
   rcases b2 with ⟨z,b2⟩ | b2
   ·have s3:=sumI_eq fun x hx=>b2 x hx (by decide)
    omega
   ·exact b2
  have am2:∀ x ∈ its,0 ≤ c x.1∧c x.1 ≤ wlC x:=fun x hx=>by
   cases r:rdyB x with
   | true=>exact ⟨(a x (List.mem_filter.mpr ⟨hx,r⟩)).1,(a x (List.mem_filter.mpr ⟨hx,r⟩)).2.1⟩
   | false=>exact ⟨(a2 x (List.mem_filter.mpr ⟨hx,by rw [r]; rfl⟩)).1,(a2 x (List.mem_filter.mpr ⟨hx,by rw [r]; rfl⟩)).2.1⟩
  refine ⟨.inr (by rw [h.1,hps]; rfl),by rw [es]; omega,fun x hx=>?_,.inr fun x hx h4=>?_⟩
  ·have:=am2 x hx
   unfold wlC at this
   rw [e]
   omega
  ·have:=full x (List.mem_filter.mpr ⟨hx,decide_eq_true h4⟩)
   unfold wlC at this
   rw [e]
   omega
 ·have hps:(plShrink R its).ps=[⟨sumI (cl 1) its - R,toIt (cl 4) wlC (its.filter rdyB)⟩]:=by
   unfold plShrink
   rw [if_neg q]
  have none:∀ x ∈ its.filter fun x=>!rdyB x,c x.1=0:=fun x hx=>by
   refine h.2.2 x.1 fun p hp y hy ey=>?_
   rw [hps] at hp
   rw [List.mem_singleton.mp hp] at hy
   obtain ⟨x',hx',f',e'⟩:=toIt_sub y hy
   have:=key_inj nd hx' (memF6 hx) (by rw [e',ey])
   subst this
   have:=(List.mem_filter.mp hx).2
   rw [f'] at this
   cases this
  have s2:=sumI_zero none
  have s1:sumI (fun x=>c x.1) (its.filter rdyB)=sumI (cl 1) its - R:=by
   rcases b with ⟨z,b⟩ | b
   ·have s3:=sumI_eq fun x hx=>b x hx (rd x hx)
    omega
   ·exact b
  have nr:∀ x ∈ its,rdyB x=false→c x.1=0:=fun x hx r=>none x (List.mem_filter.mpr ⟨hx,by rw [r]; rfl⟩)
  refine ⟨.inl (by rw [h.1,hps]; rfl),by rw [es]; omega,fun x hx=>?_,.inl fun x hx h4=>?_⟩
  ·have k1:=hk4 x hx
   cases r:rdyB x with
   | true =>
    obtain ⟨z1,z2,_⟩:=a x (List.mem_filter.mpr ⟨hx,r⟩)
    unfold wlC at z2
    rw [e]
    omega
   | false =>
    rw [e,nr x hx r]
    omega
  ·rw [e,nr x hx (decide_eq_false (by omega))]
   omega
def t10:List Int:=[0,1,2,3,4,5,6,7,8,9]
def neR (its:List It6) (r:Int):Bool:=its.any (ofR r)
theorem neR_iff {its:List It6} {r:Int}:neR its r=true ↔ its.filter (ofR r) ≠ []:=by
 unfold neR
 rw [List.any_eq_true]
 refine ⟨fun ⟨x,hx,e⟩ z=>?_,fun z=>?_⟩
 ·have:x ∈ its.filter (ofR r):=List.mem_filter.mpr ⟨hx,e⟩
  rw [z] at this
  cases this
 ·obtain ⟨x,hx⟩:=List.exists_mem_of_ne_nil _ z
  exact ⟨x,memF6 hx,(List.mem_filter.mp hx).2⟩
theorem mem_t10 {r:Int}:r ∈ t10 ↔ 0 ≤ r∧r ≤ 9:=by
 unfold t10
 simp only [List.mem_cons,List.not_mem_nil,or_false]
 omega
theorem ranks_t10 {its:List It6} (hk:∀ x ∈ its,x.2.2.Ok):ranks its=t10.filter (neR its):=by
 have nd:(DS.dedup (its.map (cl 5))).Nodup:=DS.nodup_dedup _
 refine (ranks_eq ?_ ?_).symm
 ·refine (List.perm_ext_iff_of_nodup ((by decide:t10.Nodup).filter _) nd).mpr fun r=>?_
  rw [List.mem_filter,DS.mem_dedup,List.mem_map,mem_t10]
  unfold neR
  rw [List.any_eq_true]
  refine ⟨fun ⟨_,x,hx,e⟩=>⟨x,hx,of_decide_eq_true e⟩,fun ⟨x,hx,e⟩=>⟨?_,x,hx,decide_eq_true e⟩⟩
  obtain ⟨_,_,_,_,_,_,_,_,z1,z2⟩:=hk x hx
  rw [← e]
  exact ⟨z1,z2⟩
 ·exact (by decide:t10.Pairwise (· ≤ ·)).filter _
def yS (its:List It6) (s:List Po × Int) (r:Int):List Po × Int:=if neR its r=true then yStep its s r else s
theorem yield_t10 {its:List It6} (hk:∀ x ∈ its,x.2.2.Ok) (s:List Po × Int):(ranks its).foldl (yStep its) s=t10.foldl (yS its) s:=by
 rw [ranks_t10 hk,List.foldl_filter]
 rfl
def Yl (its:List It6) (c:Str→Int):List Int→Int→Prop
 | [],_=>True
 | r :: rs,lack=>(∀ x ∈ its.filter (ofR r),0 ≤ c x.1∧c x.1 ≤ cl 0 x)∧sumI (fun x=>c x.1) (its.filter (ofR r))=(if 0 < lack then givR its lack r else 0)∧Yl its c rs (if 0 < lack then lack - givR its lack r else lack)
theorem givR_empty {its:List It6} {lack r:Int} (h:neR its r=false) (hl:0 < lack):givR its lack r=0:=by
 have e:its.filter (ofR r)=[]:=by
  cases z:its.filter (ofR r) with
  | nil=>rfl
  | cons x l =>
   have:=neR_iff.mpr (by rw [z]; exact List.cons_ne_nil x l)
   rw [h] at this
   cases this
 unfold givR
 rw [e]
 show (if (0:Int) < lack then _ else _)=_
 rw [if_pos hl]
 rfl
theorem yl_of {its:List It6} {c:Str→Int} (nd:(its.map (·.1)).Nodup) (hl:its.length ≤ 20) (hk:∀ x ∈ its,x.2.2.Ok):∀ (rs dn:List Int) (s:List Po × Int),(dn ++ rs).Nodup →
  (∀ p ∈ s.1,∃ r ∈ dn,p.it=toIt (fun _=>1) (cl 0) (its.filter (ofR r)))→(∀ p ∈ (rs.foldl (yS its) s).1,∃ l,PourP p.it p.R (fun y=>c y.1) l)→(∀ n:Str,(∀ p ∈ (rs.foldl (yS its) s).1,∀ y ∈ p.it,y.1 ≠ n)→c n=0)→Yl its c rs s.2
 | [],_,_,_,_,_,_=>trivial
 | r :: rs,dn,s,hn,hs,hp,hc=>by
  have e:dn ++ r :: rs=(dn ++ [r]) ++ rs:=by rw [List.append_assoc]; rfl
  have hk0:∀ x ∈ its.filter (ofR r),0 ≤ cl 0 x∧cl 0 x ≤ 30000:=fun x hx=>by
   obtain ⟨a,b,d,g,_⟩:=hk x (memF6 hx)
   have:cl 0 x=x.2.2.le:=rfl
   omega
  have pre:∀ (rs:List Int) (s:List Po × Int),∀ p ∈ s.1,p ∈ (rs.foldl (yS its) s).1:=by
   intro rs
   induction rs with
   | nil=>exact fun s p hp=>hp
   | cons r' rs ih =>
    intro s p hp
    rw [List.foldl_cons]
    refine ih _ p ?_
    unfold yS yStep
    split
    ·split
     ·exact List.mem_append_left _ hp
     ·exact hp
    ·exact hp
  have stay:∀ (rs:List Int) (s:List Po × Int),¬ 0 < s.2→rs.foldl (yS its) s=s:=by
   intro rs
   induction rs with
   | nil=>exact fun s _=>rfl
   | cons r' rs ih =>
    intro s q
    have e1:yS its s r'=s:=by
     unfold yS yStep
     rw [if_neg q]
     split <;> rfl
    rw [List.foldl_cons,e1]
    exact ih s q
  rw [List.foldl_cons] at hp hc
  by_cases q:0 < s.2
  ·cases ne:neR its r with
   | true =>
    have e1:yS its s r=(s.1 ++ [⟨givR its s.2 r,toIt (fun _=>1) (cl 0) (its.filter (ofR r))⟩],s.2 - givR its s.2 r):=by
     unfold yS yStep
     rw [if_pos ne,if_pos q]
    obtain ⟨l,hP⟩:=hp ⟨givR its s.2 r,toIt (fun _=>1) (cl 0) (its.filter (ofR r))⟩ (pre _ _ _ (by rw [e1]; exact List.mem_append_right _ List.mem_cons_self))
    have hIn:InB (toIt (fun _=>1) (cl 0) (its.filter (ofR r))):=toIt_in nd hl _ fun x hx=>by
     obtain ⟨a,b,d,g,_⟩:=hk x hx
     have:cl 0 x=x.2.2.le:=rfl
     omega
    have hS:=sumI_nonneg fun x hx=>(hk0 x hx).1
    have hg:0 ≤ givR its s.2 r:=by unfold givR; split <;> omega
    obtain ⟨a,b⟩:=pour_sum hIn hg hP
    have am:=sumI_mono (u:=fun x=>c x.1) (v:=cl 0) fun x hx=>(a x hx).2.1
    refine ⟨fun x hx=>⟨(a x hx).1,(a x hx).2.1⟩,?_,?_⟩
    ·rw [if_pos q]
     rcases b with ⟨b1,b2⟩ | b
     ·have s3:=sumI_eq fun x hx=>b2 x hx (by decide)
      have b1:sumI (fun x=>c x.1) (its.filter (ofR r)) ≤ givR its s.2 r:=b1
      have hle:givR its s.2 r ≤ sumI (cl 0) (its.filter (ofR r)):=by unfold givR; split <;> omega
      omega
     ·exact b
    ·rw [if_pos q]
     have:=yl_of nd hl hk rs (dn ++ [r]) (yS its s r) (by rw [← e]; exact hn) (fun p hp'=>?_) hp hc
     ·rw [e1] at this
      exact this
     ·rw [e1] at hp'
      rcases List.mem_append.mp hp' with z | z
      ·obtain ⟨r',h1,h2⟩:=hs p z
       exact ⟨r',List.mem_append_left _ h1,h2⟩
      ·rw [List.mem_singleton.mp z]
       exact ⟨r,List.mem_append_right _ List.mem_cons_self,rfl⟩
   | false =>
    have e1:yS its s r=s:=by
     unfold yS
     rw [if_neg (by rw [ne]; exact Bool.false_ne_true)]
    have e2:its.filter (ofR r)=[]:=by
     cases z:its.filter (ofR r) with
     | nil=>rfl
     | cons x l =>
      have:=neR_iff.mpr (by rw [z]; exact List.cons_ne_nil x l)
      rw [ne] at this
      cases this
    refine ⟨fun x hx=>(by rw [e2] at hx; exact nomatch hx),?_,?_⟩
    ·rw [if_pos q,givR_empty ne q,e2]
     rfl
    ·rw [if_pos q,givR_empty ne q,Int.sub_zero]
     rw [e1] at hp hc
     exact yl_of nd hl hk rs (dn ++ [r]) s (by rw [← e]; exact hn) (fun p hp'=>let ⟨r',h1,h2⟩:=hs p hp'; ⟨r',List.mem_append_left _ h1,h2⟩) hp hc
  ·have e1:yS its s r=s:=by
    unfold yS yStep
    rw [if_neg q]
    split <;> rfl
   rw [e1] at hp hc
   have zero:∀ x ∈ its.filter (ofR r),c x.1=0:=fun x hx=>by
    refine hc x.1 fun p hp' y hy ey=>?_
    rw [stay rs s q] at hp'
    obtain ⟨r',h1,h2⟩:=hs p hp'
    rw [h2] at hy
    obtain ⟨x',hx',f',e'⟩:=toIt_sub y hy
    have:=key_inj nd hx' (memF6 hx) (by rw [e',ey])
    subst this
    have z1:=of_decide_eq_true f'
    have z2:=of_decide_eq_true (List.mem_filter.mp hx).2
    have:r'=r:=by rw [← z1,← z2]
    subst this
    exact (List.nodup_append.mp hn).2.2 r' h1 r' List.mem_cons_self rfl
   refine ⟨fun x hx=>by rw [zero x hx]; exact ⟨Int.le_refl _,(hk0 x hx).1⟩,?_,?_⟩
   ·rw [if_neg q]
    exact sumI_zero zero
   ·rw [if_neg q]
    exact yl_of nd hl hk rs (dn ++ [r]) s (by rw [← e]; exact hn) (fun p hp'=>let ⟨r',h1,h2⟩:=hs p hp'; ⟨r',List.mem_append_left _ h1,h2⟩) hp hc
theorem sum_ranks (its:List It6) (v:It6→Int):∀ (rs:List Int),rs.Nodup→sumI v (its.filter fun x=>decide (cl 5 x ∈ rs))=(rs.map fun r=>sumI v (its.filter (ofR r))).sum
 | [],_=>by
  rw [List.filter_eq_nil_iff.mpr fun x _=>by simp]
  rfl
 | r :: rs,nd=>by
  rw [List.nodup_cons] at nd
  rw [sumI_split v (ofR r) (its.filter fun x=>decide (cl 5 x ∈ r :: rs)),List.filter_filter,List.filter_filter,List.map_cons,List.sum_cons,← sum_ranks its v rs nd.2]
  congr 2
  ·refine List.filter_congr fun x _=>?_
   unfold ofR
   rw [Bool.eq_iff_iff]
   simp only [Bool.and_eq_true,decide_eq_true_eq,List.mem_cons]
   exact ⟨fun z=>z.1,fun z=>⟨z,.inl z⟩⟩
  ·refine List.filter_congr fun x _=>?_
   unfold ofR
   rw [Bool.eq_iff_iff]
   simp only [Bool.and_eq_true,decide_eq_true_eq,List.mem_cons,Bool.not_eq_true',decide_eq_false_iff_not]
   exact ⟨fun z=>z.2.resolve_left z.1,fun z=>⟨fun e=>nd.1 (by rw [← e]; exact z),.inr z⟩⟩
theorem filter_t10 {its:List It6} (hk:∀ x ∈ its,x.2.2.Ok):its.filter (fun x=>decide (cl 5 x ∈ t10))=its:=List.filter_eq_self.mpr fun x hx=>decide_eq_true (mem_t10.mpr (by
 obtain ⟨_,_,_,_,_,_,_,_,z1,z2⟩:=hk x hx
 exact ⟨z1,z2⟩))
theorem yl_sum {its:List It6} {c:Str→Int} (hk:∀ x ∈ its,x.2.2.Ok):∀ (rs:List Int) (lack:Int),0 ≤ lack→Yl its c rs lack →
  (rs.map fun r=>sumI (fun x=>c x.1) (its.filter (ofR r))).sum=if (rs.map fun r=>sumI (cl 0) (its.filter (ofR r))).sum < lack then (rs.map fun r=>sumI (cl 0) (its.filter (ofR r))).sum else lack
 | [],lack,h,_=>by
  show (0:Int)=if (0:Int) < lack then 0 else lack
  split <;> omega
 | r :: rs,lack,h,y=>by
  obtain ⟨y1,y2,y3⟩:=y
  have hS:∀ r,0 ≤ sumI (cl 0) (its.filter (ofR r)):=fun r=>sumI_nonneg fun x hx=>by
   obtain ⟨a,_⟩:=hk x (memF6 hx)
   exact a
  have hT:0 ≤ (rs.map fun r=>sumI (cl 0) (its.filter (ofR r))).sum:=by
   clear y3
   induction rs with
   | nil=>exact Int.le_refl _
   | cons a l ih =>
    rw [List.map_cons,List.sum_cons]
    have:=hS a
    omega
  have hr:=hS r
  rw [List.map_cons,List.sum_cons,List.map_cons,List.sum_cons]
  by_cases q:0 < lack
  ·rw [if_pos q] at y2 y3
   have h2:0 ≤ lack - givR its lack r:=by unfold givR; split <;> omega
   have ih:=yl_sum hk rs _ h2 y3
   rw [y2,ih]
   unfold givR
   split <;> split <;> split <;> omega
  ·rw [if_neg q] at y2 y3
   have ih:=yl_sum hk rs _ h y3
   rw [y2,ih]
   split <;> split <;> omega
theorem yl_zero {its:List It6} {c:Str→Int}:∀ (rs:List Int) (lack:Int),¬ 0 < lack→Yl its c rs lack→∀ r ∈ rs,∀ x ∈ its.filter (ofR r),c x.1=0
 | [],_,_,_,_,hr=>nomatch hr
 | a :: rs,lack,q,y,r,hr=>by
  obtain ⟨y1,y2,y3⟩:=y
  rw [if_neg q] at y2 y3
  rcases List.mem_cons.mp hr with e | e
  ·subst e
   intro x hx
   have:=sumI_tight (u:=fun _=>0) (v:=fun x=>c x.1) (l:=its.filter (ofR r)) (fun x hx=>(y1 x hx).1) (by rw [y2,sumI_zero (u:=fun _=>0) fun _ _=>rfl]; exact Int.le_refl _) x hx
   exact this.symm
  ·exact yl_zero rs lack q y3 r e
theorem yl_given {its:List It6} {c:Str→Int}:∀ (rs:List Int) (lack:Int),rs.Pairwise (· < ·)→Yl its c rs lack→∀ r ∈ rs,∀ x ∈ its.filter (ofR r),(0 ≤ c x.1∧c x.1 ≤ cl 0 x)∧(c x.1 < cl 0 x→∀ r' ∈ rs,r < r'→∀ z ∈ its.filter (ofR r'),c z.1=0)
 | [],_,_,_,_,hr=>nomatch hr
 | a :: rs,lack,hp,y,r,hr=>by
  obtain ⟨y1,y2,y3⟩:=y
  rw [List.pairwise_cons] at hp
  rcases List.mem_cons.mp hr with e | e
  ·subst e
   refine fun x hx=>⟨y1 x hx,fun hlt r' hr' hlt'=>?_⟩
   have hr':r' ∈ rs:=by
    rcases List.mem_cons.mp hr' with z | z
    ·omega
    ·exact z
   by_cases q:0 < lack
   ·rw [if_pos q] at y2 y3
    refine yl_zero rs _ ?_ y3 r' hr'
    intro q2
    have:sumI (cl 0) (its.filter (ofR r)) ≤ sumI (fun x=>c x.1) (its.filter (ofR r)):=by
     rw [y2]
     unfold givR at q2 ⊢
     split at q2 <;> split <;> omega
    have:=sumI_tight (fun x hx=>(y1 x hx).2) this x hx
    omega
   ·rw [if_neg q] at y3
    exact yl_zero rs _ q y3 r' hr'
  ·intro x hx
   obtain ⟨h1,h2⟩:=yl_given rs _ hp.2 y3 r e x hx
   refine ⟨h1,fun hlt r' hr' hlt'=>?_⟩
   rcases List.mem_cons.mp hr' with z | z
   ·have:=hp.1 r e
    omega
   ·exact h2 hlt r' z hlt'
theorem yield_yl {H:Hp} {its:List It6} {R:Int} {c:Str→Int} {ls:List (Option (Nat × Nat))} (hok:ItsOk H its) (h:ShP its (plYield R its) c ls):Yl its c t10 (sumI (cl 0) its - R):=by
 have e:(plYield R its).ps=(t10.foldl (yS its) ([],sumI (cl 0) its - R)).1:=by
  show ((ranks its).foldl (yStep its) ([],sumI (cl 0) its - R)).1=_
  rw [yield_t10 hok.2.2.2]
 refine yl_of hok.2.1 hok.2.2.1 hok.2.2.2 t10 [] ([],sumI (cl 0) its - R) (by decide) (fun p hp=>nomatch hp) (fun p hp=>?_) (fun n hn=>?_)
 ·rw [← e] at hp
  exact shp_at h hp
 ·rw [← e] at hn
  exact h.2.2 n hn
theorem yield_facts {H:Hp} {its:List It6} {R:Int} {c:Str→Int} {ls:List (Option (Nat × Nat))} (hok:ItsOk H its) (hR:0 ≤ R) (h0:R < sumI (cl 0) its) (h:ShP its (plYield R its) c ls) :
  R - sumI (szF (plYield R its) c) its=0∧(∀ x ∈ its,0 ≤ szF (plYield R its) c x∧szF (plYield R its) c x ≤ cl 0 x)∧∀ x ∈ its,∀ z ∈ its,0 < szF (plYield R its) c x→cl 5 x < cl 5 z→szF (plYield R its) c z=cl 0 z:=by
 have hk:=hok.2.2.2
 have y:=yield_yl hok h
 have e:∀ x,szF (plYield R its) c x=cl 0 x - c x.1:=fun x=>by
  show cl 0 x + -1 * c x.1=_
  omega
 have es:sumI (szF (plYield R its) c) its=sumI (cl 0) its - sumI (fun x=>c x.1) its:=by
  rw [← sumI_sub]
  exact sumI_eq fun x _=>e x
 have f:∀ v:It6→Int,(t10.map fun r=>sumI v (its.filter (ofR r))).sum=sumI v its:=fun v=>by
  rw [← sum_ranks its v t10 (by decide),filter_t10 hk]
 have s:=yl_sum hk t10 _ (by omega) y
 rw [f,f] at s
 have at_:∀ x ∈ its,cl 5 x ∈ t10∧x ∈ its.filter (ofR (cl 5 x)):=fun x hx=>by
  obtain ⟨_,_,_,_,_,_,_,_,z1,z2⟩:=hk x hx
  exact ⟨mem_t10.mpr ⟨z1,z2⟩,List.mem_filter.mpr ⟨hx,decide_eq_true rfl⟩⟩
 have g:=yl_given t10 _ (by decide) y
 refine ⟨?_,fun x hx=>?_,fun x hx z hz h1 h2=>?_⟩
 ·rw [es,s]
  split <;> omega
 ·obtain ⟨⟨g1,g2⟩,_⟩:=g _ (at_ x hx).1 x (at_ x hx).2
  rw [e]
  omega
 ·obtain ⟨⟨g1,g2⟩,g3⟩:=g _ (at_ x hx).1 x (at_ x hx).2
  rw [e] at h1
  rw [e,g3 (by omega) _ (at_ z hz).1 h2 z (at_ z hz).2]
  omega
end B04
namespace B04
open PySem L2 S2
def spLShrunk:Sp:=fun vs H Q _=>∃ (dI dS:Addr) (its:List It6) (sz:It6→Int),vs=[.ref dI,.ref dS]∧dI ≠ dS∧Rd H dI (.dK (kvR its))∧ItsOk H its∧Rd H dS (.dK (kvW (vI sz its)))∧(∀ x ∈ its,cl 0 x ≤ sz x∧sz x ≤ cl 1 x)∧((∀ x ∈ its,cl 4 x=0→sz x=cl 1 x) ∨ ∀ x ∈ its,0 < cl 4 x→sz x=cl 0 x) ∧
 ∀ H':Hp,Kr M0 H H'→Q (.bl true) H'
section
variable {P:Program} {w:World} {K:PySem.W.Frag} {mg:Str→Option Value} {base:Heap}
abbrev nLShrunk:List Str:=["_law_items_here","_law_sizes","_law_deeper","_law_whole","_law_name","_law_least","_law_wish","_law_most","_law_grow","_law_shrink","_law_rank"]
theorem scLShrunk:FnScope nLShrunk ["_law_items_here","_law_sizes"] (defScope sLShrunk):=⟨rfl,rfl,rfl,by decide +kernel,rfl,by decide +kernel,by decide +kernel⟩
set_option maxHeartbeats 16000000 in
theorem ok_lShrunk {f:Addr} {fd:FuncData} (F:Fun K "_law_shrunk" "_law_shrunk" sLShrunk f fd) (N:Names mg):FnOk P w K mg base CX0 1 f fd ["_law_items_here","_law_sizes"] spLShrunk:=by
 refine F.ok scLShrunk (fun vs H Q E h=>?_) (fun cdv A outer s H vs Q E hr h=>?_)
 ·obtain ⟨dI,dS,its,sz,e,_⟩:=h
  rw [e]
  rfl
 ·obtain ⟨dI,dS,its,sz,e,nIS,hI,hok,hS,hg,hor,k⟩:=h
  subst e
  have hu:(A.deeper (PyProof.Rows.envOfC "_law_shrunk" (defScope sLShrunk) s.heap.objs.size f cdv)).units + 1 < cLine:=by have:=hr.units; omega
  refine ⟨_,pss_cons (ps_set (i:=2) scLShrunk.nd rfl (Or.inl rfl) pe_bl)
   (pss_cons (ps_set (i:=3) scLShrunk.nd rfl (Or.inl rfl) pe_bl)
   (pss_cons (ps_for PassesOwn.never rfl (pi_keys (pv 0)) (pg_name (i:=4) scLShrunk.nd rfl (Or.inl rfl))
    (pss_cons (ps_asg (pe_dget hu (pv 0) (pv 4) (fun _ _=>rfl)) (pg_tup rfl (pgs_cons (pg_name (i:=5) scLShrunk.nd rfl (Or.inl rfl)) (pgs_cons (pg_name (i:=6) scLShrunk.nd rfl (Or.inl rfl)) (pgs_cons (pg_name (i:=7) scLShrunk.nd rfl (Or.inl rfl)) (pgs_cons (pg_name (i:=8) scLShrunk.nd rfl (Or.inl rfl)) (pgs_cons (pg_name (i:=9) scLShrunk.nd rfl (Or.inl rfl)) (pgs_cons (pg_name (i:=10) scLShrunk.nd rfl (Or.inl rfl)) pgs_nil))))))))
    (pss_cons (ps_if (pw_or (pt_cmpR op_lt (pe_dget hu (pv 1) (pv 4) (fun _ _=>rfl)) (pv 5) (nomark _)) (pw_or1 (pt_cmpR op_gt (pe_dget hu (pv 1) (pv 4) (fun _ _=>rfl)) (pv 6) (nomark _)))).pt (pss_one (ps_ret pe_bl)) pss_nil)
    (pss_cons (ps_set (i:=2) scLShrunk.nd rfl (Or.inl rfl) (pe_or (pv 2) (pe_one (pe_and (pe_cmpR op_eq (pv 9) pe_int (nomark _)) (pe_one (pe_cmpR op_lt (pe_dget hu (pv 1) (pv 4) (fun _ _=>rfl)) (pv 6) (nomark _)))))))
    (pss_one (ps_set (i:=3) scLShrunk.nd rfl (Or.inl rfl) (pe_and (pv 3) (pe_one (pe_or (pe_cmpR op_eq (pv 9) pe_int (nomark _)) (pe_one (pe_cmpR op_eq (pe_dget hu (pv 1) (pv 4) (fun _ _=>rfl)) (pv 5) (nomark _))))))))))))
   (pss_one (ps_ret (pe_or (pv 3) (pe_one (pe_not (pv 2)))))))),?_⟩
  try rw [show (cxOf CX0 P w K mg base nLShrunk "_law_shrunk" (defScope sLShrunk) f cdv A outer s H E).nox.K=K from rfl]
  have nd:=hok.2.1
  have hI1:Rd H dI (.dK (kvG (fun x=>.ref x.2.1) its)):=hI
  refine seq_abs fun N1 hN=>?_
  refine hN _ _ ?_
  clear hN N1
  refine seq_abs fun N1 hN=>?_
  refine hN _ _ ?_
  clear hN N1
  refine seq_abs fun N1 hN=>?_
  refine ⟨_,rfl,dI,_,rfl,hI1,fun o=>?_⟩
  have kf:Kr M0 H (upd H dI (.frz o (.dK (kvG (fun x=>.ref x.2.1) its)))):=.frz hI1
  have hq:(upd H dI (.frz o (.dK (kvG (fun x=>.ref x.2.1) its)))) dI=some (.frz o (.dK (kvG (fun x=>.ref x.2.1) its))):=upd_same
  generalize upd H dI (.frz o (.dK (kvG (fun x=>.ref x.2.1) its)))=H2 at *
  have hok2:=kf.its0 hok
  have hS2:=kf.rd (fun z=>z) hS
  refine for_keys (a:=dI) (o:=o) (kvs:=kvG (fun x=>.ref x.2.1) its) (fun i σ G=>∃ (d w:Bool) (v4 v5 v6 v7 v8 v9 v10:Option V),σ=[some (.ref dI),some (.ref dS),some (.bl d),some (.bl w),v4,v5,v6,v7,v8,v9,v10]∧((∀ x ∈ its,cl 4 x=0→sz x=cl 1 x)→d=false)∧((∀ x ∈ its,0 < cl 4 x→sz x=cl 0 x)→w=true)∧Same H2 G)
   ⟨false,true,none,none,none,none,none,none,none,rfl,fun _=>rfl,fun _=>rfl,Same.refl _⟩ (fun i σ G _ h=>by obtain ⟨_,_,_,_,_,_,_,_,_,_,_,_,z⟩:=h; exact z _ _ hq) ?_ ?_
  ·rintro i kk vv σ G hkv ⟨d,w',v4,v5,v6,v7,v8,v9,v10,rfl,hd,hw,sG⟩
   obtain ⟨x,ex,rfl,rfl⟩:=kvG_at hkv
   have hx:=List.mem_of_getElem? ex
   have hT:G x.2.1=some (.tup x.2.2.vs):=sG _ _ (hok2.1 x hx)
   have hSG:Rd G dS (.dK (kvW (vI sz its))):=hS2.keep fun o e=>sG _ _ e
   obtain ⟨g1,g2⟩:=hg x hx
   have gS:=get_vI hSG nd hx
   refine seq_abs fun N2 hN2=>?_
   refine ⟨_,rfl,_,rfl,dI,_,rfl,get_kvG (.inr ⟨o,sG _ _ hq⟩) nd hx,x.2.1,_,rfl,SqT.of hT,rfl,_,_,rfl,_,_,rfl,_,_,rfl,_,_,rfl,_,_,rfl,_,_,rfl,rfl,?_⟩
   refine hN2 _ _ ?_
   clear hN2 N2
   have g1:x.2.2.le ≤ sz x:=g1
   have g2:sz x ≤ x.2.2.wi:=g2
   refine seq_abs fun N2 hN2=>?_
   refine ⟨_,rfl,_,rfl,dS,_,rfl,gS,_,rfl,_,_,rfl,rfl,_,rfl,iteC (decide_eq_false (by show ¬ sz x < x.2.2.le; omega)) ?_⟩
   refine ⟨_,rfl,_,rfl,dS,_,rfl,gS,_,rfl,_,_,rfl,rfl,_,rfl,iteC (decide_eq_false (by show ¬ x.2.2.wi < sz x; omega)) ?_⟩
   refine hN2 _ _ ?_
   clear hN2 N2
   refine seq_abs fun N2 hN2=>?_
   have fin1:∀ d':Bool,((∀ x ∈ its,cl 4 x=0→sz x=cl 1 x)→d'=false)→N2 [some (.ref dI),some (.ref dS),some (.bl d'),some (.bl w'),some (.str x.1),some (.int x.2.2.le),some (.int x.2.2.wi),some (.int x.2.2.mo),some (.int x.2.2.gr),some (.int x.2.2.sh),some (.int x.2.2.ra)] G:=by
    intro d' hd'
    refine hN2 _ _ ?_
    clear hN2 N2
    have fin2:∀ b:Bool,((∀ x ∈ its,0 < cl 4 x→sz x=cl 0 x)→b=true)→∃ (d w:Bool) (v4 v5 v6 v7 v8 v9 v10:Option V),[some (V.ref dI),some (.ref dS),some (.bl d'),some (.bl b),some (.str x.1),some (.int x.2.2.le),some (.int x.2.2.wi),some (.int x.2.2.mo),some (.int x.2.2.gr),some (.int x.2.2.sh),some (.int x.2.2.ra)]=[some (.ref dI),some (.ref dS),some (.bl d),some (.bl w),v4,v5,v6,v7,v8,v9,v10]∧((∀ x ∈ its,cl 4 x=0→sz x=cl 1 x)→d=false)∧((∀ x ∈ its,0 < cl 4 x→sz x=cl 0 x)→w=true)∧Same H2 G:=fun b hb=>⟨d',b,_,_,_,_,_,_,_,rfl,hd',hb,sG⟩
    refine ⟨_,rfl,w',rfl,ite2 (fun _=>?_) (fun h=>fin2 false fun z=>(h (hw z)).elim)⟩
    refine ⟨_,rfl,rfl,_,rfl,ite2 (fun _=>fin2 true fun _=>rfl) (fun h=>?_)⟩
    refine ⟨_,rfl,_,rfl,dS,_,rfl,gS,_,rfl,rfl,fin2 _ fun z=>?_⟩
    have h4:0 < cl 4 x:=by
     obtain ⟨_,_,_,_,_,_,y,_⟩:=hok.2.2.2 x hx
     have y:0 ≤ x.2.2.sh:=y
     have n0:x.2.2.sh ≠ 0:=fun e=>h (decide_eq_true (by show V.int x.2.2.sh=V.int 0; rw [e]))
     show 0 < x.2.2.sh
     omega
    exact decide_eq_true (by rw [z x hx h4]; rfl)
   refine ⟨_,rfl,d,rfl,ite2 (fun h=>fin1 true fun z=>(by rw [hd z] at h; cases h)) (fun _=>?_)⟩
   refine ⟨_,rfl,rfl,_,rfl,ite2 (fun h=>?_) (fun _=>fin1 false fun _=>rfl)⟩
   have h0:x.2.2.sh=0:=by
    have:=of_decide_eq_true h
    injection this
   refine ⟨_,rfl,_,rfl,dS,_,rfl,gS,_,rfl,_,_,rfl,rfl,fin1 _ fun z=>?_⟩
   have:=z x hx h0
   exact decide_eq_false (by rw [this]; exact Int.lt_irrefl _)
  ·rintro σ G ⟨d,w',v4,v5,v6,v7,v8,v9,v10,rfl,hd,hw,sG⟩
   refine hN _ _ ?_
   refine ⟨_,rfl,w',rfl,ite2 (fun _=>k G (kf.trans (.same sG))) (fun h=>⟨_,rfl,d,rfl,?_⟩)⟩
   rcases hor with z | z
   ·rw [hd z]
    exact k G (kf.trans (.same sG))
   ·exact (h (hw z)).elim
end
end B04
namespace B04
open PySem L2 S2
theorem compN_of {J:It} {H1:Hp} {σ:St} {tt:TT} {te:TE} {Q:VK} (h:CompGo J H1 σ tt te Q):CompGoN J H1 1 σ (gName 0) tt te Q:=by
 intro D hD
 obtain ⟨W,w0,turn⟩:=h D hD
 refine ⟨W,w0,fun i m H hw=>?_⟩
 rcases turn i m H hw with q | ⟨go,step⟩
 ·exact .inl q
 ·refine .inr ⟨go,fun x H' ρ lρ y=>?_⟩
  match ρ,lρ with
  | [r0],_=>exact ⟨⟨[some x],rfl,rfl⟩,step x H' y⟩
theorem all_map_true {α:Type} (l:List α):(l.map fun _=>true).all id=true:=by
 rw [List.all_map]
 exact List.all_eq_true.mpr fun _ _=>rfl
def spLGiven:Sp:=fun vs H Q _=>∃ (dI dS:Addr) (its:List It6) (sz:It6→Int),vs=[.ref dI,.ref dS]∧dI ≠ dS∧Rd H dI (.dK (kvR its))∧ItsOk H its∧Rd H dS (.dK (kvW (vI sz its)))∧(∀ x ∈ its,0 ≤ sz x∧sz x ≤ cl 0 x)∧(∀ x ∈ its,∀ z ∈ its,0 < sz x→cl 5 x < cl 5 z→sz z=cl 0 z) ∧
 ∀ H':Hp,Kr M0 H H'→Q (.bl true) H'
section
variable {P:Program} {w:World} {K:PySem.W.Frag} {mg:Str→Option Value} {base:Heap}
abbrev nLGiven:List Str:=["_law_items_here","_law_sizes","_law_low","_law_name"]
theorem scLGiven:FnScope nLGiven ["_law_items_here","_law_sizes"] (defScope sLGiven):=⟨rfl,rfl,rfl,by decide +kernel,rfl,by decide +kernel,by decide +kernel⟩
theorem scLGivenN0:(["_law_name","_law_items_here","_law_sizes","_law_low",""]:List Str).Nodup:=by decide +kernel
set_option maxHeartbeats 16000000 in
theorem ok_lGiven {f:Addr} {fd:FuncData} (F:Fun K "_law_given" "_law_given" sLGiven f fd) (N:Names mg):FnOk P w K mg base CX0 1 f fd ["_law_items_here","_law_sizes"] spLGiven:=by
 refine F.ok scLGiven (fun vs H Q E h=>?_) (fun cdv A outer s H vs Q E hr h=>?_)
 ·obtain ⟨dI,dS,its,sz,e,_⟩:=h
  rw [e]
  rfl
 ·obtain ⟨dI,dS,its,sz,e,nIS,hI,hok,hS,hg,hor,k⟩:=h
  subst e
  have hu:(A.deeper (PyProof.Rows.envOfC "_law_given" (defScope sLGiven) s.heap.objs.size f cdv)).units + 1 < cLine:=by have:=hr.units; omega
  refine ⟨_,pss_cons (ps_set (i:=2) scLGiven.nd rfl (Or.inr rfl) pe_int)
   (pss_cons (ps_for PassesOwn.never rfl (pi_keys (pv 0)) (pg_name (i:=3) scLGiven.nd rfl (Or.inl rfl))
    (pss_cons (ps_if (pw_or (pt_cmpR op_lt (pe_dget hu (pv 1) (pv 3) (fun _ _=>rfl)) pe_int (nomark _)) (pw_or1 (pt_cmpR op_gt (pe_dget hu (pv 1) (pv 3) (fun _ _=>rfl)) (pe_ix ix_tup (pe_dget hu (pv 0) (pv 3) (fun _ _=>rfl)) pe_int (fun _ _=>rfl)) (nomark _)))).pt (pss_one (ps_ret pe_bl)) pss_nil)
    (pss_one (ps_if (pt_cmpR op_gt (pe_dget hu (pv 1) (pv 3) (fun _ _=>rfl)) pe_int (nomark _)) (pss_one (ps_set (i:=2) scLGiven.nd rfl (Or.inr rfl) (pe_callB (call_min2 rfl) (by rfl) N.min PyProof.Rows.boot_min (pa_cons (pv 2) (pa_cons (pe_ix ix_tup (pe_dget hu (pv 0) (pv 3) (fun _ _=>rfl)) pe_int (fun _ _=>rfl)) pa_nil))))) pss_nil))))
   (pss_one (ps_ret (pe_callB (call_allL rfl) (by rfl) N.all PyProof.Rows.boot_all (pa_cons (pe_compN (k:=1) (N':=["_law_name","_law_items_here","_law_sizes","_law_low",""]) (compScN_mk (fs:=defScope sLGiven) (N:=nLGiven) rfl rfl (by decide +kernel)) rfl (pi_keys (pv 0)) (fun _ _ _ _ _=>pg_name (i:=0) scLGivenN0 rfl (Or.inl rfl)) (fun _ _ _ _ _=>pts_one (pt_cmpR op_gt (pe_ix (r:=rIxT K) ix_tup (pe_dget hu (pv 1) (pv 0) (fun _ _=>rfl)) pe_int (fun _ _=>rfl)) (pv 3) (nomark _))) (fun _ _ _ _ _=>(pe_cmpR op_eq (pe_dget hu (pv 2) (pv 0) (fun _ _=>rfl)) (pe_ix (r:=rIxT K) ix_tup (pe_dget hu (pv 1) (pv 0) (fun _ _=>rfl)) pe_int (fun _ _=>rfl)) (nomark _)))) pa_nil))))),?_⟩
  try rw [show (cxOf CX0 P w K mg base nLGiven "_law_given" (defScope sLGiven) f cdv A outer s H E).nox.K=K from rfl]
  have nd:=hok.2.1
  have hl20:its.length ≤ 20:=hok.2.2.1
  have hI1:Rd H dI (.dK (kvG (fun x=>.ref x.2.1) its)):=hI
  refine seq_abs fun N1 hN=>?_
  refine hN _ _ ?_
  clear hN N1
  refine seq_abs fun N1 hN=>?_
  refine ⟨_,rfl,dI,_,rfl,hI1,fun o=>?_⟩
  have kf:Kr M0 H (upd H dI (.frz o (.dK (kvG (fun x=>.ref x.2.1) its)))):=.frz hI1
  have hq:(upd H dI (.frz o (.dK (kvG (fun x=>.ref x.2.1) its)))) dI=some (.frz o (.dK (kvG (fun x=>.ref x.2.1) its))):=upd_same
  generalize upd H dI (.frz o (.dK (kvG (fun x=>.ref x.2.1) its)))=H2 at *
  have hok2:=kf.its0 hok
  have hS2:=kf.rd (fun z=>z) hS
  refine for_keys (a:=dI) (o:=o) (kvs:=kvG (fun x=>.ref x.2.1) its) (fun i σ G=>∃ (low:Int) (v3:Option V),σ=[some (.ref dI),some (.ref dS),some (.int low),v3]∧(low=10 ∨ ∃ x ∈ its,0 < sz x∧cl 5 x=low)∧Same H2 G)
   ⟨10,none,rfl,.inl rfl,Same.refl _⟩ (fun i σ G _ h=>by obtain ⟨_,_,_,_,z⟩:=h; exact z _ _ hq) ?_ ?_
  ·rintro i kk vv σ G hkv ⟨low,v3,rfl,hlow,sG⟩
   obtain ⟨x,ex,rfl,rfl⟩:=kvG_at hkv
   have hx:=List.mem_of_getElem? ex
   have hT:G x.2.1=some (.tup x.2.2.vs):=sG _ _ (hok2.1 x hx)
   have hSG:Rd G dS (.dK (kvW (vI sz its))):=hS2.keep fun o e=>sG _ _ e
   obtain ⟨g1,g2⟩:=hg x hx
   have gS:=get_vI hSG nd hx
   have gI:=get_kvG (u:=fun x=>.ref x.2.1) (.inr ⟨o,sG _ _ hq⟩) nd hx
   have g2:sz x ≤ x.2.2.le:=g2
   refine seq_abs fun N2 hN2=>?_
   refine ⟨_,rfl,_,rfl,dS,_,rfl,gS,_,_,rfl,rfl,_,rfl,iteC (decide_eq_false (by show ¬ sz x < 0; omega)) ?_⟩
   refine ⟨_,rfl,_,rfl,dS,_,rfl,gS,_,rfl,_,rfl,dI,_,rfl,gI,x.2.1,_,_,_,rfl,rfl,SqT.of hT,atI_nat (j:=0) rfl,_,_,rfl,rfl,_,rfl,iteC (decide_eq_false (by show ¬ x.2.2.le < sz x; omega)) ?_⟩
   refine hN2 _ _ ?_
   clear hN2 N2
   refine ⟨_,rfl,_,rfl,dS,_,rfl,gS,_,_,rfl,rfl,_,rfl,ite2 (fun h=>?_) (fun _=>(show ∃ (low':Int) (v3:Option V),_ from ⟨low,_,rfl,hlow,sG⟩))⟩
   have h:=of_decide_eq_true h
   refine ⟨_,rfl,_,rfl,_,rfl,dI,_,rfl,gI,x.2.1,_,_,_,rfl,rfl,SqT.of hT,atI_nat (j:=5) rfl,_,_,rfl,?_⟩
   refine (show ∃ (low':Int) (v3:Option V),_ from ⟨_,_,rfl,?_,sG⟩)
   by_cases q:x.2.2.ra < low
   ·rw [if_pos q]
    exact .inr ⟨x,hx,h,rfl⟩
   ·rw [if_neg q]
    exact hlow
  ·rintro σ G ⟨low,v3,rfl,hlow,sG⟩
   refine hN _ _ ?_
   have k2:Kr M0 H G:=kf.trans (.same sG)
   have hIG:=k2.rd (fun z=>z) hI
   have hokG:=k2.its0 hok
   have hSG:=k2.rd (fun z=>z) hS
   refine ⟨_,rfl,dI,_,rfl,hIG,fun o2=>?_⟩
   have k0:Kr M0 G (upd G dI (.frz o2 (.dK (kvR its)))):=.frz hIG
   have hq2:(upd G dI (.frz o2 (.dK (kvR its)))) dI=some (.frz o2 (.dK (kvR its))):=upd_same
   generalize upd G dI (.frz o2 (.dK (kvR its)))=G0 at *
   have hok0:=k0.its0 hokG
   have hS0:=k0.rd (fun z=>z) hSG
   refine compN_of (comp_of (α:=It6) (l:=its) (fun x=>V.str x.1) (fun x=>decide (low < x.2.2.ra)) (fun _=>.bl true) (by have z:=IsIt.keys hq2; rw [kvR_keys] at z; exact z) (small (by omega)) (fun x H' Q' hx s' hq'=>?_) (fun x H' Q' hc hx s' hq'=>?_) fun D H3 hD s3 h3=>?_)
   ·refine ⟨_,rfl,_,rfl,dI,_,rfl,get_kvG (u:=fun x=>.ref x.2.1) (.inr ⟨o2,s' _ _ hq2⟩) nd hx,x.2.1,_,_,_,rfl,rfl,SqT.of (s' _ _ (hok0.1 x hx)),atI_nat (j:=5) rfl,_,rfl,_,_,rfl,rfl,_,rfl,hq' _ (Same.refl _)⟩
   ·refine ⟨_,rfl,_,rfl,dS,_,rfl,get_vI (hS0.keep fun o e=>s' _ _ e) nd hx,_,rfl,_,rfl,dI,_,rfl,get_kvG (u:=fun x=>.ref x.2.1) (.inr ⟨o2,s' _ _ hq2⟩) nd hx,x.2.1,_,_,_,rfl,rfl,SqT.of (s' _ _ (hok0.1 x hx)),atI_nat (j:=0) rfl,rfl,?_⟩
    have hc:low < x.2.2.ra:=of_decide_eq_true hc
    have e:sz x=x.2.2.le:=by
     rcases hlow with z | ⟨y,hy,z1,z2⟩
     ·obtain ⟨_,_,_,_,_,_,_,_,_,z3⟩:=hok.2.2.2 x hx
      omega
     ·exact hor y hy x hx z1 (by rw [z2]; exact hc)
    rw [e,decide_eq_true rfl]
    exact hq' _ (Same.refl _)
   ·refine ⟨D,(its.filter fun x=>decide (low < x.2.2.ra)).map fun _=>true,rfl,SqL.of (by rw [h3,List.map_map]; rfl),?_⟩
    rw [all_map_true]
    exact k H3 (k2.trans (k0.trans (.same s3)))
end
end B04
namespace B04
open PySem L2 S2
theorem list_valsF {a:Addr} {its:List It6} {tt:TT} {te:TE} {σ:St} {H:Hp} {Q:VK} (c:It6→Bool) (v:It6→Int) (hI:Rd H a (.dK (kvR its))) (hok:ItsOk H its)
  (ht:∀ (x:It6) (H':Hp) (Q':Bool→Hp→Prop),x ∈ its→H' x.2.1=some (.tup x.2.2.vs)→Q' (c x) H'→tt (some (.ref x.2.1) :: σ) H' Q')
  (he:∀ (x:It6) (H':Hp) (Q':VK),x ∈ its→H' x.2.1=some (.tup x.2.2.vs)→Q' (.int (v x)) H'→te (some (.ref x.2.1) :: σ) H' Q')
  (hd:∀ (D:Addr) (H':Hp),H D=none→Kr M0 H H'→H' D=some (.lst (((its.filter c).map v).map V.int))→Q (.ref D) H') (o:Obj):CompGo (Itv a o (kvR its)) (upd H a (.frz o (.dK (kvR its)))) σ tt te Q:=by
 have hl12:its.length ≤ 20:=hok.2.2.1
 have k0:Kr M0 H (upd H a (.frz o (.dK (kvR its)))):=.frz hI
 have hq:(upd H a (.frz o (.dK (kvR its)))) a=some (.frz o (.dK (kvR its))):=upd_same
 generalize upd H a (.frz o (.dK (kvR its)))=H0 at *
 have hok0:=k0.its0 hok
 refine comp_of (α:=It6) (l:=its) (fun x=>V.ref x.2.1) c (fun x=>.int (v x)) (by have z:=IsIt.values hq; rw [kvR_vals] at z; exact z) (small (by omega)) (fun x H' Q' hm s hq'=>ht x H' Q' hm (s _ _ (hok0.1 x hm)) (hq' _ (Same.refl _))) (fun x H' Q' _ hm s hq'=>he x H' Q' hm (s _ _ (hok0.1 x hm)) (hq' _ (Same.refl _))) fun D H' hD s1 hl1=>?_
 exact hd D H' (k0.free hD) (k0.trans (.same s1)) (by rw [hl1,List.map_map]; rfl)
theorem t10_at:∀ i:Nat,i < 10→t10[i]?=some (i:Int):=by decide
def stA (its:List It6) (lack:Int) (i:Nat):List Po × Int:=(t10.take i).foldl (yS its) ([],lack)
theorem stA_succ {its:List It6} {lack:Int} {i:Nat} (h:i < 10):stA its lack (i + 1)=yS its (stA its lack i) (i:Int):=by
 unfold stA
 rw [List.take_succ,t10_at i h,List.foldl_append]
 rfl
theorem stA_ten {its:List It6} (hk:∀ x ∈ its,x.2.2.Ok) (R:Int):(plYield R its).ps=(stA its (sumI (cl 0) its - R) 10).1:=by
 show ((ranks its).foldl (yStep its) ([],sumI (cl 0) its - R)).1=_
 rw [yield_t10 hk]
 rfl
theorem nil_neR {its:List It6} {r:Int}:(its.filter (ofR r)).isEmpty=!neR its r:=by
 cases e:neR its r with
 | true =>
  have:=neR_iff.mp e
  cases z:its.filter (ofR r) with
  | nil=>exact absurd z this
  | cons x l=>rfl
 | false =>
  cases z:its.filter (ofR r) with
  | nil=>rfl
  | cons x l =>
   have:=neR_iff.mpr (by rw [z]; exact List.cons_ne_nil x l)
   rw [e] at this
   cases this
theorem yS_no {its:List It6} {s:List Po × Int} {r:Int} (h:¬ (0 < s.2∧neR its r=true)):yS its s r=s:=by
 unfold yS yStep
 by_cases q:neR its r=true
 ·rw [if_pos q,if_neg fun z=>h ⟨z,q⟩]
 ·rw [if_neg q]
theorem yS_yes {its:List It6} {s:List Po × Int} {r:Int} (h:0 < s.2) (q:neR its r=true):yS its s r=(s.1 ++ [⟨givR its s.2 r,toIt (fun _=>1) (cl 0) (its.filter (ofR r))⟩],s.2 - givR its s.2 r):=by
 unfold yS yStep
 rw [if_pos q,if_pos h]
theorem ofR_dec {its:List It6} (i:Nat):its.filter (fun x=>decide (V.int (cl 5 x)=V.int (0 + (i:Int))))=its.filter (ofR (i:Int)):=List.filter_congr fun x _=>by
 unfold ofR
 rw [Int.zero_add]
 refine decide_eq_decide.mpr ⟨fun z=>by injection z,fun z=>by rw [z]⟩
def spLRight:Sp:=fun vs H Q _=>∃ (dI dS lL:Addr) (its:List It6) (R:Int) (c:Str→Int) (ls:List (Option (Nat × Nat))) (lvs:List V),vs=[.int R,.ref dI,.ref dS,.int (R - sumI (szF (planOf R its) c) its),.ref lL]∧dI ≠ dS∧Rd H dI (.dK (kvR its))∧ItsOk H its∧Rd H dS (.dK (kvW (vI (szF (planOf R its) c) its))) ∧
 H lL=some (.lst lvs)∧lvs.length=ls.length∧0 ≤ R∧R < 2 ^ 32∧ShP its (planOf R its) c ls∧∀ H':Hp,Kr M0 H H'→Q (.bl true) H'
section
variable {P:Program} {w:World} {K:PySem.W.Frag} {mg:Str→Option Value} {base:Heap}
abbrev nLRight:List Str:=["_law_room_here","_law_items_here","_law_sizes","_law_over","_law_levels","_law_many","_law_lack","_law_rank","_law_some"]
theorem scLRight:FnScope nLRight ["_law_room_here","_law_items_here","_law_sizes","_law_over","_law_levels"] (defScope sLRight):=⟨rfl,rfl,rfl,by decide +kernel,rfl,by decide +kernel,by decide +kernel⟩
set_option maxHeartbeats 16000000 in
theorem ok_lRight {f f1 f2 f3:Addr} {fd d1 d2 d3:FuncData} (F:Fun K "_law_right" "_law_right" sLRight f fd) (N:Names mg)
  (G1:FnOk P w K mg base CX0 1 f1 d1 ["_law_items_here","_law_sizes","_law_over"] spLGrown) (b1:Binds K d1 ["_law_items_here","_law_sizes","_law_over"] []) (m1:mg "_law_grown"=some (.ref f1)) (k1:PySem.W.keepIn K (.ref f1)=true)
  (G2:FnOk P w K mg base CX0 1 f2 d2 ["_law_items_here","_law_sizes"] spLShrunk) (b2:Binds K d2 ["_law_items_here","_law_sizes"] []) (m2:mg "_law_shrunk"=some (.ref f2)) (k2:PySem.W.keepIn K (.ref f2)=true)
  (G3:FnOk P w K mg base CX0 1 f3 d3 ["_law_items_here","_law_sizes"] spLGiven) (b3:Binds K d3 ["_law_items_here","_law_sizes"] []) (m3:mg "_law_given"=some (.ref f3)) (k3:PySem.W.keepIn K (.ref f3)=true):FnOk P w K mg base CX0 2 f fd ["_law_room_here","_law_items_here","_law_sizes","_law_over","_law_levels"] spLRight:=by
 refine F.ok scLRight (fun vs H Q E h=>?_) (fun cdv A outer s H vs Q E hr h=>?_)
 ·obtain ⟨dI,dS,lL,its,R,c,ls,lvs,e,_⟩:=h
  rw [e]
  rfl
 ·obtain ⟨dI,dS,lL,its,R,c,ls,lvs,e,nIS,hI,hok,hS,hL,hll,hR0,hR1,hSh,k⟩:=h
  subst e
  have hr1:=hr.mono (j:=1) (by decide)
  have hu0:(A.deeper (PyProof.Rows.envOfC "_law_right" (defScope sLRight) s.heap.objs.size f cdv)).units < cLine:=by have:=hr.units; omega
  refine ⟨_,pss_cons (ps_if (pt_cmpR op_ge (pv 0) (pe_callB (call_sumL rfl) (by rfl) N.sum PyProof.Rows.boot_sum (pa_cons (pe_comp (compSc_mk (fs:=defScope sLRight) (N:=nLRight) rfl rfl (by decide +kernel)) rfl (pi_values (pv 1)) (fun _ _ _ _ _=>pts_nil) (fun _ _ _ _ _=>(pe_ix (r:=rIxT K) ix_tup (pv 0) pe_int (fun _ _=>rfl)))) pa_nil)) (nomark _)) (pss_one (ps_ret (pe_and (pe_cmpR op_eq (pe_callB call_len_seq (by rfl) N.len PySem.boot_len (pa_cons (pv 4) pa_nil)) pe_int (nomark _)) (pe_one (pe_call G1 hr1 (by rfl) m1 k1 b1 .nil pass0 (pa_cons (pv 1) (pa_cons (pv 2) (pa_cons (pv 3) pa_nil)))))))) pss_nil)
   (pss_cons (ps_if (pt_cmpR op_ge (pv 0) (pe_callB (call_sumL rfl) (by rfl) N.sum PyProof.Rows.boot_sum (pa_cons (pe_comp (compSc_mk (fs:=defScope sLRight) (N:=nLRight) rfl rfl (by decide +kernel)) rfl (pi_values (pv 1)) (fun _ _ _ _ _=>pts_nil) (fun _ _ _ _ _=>(pe_ix (r:=rIxT K) ix_tup (pv 0) pe_int (fun _ _=>rfl)))) pa_nil)) (nomark _)) (pss_one (ps_ret (pe_and (pe_cmpR op_eq (pv 3) pe_int (nomark _)) (pe_and (pe_cmpR (r:=rIn K false) op_in_seq (pe_callB call_len_seq (by rfl) N.len PySem.boot_len (pa_cons (pv 4) pa_nil)) (pe_tup (pa_cons pe_int (pa_cons pe_int pa_nil))) (by rfl)) (pe_one (pe_call G2 hr1 (by rfl) m2 k2 b2 .nil pass0 (pa_cons (pv 1) (pa_cons (pv 2) pa_nil)))))))) pss_nil)
   (pss_cons (ps_set (i:=5) scLRight.nd rfl (Or.inl rfl) pe_int)
   (pss_cons (ps_set (i:=6) scLRight.nd rfl (Or.inl rfl) (pe_op op_sub (pe_callB (call_sumL rfl) (by rfl) N.sum PyProof.Rows.boot_sum (pa_cons (pe_comp (compSc_mk (fs:=defScope sLRight) (N:=nLRight) rfl rfl (by decide +kernel)) rfl (pi_values (pv 1)) (fun _ _ _ _ _=>pts_nil) (fun _ _ _ _ _=>(pe_ix (r:=rIxT K) ix_tup (pv 0) pe_int (fun _ _=>rfl)))) pa_nil)) (pv 0)))
   (pss_cons (ps_for PassesOwn.never rfl (pi_range1 rfl N.range (pa_cons pe_int pa_nil)) (pg_name (i:=7) scLRight.nd rfl (Or.inr rfl))
    (pss_cons (ps_setComp (i:=8) (compSc_mk (fs:=defScope sLRight) (N:=nLRight) rfl rfl (by decide +kernel)) rfl scLRight.nd rfl (Or.inl rfl) (pi_values (pv 1)) (fun _ _ _ _ _=>pts_one (pt_cmpR op_eq (pe_ix (r:=rIxT K) ix_tup (pv 0) pe_int (fun _ _=>rfl)) (pv 8) (nomark _))) (fun _ _ _ _ _=>(pe_ix (r:=rIxT K) ix_tup (pv 0) pe_int (fun _ _=>rfl))) rfl)
    (pss_one (ps_if (pw_and (pt_cmpR op_gt (pv 6) pe_int (nomark _)) (pw_and1 (pt_cmpR (op_neN hu0) (pv 8) (pe_lst pa_nil) (nomark _)))).pt (pss_cons (ps_set (i:=5) scLRight.nd rfl (Or.inl rfl) (pe_op op_add (pv 5) pe_int))
     (pss_one (ps_set (i:=6) scLRight.nd rfl (Or.inl rfl) (pe_op op_sub (pv 6) (pe_callB (call_sumL rfl) (by rfl) N.sum PyProof.Rows.boot_sum (pa_cons (pv 8) pa_nil)))))) pss_nil))))
   (pss_one (ps_ret (pe_and (pe_cmpR op_eq (pv 3) pe_int (nomark _)) (pe_and (pe_cmpR op_eq (pe_callB call_len_seq (by rfl) N.len PySem.boot_len (pa_cons (pv 4) pa_nil)) (pv 5) (nomark _)) (pe_one (pe_call G3 hr1 (by rfl) m3 k3 b3 .nil pass0 (pa_cons (pv 1) (pa_cons (pv 2) pa_nil)))))))))))),?_⟩
  try rw [show (cxOf CX0 P w K mg base nLRight "_law_right" (defScope sLRight) f cdv A outer s H E).nox.K=K from rfl]
  have pok:=plan_ok hok hR0 hR1
  have hk:=hok.2.2.2
  have nd:=hok.2.1
  refine seq_abs fun N1 hN=>?_
  refine ⟨_,rfl,_,rfl,dI,_,rfl,hI,list_vals (cl 1) hI hok (fun x H' Q' hx hT hq=>⟨_,rfl,x.2.1,_,_,_,rfl,rfl,SqT.of hT,x.2.2.at (j:=1) (by decide),hq⟩) fun D1 H1 hD1 k1 h1=>⟨D1,_,rfl,SqL.of h1,_,_,rfl,rfl,_,rfl,?_⟩⟩
  have hI1:=k1.rd (fun z=>z) hI
  have hok1:=k1.its0 hok
  have hS1:=k1.rd (fun z=>z) hS
  have hL1:=k1.lst (fun z=>z) hL
  refine ite2 (fun h=>?_) (fun h=>?_)
  ·have hc:sumI (cl 1) its ≤ R:=of_decide_eq_true h
   have ep:planOf R its=plGrow R its:=if_pos hc
   rw [ep] at hSh pok hS1 ⊢
   obtain ⟨f1,f2,f3⟩:=grow_facts pok hSh
   refine ⟨_,rfl,lL,_,rfl,.inl (SqL.of hL1),rfl,_,rfl,iteB (decide_eq_true (by rw [hll,f1]; rfl)) ?_⟩
   refine ⟨_,rfl,_,rfl,_,rfl,dI,dS,its,_,_,rfl,nIS,hI1,hok1,hS1,f3,fun H2 k2=>k H2 (k1.trans k2)⟩
  have hc:R < sumI (cl 1) its:=by
   by_cases z:sumI (cl 1) its ≤ R
   ·exact absurd (decide_eq_true z) h
   ·omega
  refine hN _ _ ?_
  clear hN N1
  clear h
  refine seq_abs fun N1 hN=>?_
  refine ⟨_,rfl,_,rfl,dI,_,rfl,hI1,list_vals (cl 0) hI1 hok1 (fun x H' Q' hx hT hq=>⟨_,rfl,x.2.1,_,_,_,rfl,rfl,SqT.of hT,x.2.2.at (j:=0) (by decide),hq⟩) fun D2 H2 hD2 k2 h2=>⟨D2,_,rfl,SqL.of h2,_,_,rfl,rfl,_,rfl,?_⟩⟩
  have k02:=k1.trans k2
  have hI2:=k2.rd (fun z=>z) hI1
  have hok2:=k2.its0 hok1
  have hS2:=k2.rd (fun z=>z) hS1
  have hL2:=k2.lst (fun z=>z) hL1
  refine ite2 (fun h=>?_) (fun h=>?_)
  ·have hc0:sumI (cl 0) its ≤ R:=of_decide_eq_true h
   have ep:planOf R its=plShrink R its:=by
    unfold planOf
    rw [if_neg (by omega),if_pos hc0]
   rw [ep] at hSh pok hS2 ⊢
   obtain ⟨f1,f2,f3,f4⟩:=shrink_facts pok nd hk hc0 hc hSh
   refine ⟨_,rfl,rfl,_,rfl,iteB (decide_eq_true (by rw [f2])) ?_⟩
   refine ⟨_,rfl,lL,_,rfl,.inl (SqL.of hL2),(by show 2 ≤ sizeLine; decide),fun tt htt=>?_⟩
   generalize hG:upd H2 tt _=H3
   have s3:Same H2 H3:=by rw [← hG]; exact Same.put (Same.refl _) htt
   have h3:H3 tt=some (.tup [.int 1,.int 2]):=by rw [← hG]; exact upd_same
   clear hG
   refine ⟨tt,_,rfl,.inr (SqT.of h3),rfl,rfl,true,?_,iteT ?_⟩
   ·rcases f1 with z | z <;> (rw [hll,z]; rfl)
   ·have k3:Kr M0 H2 H3:=.same s3
    exact ⟨_,rfl,_,rfl,dI,dS,its,_,rfl,nIS,k3.rd (fun z=>z) hI2,k3.its0 hok2,k3.rd (fun z=>z) hS2,f3,f4,fun H4 k4=>k H4 (k02.trans (k3.trans k4))⟩
  have hc0:R < sumI (cl 0) its:=by
   by_cases z:sumI (cl 0) its ≤ R
   ·exact absurd (decide_eq_true z) h
   ·omega
  refine hN _ _ ?_
  clear hN N1
  clear h
  have ep:planOf R its=plYield R its:=by
   unfold planOf
   rw [if_neg (by omega),if_neg (by omega)]
  rw [ep] at hSh pok hS2 ⊢
  obtain ⟨f2,f3,f4⟩:=yield_facts hok hR0 hc0 hSh
  refine seq_abs fun N1 hN=>?_
  refine hN _ _ ?_
  clear hN N1
  refine seq_abs fun N1 hN=>?_
  refine ⟨_,rfl,dI,_,rfl,hI2,list_vals (cl 0) hI2 hok2 (fun x H' Q' hx hT hq=>⟨_,rfl,x.2.1,_,_,_,rfl,rfl,SqT.of hT,x.2.2.at (j:=0) (by decide),hq⟩) fun D3 H3 hD3 k3 h3=>⟨D3,_,rfl,SqL.of h3,_,rfl,_,_,rfl,rfl,?_⟩⟩
  refine hN _ _ ?_
  clear hN N1
  have k03:=k02.trans k3
  have hI3:=k3.rd (fun z=>z) hI2
  have hok3:=k3.its0 hok2
  have hS3:=k3.rd (fun z=>z) hS2
  have hL3:=k3.lst (fun z=>z) hL2
  clear h1 h2 h3 k1 k2 k3 hI1 hI2 hok1 hok2 hS1 hS2 hL1 hL2
  refine seq_abs fun N1 hN=>?_
  refine ⟨10,rfl,by decide,by decide,?_⟩
  refine for_range (lo:=0) (n:=10) (fun i σ G=>∃ (lack:Int) (v7 v8:Option V),σ=[some (.int R),some (.ref dI),some (.ref dS),some (.int (R - sumI (szF (plYield R its) c) its)),some (.ref lL),some (.int ((stA its (sumI (cl 0) its - R) i).1.length:Nat)),some (.int lack),v7,v8]∧(0 < lack ↔ 0 < (stA its (sumI (cl 0) its - R) i).2)∧(0 < lack→lack=(stA its (sumI (cl 0) its - R) i).2)∧Kr M0 H3 G)
   ⟨_,none,none,rfl,Iff.rfl,fun _=>rfl,.same (Same.refl _)⟩ ?_ ?_
  ·rintro i σ G hi ⟨lack,v7,v8,rfl,hl1,hl2,kG⟩
   have hIG:=kG.rd (fun z=>z) hI3
   have hokG:=kG.its0 hok3
   rw [stA_succ hi]
   generalize stA its (sumI (cl 0) its - R) i=st at *
   refine ⟨_,rfl,dI,_,rfl,hIG,list_valsF (fun x=>decide (V.int (cl 5 x)=V.int (0 + (i:Int)))) (cl 0) hIG hokG (fun x H' Q' hx hT hq=>⟨_,rfl,x.2.1,_,_,_,rfl,rfl,SqT.of hT,x.2.2.at (j:=5) (by decide),_,rfl,rfl,_,rfl,hq⟩) (fun x H' Q' hx hT hq=>⟨_,rfl,x.2.1,_,_,_,rfl,rfl,SqT.of hT,x.2.2.at (j:=0) (by decide),hq⟩) fun D4 H4 hD4 k4 h4=>?_⟩
   rw [ofR_dec] at h4
   have k34:=kG.trans k4
   refine ⟨_,rfl,_,_,rfl,rfl,_,rfl,ite2 (fun h=>?_) (fun h=>iteF ?_)⟩
   ·have hp:0 < lack:=of_decide_eq_true h
    refine ⟨_,rfl,smallE (by simp),fun el hel=>?_⟩
    generalize hG:upd H4 el _=H5
    have s5:Same H4 H5:=by rw [← hG]; exact Same.put (Same.refl _) hel
    have h5:H5 el=some (.lst []):=by rw [← hG]; exact upd_same
    clear hG
    refine ⟨D4,el,_,rfl,rfl,SqL.of (s5 _ _ h4),SqL.of h5,?_⟩
    have ee:(((its.filter (ofR (i:Int))).map (cl 0)).map V.int).isEmpty=!neR its i:=by
     rw [← nil_neR]
     cases its.filter (ofR (i:Int)) <;> rfl
    rw [ee,Bool.not_not]
    have k35:Kr M0 H3 H5:=k34.trans (.same s5)
    cases ne:neR its i with
    | true =>
     refine ⟨_,rfl,iteT ?_⟩
     have hp2:=hl1.mp hp
     rw [yS_yes hp2 ne]
     refine ⟨_,rfl,_,_,rfl,rfl,_,rfl,_,rfl,D4,_,rfl,SqL.of (s5 _ _ h4),_,_,rfl,rfl,?_⟩
     have e2:=hl2 hp
     have eg:givR its st.2 i=if sumI (cl 0) (its.filter (ofR (i:Int))) < st.2 then sumI (cl 0) (its.filter (ofR (i:Int))) else st.2:=rfl
     refine (show ∃ (lack':Int) (v7 v8:Option V),_ from ⟨lack - sumI (cl 0) (its.filter (ofR (i:Int))),some (.int (0 + (i:Int))),some (.ref D4),?_,?_,?_,k35⟩)
     ·rw [List.length_append]
      rfl
     ·show 0 < lack - sumI (cl 0) (its.filter (ofR (i:Int))) ↔ 0 < st.2 - givR its st.2 i
      rw [eg]
      split <;> omega
     ·show 0 < lack - sumI (cl 0) (its.filter (ofR (i:Int)))→lack - sumI (cl 0) (its.filter (ofR (i:Int)))=st.2 - givR its st.2 i
      rw [eg]
      split <;> omega
    | false =>
     refine ⟨_,rfl,iteF ?_⟩
     rw [yS_no fun z=>(by rw [ne] at z; exact nomatch z.2)]
     exact (show ∃ (lack':Int) (v7 v8:Option V),_ from ⟨lack,_,_,rfl,hl1,hl2,k35⟩)
   ·rw [yS_no fun z=>h (decide_eq_true (hl1.mpr z.1))]
    exact (show ∃ (lack':Int) (v7 v8:Option V),_ from ⟨lack,_,_,rfl,hl1,hl2,k34⟩)
  ·rintro σ G ⟨lack,v7,v8,rfl,hl1,hl2,kG⟩
   refine hN _ _ ?_
   refine ⟨_,rfl,rfl,_,rfl,iteB (decide_eq_true (by rw [f2])) ?_⟩
   refine ⟨_,rfl,lL,_,rfl,.inl (SqL.of (kG.lst (fun z=>z) hL3)),_,rfl,rfl,_,rfl,iteB (decide_eq_true ?_) ?_⟩
   ·rw [hll,hSh.1,stA_ten hk]
   ·exact ⟨_,rfl,_,rfl,dI,dS,its,_,rfl,nIS,kG.rd (fun z=>z) hI3,kG.its0 hok3,kG.rd (fun z=>z) hS3,f3,f4,fun H4 k4=>k H4 (k03.trans (kG.trans k4))⟩
end
end B04
namespace L2
open PySem PySem.Spec PySem.W PyProof.Rows
section
variable {P:Program} {w:World}
theorem neW_tuple (l b:Addr) (us vs:Array Value) (n m:Nat) (d1 d2:Option Addr) (sa sb:Array (Option Value)) (hsz:us.size=vs.size) :
  MeetsIn P w (Builtin.«tuple.__ne__» ⟨[.ref l,.ref b],[]⟩)
   (fun A R s=>s.heap.get? l=some { cls:=.type "tuple",dict:=d1,data:=.seq us n,slots:=sa }∧s.heap.get? b=some { cls:=.type "tuple",dict:=d2,data:=.seq vs m,slots:=sb } ∧
    (∀ j (z1:j < us.size) (z2:j < vs.size),EqW P w A.in1 s us[j] vs[j])∧R (.ok (.ret (.bool false))) s) :=
 .of_wp fun A R s h=>by
  obtain ⟨hp,g,d,tk,os⟩:=s; obtain ⟨hL,hB,hE,h⟩:=h
  have f2:=AutoSeq1.sub_tuple_tuple
  wp_walk using wpAny_loadPart' hL,wpAny_loadPart' hB,wpAny_forIn_list _ (fun rest b s'=>b.1=none∧s'=⟨hp,g,d,tk,os⟩∧∃ i,rest=(us.toList.zip vs.toList).drop i) _
  case turn =>
   rintro ⟨y,x⟩ rest b s' ⟨hb',rfl,i,hz⟩
   have hlt:i < (us.toList.zip vs.toList).length:=by
    by_cases q:i < (us.toList.zip vs.toList).length
    ·exact q
    ·rw [List.drop_of_length_le (by omega)] at hz; cases hz
   have hm:i < us.size∧i < vs.size:=by
    rw [List.length_zip] at hlt
    simp only [Array.length_toList] at hlt
    omega
   rw [List.drop_eq_getElem_cons hlt] at hz
   injection hz with hyx hrest
   have ey:y=us[i]'hm.1:=by have:=congrArg Prod.fst hyx; simpa using this
   have ex:x=vs[i]'hm.2:=by have:=congrArg Prod.snd hyx; simpa using this
   subst ey ex
   refine wpAny_bind (hE i hm.1 hm.2 _ _ ?_)
   wp_walk
   exact ⟨rfl,rfl,i + 1,hrest⟩
  case fin =>
   rintro ⟨b1,b2⟩ s' ⟨hb',rfl,i,hz⟩
   simp only at hb'
   subst hb'
   wp_walk
   exact ⟨_,rfl,by simpa [Builtin.Tuple.tupleCompareSizes,hsz] using h⟩
  case h =>
   exact ⟨rfl,rfl,0,rfl⟩
end
section
variable {X:Cx}
def rEqTW2 (K:PySem.W.Frag):R2:=fun x y H Q=>∃ (a b:Addr) (xs ys:List V),x=.ref a∧y=.ref b∧SqT K H a xs∧SqT K H b ys∧xs.length=ys.length∧(∀ (j:Nat) (x y:V),xs[j]?=some x→ys[j]?=some y→SameW K H x y)∧Q (.bl true) H
def rNeTW2 (K:PySem.W.Frag):R2:=fun x y H Q=>∃ (a b:Addr) (xs ys:List V),x=.ref a∧y=.ref b∧SqT K H a xs∧SqT K H b ys∧xs.length=ys.length∧(∀ (j:Nat) (x y:V),xs[j]?=some x→ys[j]?=some y→SameW K H x y)∧Q (.bl false) H
theorem op_eqTW2 (hu:X.A.units + 20 < cLine):OpR X (compareOp .Eq) (rEqTW2 X.K):=by
 intro pins s σ H x y v u Q I rx ry h
 obtain ⟨a,b,xs,ys,e1,e2,hA,hB,hl,he,q⟩:=h
 subst e1 e2
 obtain rfl:v=Value.ref a:=rx
 obtain rfl:u=Value.ref b:=ry
 obtain ⟨its,r,pl,hz⟩:=I.tuple hA
 obtain ⟨its2,r2,pl2,hz2⟩:=I.tuple hB
 have l1:=r.length
 have l2:=r2.length
 obtain ⟨⟨cls,dd,data,sl⟩,ho,hc,n,hd⟩:=id pl
 obtain ⟨⟨cls2,dd2,data2,sl2⟩,ho2,hc2,n2,hd2⟩:=id pl2
 simp only at hc hd hc2 hd2
 subst hc hd hc2 hd2
 refine wpAny_richCompare_same_room (op:=.Eq) ⟨_,ho,rfl⟩ ⟨_,ho2,rfl⟩ PySem.F.slot_tuple_eq (call_meetsIn PySem.F.slot_tuple_eq ⟨_,ho,rfl⟩ PySem.F.entry_tuple_eq (PySem.F.args_tuple_eq_2 _ _) (eqW_tuple a b its.toArray its2.toArray n n2 dd dd2 sl sl2 (by rw [List.size_toArray,List.size_toArray]; omega)) ⟨ho,ho2,fun j z1 z2=>?_,?_⟩) (by omega)
 ·obtain ⟨x,ex,rx⟩:=vals_at r j z1
  obtain ⟨y,ey,ry⟩:=vals_at r2 j z2
  exact eqW_ofW I (show X.A.units + 1 + 4 < cLine by omega) (he j x y ex ey) rx ry
 ·exact ⟨(fun z=>nomatch z),V.bl true,H,I,rfl,q⟩
theorem op_neTW2 (hu:X.A.units + 20 < cLine):OpR X (compareOp .NotEq) (rNeTW2 X.K):=by
 intro pins s σ H x y v u Q I rx ry h
 obtain ⟨a,b,xs,ys,e1,e2,hA,hB,hl,he,q⟩:=h
 subst e1 e2
 obtain rfl:v=Value.ref a:=rx
 obtain rfl:u=Value.ref b:=ry
 obtain ⟨its,r,pl,hz⟩:=I.tuple hA
 obtain ⟨its2,r2,pl2,hz2⟩:=I.tuple hB
 have l1:=r.length
 have l2:=r2.length
 obtain ⟨⟨cls,dd,data,sl⟩,ho,hc,n,hd⟩:=id pl
 obtain ⟨⟨cls2,dd2,data2,sl2⟩,ho2,hc2,n2,hd2⟩:=id pl2
 simp only at hc hd hc2 hd2
 subst hc hd hc2 hd2
 refine wpAny_richCompare_same_room (op:=.NotEq) ⟨_,ho,rfl⟩ ⟨_,ho2,rfl⟩ PySem.F.slot_tuple_ne (call_meetsIn PySem.F.slot_tuple_ne ⟨_,ho,rfl⟩ PySem.F.entry_tuple_ne (PySem.F.args_tuple_ne_2 _ _) (neW_tuple a b its.toArray its2.toArray n n2 dd dd2 sl sl2 (by rw [List.size_toArray,List.size_toArray]; omega)) ⟨ho,ho2,fun j z1 z2=>?_,?_⟩) (by omega)
 ·obtain ⟨x,ex,rx⟩:=vals_at r j z1
  obtain ⟨y,ey,ry⟩:=vals_at r2 j z2
  exact eqW_ofW I (show X.A.units + 1 + 4 < cLine by omega) (he j x y ex ey) rx ry
 ·exact ⟨(fun z=>nomatch z),V.bl false,H,I,rfl,q⟩
def rNeD0:R2:=fun x y H Q=>∃ (a b:Addr) (kvs:List (Key × V)),x=.ref a∧y=.ref b∧Rd H a (.dK kvs)∧Rd H b (.dK [])∧Q (.bl (!kvs.isEmpty)) H
theorem op_neD0 (hu:X.A.units < cLine):OpR X (compareOp .NotEq) rNeD0:=by
 intro pins s σ H x y v u Q I rx ry h
 obtain ⟨a,b,kvs,e1,e2,da,db,q⟩:=h
 subst e1 e2
 cases rx
 cases ry
 obtain ⟨z,ha,vs,r1,d1⟩:=dk_rd I.hok da
 obtain ⟨_,hb,us,r2,d2⟩:=dk_rd I.hok db
 have e2:us=[]:=by cases r2; rfl
 subst e2
 refine keq_ne (r:=true) ha hb d1 d2 hu (fun hl=>?_) ?_
 ·have e1:vs=[]:=by
   cases vs with
   | nil=>rfl
   | cons x l=>simp at hl
  subst e1
  exact .nil
 ·have el:(!(vs.length == ([]:List (Key × Value)).length && true))=!kvs.isEmpty:=by
   cases r1 <;> rfl
  rw [el]
  exact ⟨.bl _,H,I,rfl,q⟩
end
end L2
namespace B04
open PySem L2 S2
theorem Kr.freeT {T:Addr} {H G:Hp} {ps:Array Value} (k:Kr (fun b=>b=T) H G) (hT:G T=some (.tbl ps)) {b:Addr} (h:G b=none):H b=none:=by
 cases e:H b with
 | none=>rfl
 | some u =>
  by_cases q:b=T
  ·subst q
   rw [hT] at h
   cases h
  ·rcases k b u q e with z | ⟨kvs,_,r⟩
   ·rw [h] at z
    cases z
   ·rcases r with z | ⟨_,z⟩ <;> (rw [h] at z; cases z)
theorem Kr.tbl0 {H H':Hp} {T:Addr} {ps:Array Value} (k:Kr M0 H H') (h:H T=some (.tbl ps)):H' T=some (.tbl ps):=by
 rcases k T _ (fun z=>z) h with z | ⟨kvs',z | ⟨o',z⟩,r⟩
 ·exact z
 ·cases z
 ·cases z
theorem Kr.tab0 {H H':Hp} {ps:Array Value} (k:Kr M0 H H') (h:TabOk H lamPos lamQual ps):TabOk H' lamPos lamQual ps:=tab_keep h fun c e=>by
 rcases k c _ (fun z=>z) e with z | ⟨kvs',z | ⟨o',z⟩,r⟩
 ·exact z
 ·cases z
 ·cases z
theorem rd_neT {H:Hp} {d T:Addr} {kvs:List (Key × V)} {ps:Array Value} (h:Rd H d (.dK kvs)) (hT:H T=some (.tbl ps)):d ≠ T:=fun z=>by
 subst z
 rcases h with y | ⟨_,y⟩ <;> (rw [hT] at y; cases y)
theorem rd_new {H:Hp} {d e:Addr} {kvs:List (Key × V)} (h:Rd H d (.dK kvs)) (he:H e=none):d ≠ e:=fun z=>by
 subst z
 rcases h with y | ⟨_,y⟩ <;> (rw [he] at y; cases y)
theorem vI_eq {u v:It6→Int} {l:List It6} (h:∀ x ∈ l,u x=v x):vI u l=vI v l:=List.map_congr_left fun x hx=>by rw [h x hx]
theorem put_vI4 {its:List It6} {u:It6→Int} {x:It6} (hx:x ∈ its) {n:Int}:putK (kvW (vI u its)) (.inr x.1) (.int n)=kvW (vI (fun y=>if y.1=x.1 then n else u y) its):=by
 rw [putW_old (by rw [vI_keys]; exact List.mem_map_of_mem hx)]
 unfold vI
 rw [List.map_map]
 congr 1
 refine List.map_congr_left fun y _=>?_
 show (if y.1=x.1 then (y.1,n) else (y.1,u y))=(y.1,if y.1=x.1 then n else u y)
 split <;> rfl
theorem merge_vI {its:List It6} (nd:(its.map (·.1)).Nodup) (v:It6→Int):∀ (l:List It6) (u:It6→Int),(∀ x ∈ l,x ∈ its)→(l.map (·.1)).Nodup→∃ u',mergeP (kvW (vI u its)) (kvW (vI v l))=kvW (vI u' its)∧(∀ x ∈ l,u' x=v x)∧∀ x ∈ its,x ∉ l→u' x=u x
 | [],u,_,_=>⟨u,rfl,fun _ h=>(nomatch h),fun _ _ _=>rfl⟩
 | y :: l,u,hl,hn=>by
  rw [List.map_cons,List.nodup_cons] at hn
  obtain ⟨u',e,h1,h2⟩:=merge_vI nd v l (fun z=>if z.1=y.1 then v y else u z) (fun x hx=>hl x (List.mem_cons_of_mem _ hx)) hn.2
  have hy:=hl y List.mem_cons_self
  refine ⟨u',?_,fun x hx=>?_,fun x hx hn'=>?_⟩
  ·show mergeP (putK (kvW (vI u its)) (.inr y.1) (.int (v y))) (kvW (vI v l))=_
   rw [put_vI4 hy]
   exact e
  ·rcases List.mem_cons.mp hx with z | z
   ·subst z
    rw [h2 x hy fun z=>hn.1 (List.mem_map_of_mem (f:=(·.1)) z),if_pos rfl]
   ·exact h1 x z
  ·rw [h2 x hx fun z=>hn' (List.mem_cons_of_mem _ z),if_neg fun z=>hn' ?_]
   rw [key_inj nd hx hy z]
   exact List.mem_cons_self
theorem toIt_capsA {w c:It6→Int} {l:List It6} (nd:(l.map (·.1)).Nodup):CapsOk (vI c l) (toIt w c l):=by
 have:=toIt_caps (w:=w) (c:=c) nd fun _=>true
 rw [filter_T] at this
 exact this
theorem t10_drop:∀ i:Nat,i < 10→t10.drop i=(i:Int) :: t10.drop (i + 1):=by decide
theorem yl_drop {its:List It6} {c:Str→Int} {lack:Int} (h:Yl its c t10 lack):∀ i:Nat,i ≤ 10→Yl its c (t10.drop i) (stA its lack i).2
 | 0,_=>h
 | i + 1,hi=>by
  have ih:=yl_drop h i (by omega)
  rw [t10_drop i (by omega)] at ih
  have y3:=ih.2.2
  rw [stA_succ (by omega)]
  generalize stA its lack i=s at *
  have e:(yS its s (i:Int)).2=if 0 < s.2 then s.2 - givR its s.2 (i:Int) else s.2:=by
   by_cases q:0 < s.2
   ·cases ne:neR its (i:Int) with
    | true=>rw [yS_yes q ne,if_pos q]
    | false=>rw [yS_no fun z=>(by rw [ne] at z; exact nomatch z.2),if_pos q,givR_empty ne q,Int.sub_zero]
   ·rw [yS_no fun z=>q z.1,if_neg q]
  rw [e]
  exact y3
theorem stA_get {its:List It6} {lack:Int}:∀ (n i:Nat),i + n ≤ 10→∀ (j:Nat) (p:Po),(stA its lack i).1[j]?=some p→(stA its lack (i + n)).1[j]?=some p
 | 0,_,_,_,_,e=>e
 | n + 1,i,h,j,p,e=>by
  have e1:=stA_get n i (by omega) j p e
  rw [show i + (n + 1)=(i + n) + 1 by omega,stA_succ (by omega)]
  generalize stA its lack (i + n)=s at *
  by_cases q:0 < s.2∧neR its ((i + n:Nat):Int)=true
  ·rw [yS_yes q.1 q.2]
   show (s.1 ++ _)[j]?=_
   rw [List.getElem?_append_left (get_lt e1)]
   exact e1
  ·rw [yS_no q]
   exact e1
theorem putF {v:It6→Int} {c:It6→Bool} {l:List It6} (nd:(l.map (·.1)).Nodup) {i:Nat} {x:It6} (h:l[i]?=some x) (hc:c x=true):putK (kvW (vI v ((l.take i).filter c))) (.inr x.1) (.int (v x))=kvW (vI v ((l.take (i + 1)).filter c)):=by
 rw [putW_new (fun z=>?_)]
 ·rw [take_filter h,if_pos hc]
  unfold vI
  rw [List.map_append]
  rfl
 ·rw [vI_keys] at z
  obtain ⟨y,hy,e⟩:=List.mem_map.mp z
  have h1:=memF6 hy
  refine take_nin nd (i:=i) (x:=x.1) (by rw [List.getElem?_map,h]; rfl) ?_
  rw [← List.map_take]
  exact List.mem_map.mpr ⟨y,h1,e⟩
def spLRanks (T:Addr):Sp:=fun vs H Q _=>∃ (dI:Addr) (its:List It6) (R:Int) (c:Str→Int) (ls:List (Option (Nat × Nat))) (ps:Array Value),vs=[.int R,.ref dI]∧Rd H dI (.dK (kvR its))∧ItsOk H its∧PlOk its (plYield R its)∧H T=some (.tbl ps)∧TabOk H lamPos lamQual ps∧ShP its (plYield R its) c ls ∧
 ∀ (tt dS lL:Addr) (lvs:List V) (ps':Array Value) (H':Hp),Kr (fun b=>b=T) H H'→H' T=some (.tbl ps')→TabOk H' lamPos lamQual ps'→H' tt=some (.tup [.ref dS,.int 0,.ref lL])→H' dS=some (.dK (kvW (vI (szF (plYield R its) c) its)))→H' lL=some (.lst lvs)→LvsAt H' lvs ls→Q (.ref tt) H'
section
variable {P:Program} {w:World} {K:PySem.W.Frag} {mg:Str→Option Value} {base:Heap}
abbrev nLRanks:List Str:=["_law_room_here","_law_items_here","_law_sizes","_law_lack","_law_levels","_law_rank","_law_leasts","_law_name","_law_part","_law_gone","_law_level"]
theorem scLRanks:FnScope nLRanks ["_law_room_here","_law_items_here"] (defScope sLRanks):=⟨rfl,rfl,rfl,by decide +kernel,rfl,by decide +kernel,by decide +kernel⟩
set_option maxHeartbeats 16000000 in
theorem ok_lRanks {f f1 f2 f3 f4:Addr} {fd d1 d2 d3 d4:FuncData} {T:Addr} (F:Fun K "_law_by_ranks" "_law_by_ranks" sLRanks f fd) (N:Names mg)
  (G1:FnOk P w K mg base CX0 1 f1 d1 ["_law_items_here","_law_at_here"] spLColumn) (b1:Binds K d1 ["_law_items_here","_law_at_here"] []) (m1:mg "_law_column"=some (.ref f1)) (k1:PySem.W.keepIn K (.ref f1)=true)
  (G2:FnOk P w K mg base CX0 4 f2 d2 ["room","weights","caps"] (spPour T)) (b2:Binds K d2 ["room","weights","caps"] []) (m2:mg "pour"=some (.ref f2)) (k2:PySem.W.keepIn K (.ref f2)=true)
  (G3:FnOk P w K mg base CX0 1 f3 d3 ["_law_names_here"] spLOnes) (b3:Binds K d3 ["_law_names_here"] []) (m3:mg "_law_ones"=some (.ref f3)) (k3:PySem.W.keepIn K (.ref f3)=true)
  (G4:FnOk P w K mg base CX0 1 f4 d4 ["_law_some","_law_others"] spLLess) (b4:Binds K d4 ["_law_some","_law_others"] []) (m4:mg "_law_less"=some (.ref f4)) (k4:PySem.W.keepIn K (.ref f4)=true):FnOk P w K mg base CX0 5 f fd ["_law_room_here","_law_items_here"] (spLRanks T):=by
 refine F.ok scLRanks (fun vs H Q E h=>?_) (fun cdv A outer s H vs Q E hr h=>?_)
 ·obtain ⟨dI,its,R,c,ls,ps,e,_⟩:=h
  rw [e]
  rfl
 ·obtain ⟨dI,its,R,c,ls,ps,e,hI,hok,pok,hT,hTk,hSh,k⟩:=h
  subst e
  have hr1:=hr.mono (j:=1) (by decide)
  have hr4:=hr.mono (j:=4) (by decide)
  have hu:(A.deeper (PyProof.Rows.envOfC "_law_by_ranks" (defScope sLRanks) s.heap.objs.size f cdv)).units + 1 < cLine:=by have:=hr.units; omega
  have hu0:(A.deeper (PyProof.Rows.envOfC "_law_by_ranks" (defScope sLRanks) s.heap.objs.size f cdv)).units < cLine:=by have:=hr.units; omega
  refine ⟨_,pss_cons (ps_set (i:=2) scLRanks.nd rfl (Or.inl rfl) (pe_call G1 hr1 (by rfl) m1 k1 b1 .nil pass0 (pa_cons (pv 1) (pa_cons pe_int pa_nil))))
   (pss_cons (ps_set (i:=3) scLRanks.nd rfl (Or.inl rfl) (pe_op op_sub (pe_sumV rfl (pv 2) (by rfl) (by rfl) (by rfl) N.sum PyProof.Rows.boot_sum) (pv 0)))
   (pss_cons (ps_set (i:=4) scLRanks.nd rfl (Or.inl rfl) (pe_lst pa_nil))
   (pss_cons (ps_for PassesOwn.never rfl (pi_range1 rfl N.range (pa_cons pe_int pa_nil)) (pg_name (i:=5) scLRanks.nd rfl (Or.inl rfl))
    (pss_cons (ps_set (i:=6) scLRanks.nd rfl (Or.inl rfl) pe_dnewK)
    (pss_cons (ps_for PassesOwn.never rfl (pi_keys (pv 1)) (pg_name (i:=7) scLRanks.nd rfl (Or.inl rfl))
     (pss_one (ps_if (pt_cmpR op_eq (pe_ix ix_tup (pe_dget hu (pv 1) (pv 7) (fun _ _=>rfl)) pe_int (fun _ _=>rfl)) (pv 5) (nomark _)) (pss_one (ps_dput hu (pv 6) (pv 7) (pe_ix ix_tup (pe_dget hu (pv 1) (pv 7) (fun _ _=>rfl)) pe_int (fun _ _=>rfl)) rfl)) pss_nil)))
    (pss_one (ps_if (pw_and (pt_cmpR op_gt (pv 3) pe_int (nomark _)) (pw_and1 (pt_cmpR (op_neD0 hu0) (pv 6) pe_dnewK (nomark _)))).pt (pss_cons (ps_set (i:=8) scLRanks.nd rfl (Or.inl rfl) (pe_callB (call_min2 rfl) (by rfl) N.min PyProof.Rows.boot_min (pa_cons (pv 3) (pa_cons (pe_sumV rfl (pv 6) (by rfl) (by rfl) (by rfl) N.sum PyProof.Rows.boot_sum) pa_nil))))
     (pss_cons (ps_asg (pe_call G2 hr4 (by rfl) m2 k2 b2 .nil pass0 (pa_cons (pv 8) (pa_cons (pe_call G3 hr1 (by rfl) m3 k3 b3 .nil pass0 (pa_cons (pv 6) pa_nil)) (pa_cons (pv 6) pa_nil)))) (pg_tup rfl (pgs_cons (pg_name (i:=9) scLRanks.nd rfl (Or.inl rfl)) (pgs_cons (pg_name (i:=10) scLRanks.nd rfl (Or.inl rfl)) pgs_nil))))
     (pss_cons (ps_expr (pe_bm PySem.F.plainAttrs_dict PySem.F.slot_dict_update PySem.F.type_dict_update mt_updateK (pv 2) (pa_cons (pe_call G4 hr1 (by rfl) m4 k4 b4 .nil pass0 (pa_cons (pv 6) (pa_cons (pv 9) pa_nil))) pa_nil)))
     (pss_cons (ps_expr (pe_bm PySem.F.plainAttrs_list PySem.F.slot_list_append PySem.F.type_list_append mt_append (pv 4) (pa_cons (pv 10) pa_nil)))
     (pss_one (ps_set (i:=3) scLRanks.nd rfl (Or.inl rfl) (pe_op op_sub (pv 3) (pv 8)))))))) pss_nil)))))
   (pss_one (ps_ret (pe_tup (pa_cons (pv 2) (pa_cons pe_int (pa_cons (pv 4) pa_nil))))))))),?_⟩
  try rw [show (cxOf CX0 P w K mg base nLRanks "_law_by_ranks" (defScope sLRanks) f cdv A outer s H E).nox.K=K from rfl]
  have nd:=hok.2.1
  have hk:=hok.2.2.2
  have hl20:its.length ≤ 20:=hok.2.2.1
  have hY:=yield_yl hok hSh
  have eps:=stA_ten hk R
  refine seq_abs fun N1 hN=>?_
  refine ⟨_,rfl,dI,its,0,rfl,hI,hok,by decide,fun dS H1 hdS k1 h1=>?_⟩
  refine hN _ _ ?_
  clear hN N1
  refine seq_abs fun N1 hN=>?_
  refine ⟨_,rfl,dS,_,_,rfl,.inl h1,vI_vals _ _,_,rfl,_,_,rfl,rfl,?_⟩
  refine hN _ _ ?_
  clear hN N1
  refine seq_abs fun N1 hN=>?_
  refine ⟨smallE (by simp),fun lL hlL=>?_⟩
  generalize hG:upd H1 lL _=H2
  have s2:Same H1 H2:=by rw [← hG]; exact Same.put (Same.refl _) hlL
  have h2:H2 lL=some (.lst []):=by rw [← hG]; exact upd_same
  clear hG
  refine hN _ _ ?_
  clear hN N1
  have k02:Kr M0 H H2:=k1.trans (.same s2)
  have hlL0:H lL=none:=k1.free hlL
  have hT2:=k02.tbl0 hT
  have hTk2:=k02.tab0 hTk
  have h2S:=s2 _ _ h1
  have nSL:dS ≠ lL:=ne_of_none h1 hlL
  have nIS:dI ≠ dS:=rd_new hI hdS
  have nIL:dI ≠ lL:=rd_new hI hlL0
  have nIT:dI ≠ T:=rd_neT hI hT
  refine seq_abs fun N1 hN=>?_
  refine ⟨10,rfl,by decide,by decide,?_⟩
  refine for_range (lo:=0) (n:=10) (fun i σ G=>∃ (u:It6→Int) (lvs:List V) (ps':Array Value) (v5 v6 v7 v8 v9 v10:Option V),σ=[some (.int R),some (.ref dI),some (.ref dS),some (.int (stA its (sumI (cl 0) its - R) i).2),some (.ref lL),v5,v6,v7,v8,v9,v10]∧Kr (fun b=>b=T) H G∧G T=some (.tbl ps')∧TabOk G lamPos lamQual ps'∧G dS=some (.dK (kvW (vI u its)))∧(∀ x ∈ its,u x=if cl 5 x < (i:Int) then cl 0 x - c x.1 else cl 0 x)∧G lL=some (.lst lvs)∧LvsAt G lvs (ls.take (stA its (sumI (cl 0) its - R) i).1.length))
   ⟨cl 0,[],ps,none,none,none,none,none,none,rfl,k02.le fun _ _ z=>z.elim,hT2,hTk2,h2S,fun x hx=>(by
    obtain ⟨_,_,_,_,_,_,_,_,z,_⟩:=hk x hx
    have z:0 ≤ cl 5 x:=z
    rw [if_neg (by omega)]),h2,⟨rfl,fun i v l e=>(by simp at e)⟩⟩ ?_ ?_
  ·rintro i σ G hi ⟨u,lvs,ps',v5,v6,v7,v8,v9,v10,rfl,kG,hTG,hTkG,hSG,hu',hLG,hLv⟩
   have hy:=yl_drop hY i (by omega)
   rw [t10_drop i hi] at hy
   have hget:=stA_get (its:=its) (lack:=sumI (cl 0) its - R) (10 - (i + 1)) (i + 1) (by omega)
   rw [show i + 1 + (10 - (i + 1))=10 by omega,← eps,stA_succ hi] at hget
   rw [stA_succ hi]
   generalize stA its (sumI (cl 0) its - R) i=st at *
   have hIG:=kG.rd nIT hI
   have hokG:ItsOk G its:=kG.its hok fun t xs e z=>ne_of e hT (by intro z; cases z) z
   refine seq_abs fun N2 hN2=>?_
   intro dL hdL
   generalize hG:upd G dL _=G1
   have s1:Same G G1:=by rw [← hG]; exact Same.put (Same.refl _) hdL
   have h1L:G1 dL=some (.dK []):=by rw [← hG]; exact upd_same
   clear hG
   refine hN2 _ _ ?_
   clear hN2 N2
   have hdL0:H dL=none:=kG.freeT hTG hdL
   have hI1:Rd G1 dI (.dK (kvG (fun x=>.ref x.2.1) its)):=hIG.keep fun o e=>s1 _ _ e
   refine seq_abs fun N2 hN2=>?_
   refine ⟨_,rfl,dI,_,rfl,hI1,fun o=>?_⟩
   have kf:Kr M0 G1 (upd G1 dI (.frz o (.dK (kvG (fun x=>.ref x.2.1) its)))):=.frz hI1
   have kfb:∀ b w,b ≠ dI→G1 b=some w→(upd G1 dI (.frz o (.dK (kvG (fun x=>.ref x.2.1) its)))) b=some w:=fun b w hb e=>by rw [upd_ne hb]; exact e
   have hq:(upd G1 dI (.frz o (.dK (kvG (fun x=>.ref x.2.1) its)))) dI=some (.frz o (.dK (kvG (fun x=>.ref x.2.1) its))):=upd_same
   have nLI:dL ≠ dI:=Ne.symm (rd_new hIG hdL)
   have h2L:=kfb _ _ nLI h1L
   generalize upd G1 dI (.frz o (.dK (kvG (fun x=>.ref x.2.1) its)))=G2 at *
   have kG2:Kr (fun b=>b=T) H G2:=kG.trans ((Kr.same s1).trans (kf.le fun _ _ z=>z.elim))
   have hok2:ItsOk G2 its:=kG2.its hok fun t xs e z=>ne_of e hT (by intro z; cases z) z
   refine for_keys (a:=dI) (o:=o) (kvs:=kvG (fun x=>.ref x.2.1) its) (fun j σ G'=>∃ (v7:Option V),σ=[some (.int R),some (.ref dI),some (.ref dS),some (.int st.2),some (.ref lL),some (.int (0 + (i:Int))),some (.ref dL),v7,v8,v9,v10]∧(∀ b w,b ≠ dL→G2 b=some w→G' b=some w)∧G' dL=some (.dK (kvW (vI (cl 0) ((its.take j).filter (ofR (i:Int)))))))
    ⟨_,rfl,fun _ _ _ e=>e,h2L⟩ (fun j σ G' _ h=>by obtain ⟨_,_,z,_⟩:=h; exact z _ _ (Ne.symm nLI) hq) ?_ ?_
   ·rintro j kk vv σ G' hkv ⟨v7,rfl,k',hL'⟩
    obtain ⟨x,ex,rfl,rfl⟩:=kvG_at hkv
    have hx:=List.mem_of_getElem? ex
    have gI:=get_kvG (u:=fun x=>.ref x.2.1) (.inr ⟨o,k' _ _ (Ne.symm nLI) hq⟩) nd hx
    have hTx:G' x.2.1=some (.tup x.2.2.vs):=k' _ _ (fun z=>by
     have e:=hok2.1 x hx
     rw [z,h2L] at e
     cases e) (hok2.1 x hx)
    refine ⟨_,rfl,_,rfl,dI,_,rfl,gI,x.2.1,_,_,_,rfl,rfl,SqT.of hTx,atI_nat (j:=5) rfl,_,rfl,rfl,_,rfl,ite2 (fun h=>?_) (fun h=>?_)⟩
    ·have hc:ofR (i:Int) x=true:=decide_eq_true (by
      have:=of_decide_eq_true h
      injection this with this
      rw [Int.zero_add] at this
      exact this)
     refine ⟨_,rfl,_,rfl,dI,_,rfl,gI,x.2.1,_,_,_,rfl,rfl,SqT.of hTx,atI_nat (j:=0) rfl,_,rfl,_,rfl,dL,_,rfl,DPut.k (k:=.inr x.1) hL' (small (by rw [kvW_len,vI_len]; have:=List.length_filter_le (ofR (i:Int)) (its.take j); rw [List.length_take] at this; omega)),?_⟩
     refine (show ∃ v7,_ from ⟨_,rfl,fun b w hb e=>?_,?_⟩)
     ·rw [upd_ne hb]
      exact k' b w hb e
     ·exact upd_same.trans (congrArg (fun z=>some (HO.dK z)) (putF (v:=cl 0) nd ex hc))
    ·have hc:ofR (i:Int) x=false:=by
      cases e:ofR (i:Int) x with
      | false=>rfl
      | true =>
       have:=of_decide_eq_true (p:=cl 5 x=(i:Int)) e
       exact absurd (decide_eq_true (by rw [Int.zero_add,← this]; rfl)) h
     refine (show ∃ v7,_ from ⟨_,rfl,k',?_⟩)
     rw [take_filter ex,if_neg (by rw [hc]; exact Bool.false_ne_true),List.append_nil]
     exact hL'
   ·rintro σ G3 ⟨v7,rfl,k',h3L⟩
    rw [kvG_len,List.take_length] at h3L
    refine hN2 _ _ ?_
    clear hN2 N2
    have kG3:Kr (fun b=>b=T) H G3:=kG2.fresh hdL0 k'
    have kp:∀ {b w},b ≠ dL→b ≠ dI→G b=some w→G3 b=some w:=fun h1 h2 e=>k' _ _ h1 (kfb _ _ h2 (s1 _ _ e))
    have hTn:T ≠ dL:=ne_of_none hTG hdL
    have h3T:=kp hTn (Ne.symm nIT) hTG
    have h3Tk:TabOk G3 lamPos lamQual ps':=tab_keep hTkG fun c e=>kp (ne_of_none e hdL) (fun z=>by
     subst z
     rcases hIG with y | ⟨_,y⟩ <;> (rw [e] at y; cases y)) e
    have h3S:=kp (ne_of_none hSG hdL) (Ne.symm nIS) hSG
    have h3Li:=kp (ne_of_none hLG hdL) (Ne.symm nIL) hLG
    have kt:∀ t xs,G t=some (.tup xs)→G3 t=some (.tup xs):=fun t xs e=>kp (ne_of_none e hdL) (fun z=>by
     subst z
     rcases hIG with y | ⟨_,y⟩ <;> (rw [e] at y; cases y)) e
    have h3Lv:=hLv.keep kt
    have nLS:dL ≠ dS:=Ne.symm (ne_of_none hSG hdL)
    have nLl:dL ≠ lL:=Ne.symm (ne_of_none hLG hdL)
    clear k' kfb kf s1 h1L h2L hq hTkG hSG hLG hLv kt kp hI1 hok2 kG2
    have hst:(∀ x ∈ its,cl 5 x=(i:Int)→c x.1=0)→∀ x ∈ its,u x=if cl 5 x < ((i + 1:Nat):Int) then cl 0 x - c x.1 else cl 0 x:=fun z x hx=>by
     rw [hu' x hx]
     by_cases q1:cl 5 x < (i:Int)
     ·rw [if_pos q1,if_pos (by omega)]
     ·by_cases q2:cl 5 x=(i:Int)
      ·rw [if_neg q1,if_pos (by omega),z x hx q2,Int.sub_zero]
      ·rw [if_neg q1,if_neg (by omega)]
    have inF:∀ x ∈ its,cl 5 x=(i:Int)→x ∈ its.filter (ofR (i:Int)):=fun x hx e=>List.mem_filter.mpr ⟨hx,decide_eq_true e⟩
    refine ⟨_,rfl,_,_,rfl,rfl,_,rfl,ite2 (fun h=>?_) (fun h=>iteF ?_)⟩
    ·have hp:0 < st.2:=of_decide_eq_true h
     refine ⟨_,rfl,fun e0 he0=>?_⟩
     generalize hG:upd G3 e0 _=G4
     have s4:Same G3 G4:=by rw [← hG]; exact Same.put (Same.refl _) he0
     have h4:G4 e0=some (.dK []):=by rw [← hG]; exact upd_same
     clear hG
     have h4L:=s4 _ _ h3L
     refine ⟨dL,e0,_,rfl,rfl,.inl h4L,.inl h4,?_⟩
     have ee:(kvW (vI (cl 0) (its.filter (ofR (i:Int))))).isEmpty=!neR its (i:Int):=by
      rw [← nil_neR]
      cases its.filter (ofR (i:Int)) <;> rfl
     rw [ee,Bool.not_not]
     have k4:Kr (fun b=>b=T) H G4:=kG3.trans (.same s4)
     have h4T:=s4 _ _ h3T
     have h4Tk:TabOk G4 lamPos lamQual ps':=tab_keep h3Tk fun c e=>s4 _ _ e
     have h4S:=s4 _ _ h3S
     have h4Li:=s4 _ _ h3Li
     have h4Lv:=h3Lv.keep fun t xs e=>s4 t _ e
     clear h3L h3T h3Tk h3S h3Li h3Lv kG3 he0 h4
     cases ne:neR its (i:Int) with
     | false =>
      refine ⟨_,rfl,iteF ?_⟩
      rw [yS_no fun z=>(by rw [ne] at z; exact nomatch z.2)]
      exact (show ∃ (u:It6→Int) (lvs:List V) (ps':Array Value) (v5 v6 v7 v8 v9 v10:Option V),_ from ⟨u,lvs,ps',_,_,_,_,_,_,rfl,k4,h4T,h4Tk,h4S,hst fun x hx e=>(by
       have z:=neR_iff.mpr (List.ne_nil_of_mem (inF x hx e))
       rw [ne] at z
       cases z),h4Li,h4Lv⟩)
     | true =>
      refine ⟨_,rfl,iteT ?_⟩
      rw [yS_yes hp ne] at hget ⊢
      have hps:=hget st.1.length _ (by
       show (st.1 ++ [_])[st.1.length]?=_
       rw [List.getElem?_append_right (Nat.le_refl _),Nat.sub_self]
       rfl)
      obtain ⟨hIn,hR0,hR1⟩:=pok.po _ (List.mem_of_getElem? hps)
      have hlt:st.1.length < ls.length:=by rw [hSh.1]; exact get_lt hps
      obtain ⟨l0,el0⟩:∃ l0,ls[st.1.length]?=some l0:=⟨_,List.getElem?_eq_getElem hlt⟩
      have hP0:=hSh.2.1 _ _ _ hps el0
      have nl:((its.filter (ofR (i:Int))).map (·.1)).Nodup:=nd_filter6 nd _
      have hll:(its.filter (ofR (i:Int))).length ≤ 20:=Nat.le_trans (List.length_filter_le _ _) hl20
      clear hget
      refine seq_abs fun N2 hN2=>?_
      refine ⟨_,rfl,_,rfl,dL,_,_,rfl,.inl h4L,vI_vals _ _,_,_,rfl,?_⟩
      refine hN2 _ _ ?_
      clear hN2 N2
      refine seq_abs fun N2 hN2=>?_
      refine ⟨_,rfl,_,rfl,dL,_,_,rfl,kvG_dk (.inl h4L),nl,hll,fun dO G5 hdO k5 x5 h5=>?_⟩
      have h5L:=k5.rd (fun z=>z) (.inl h4L)
      have nOL:dO ≠ dL:=Ne.symm (ne_of_none h4L hdO)
      have nST:dS ≠ T:=ne_of h4S h4T (by intro z; cases z)
      have nlT:lL ≠ T:=ne_of h4Li h4T (by intro z; cases z)
      have nLT:dL ≠ T:=ne_of h4L h4T (by intro z; cases z)
      refine ⟨_,rfl,dO,dL,toIt (fun _=>1) (cl 0) (its.filter (ofR (i:Int))),vI (cl 0) (its.filter (ofR (i:Int))),givR its st.2 (i:Int),ps',rfl,nOL,.inl (by rw [toIt_ws]; exact h5),h5L,toIt_capsA nl,hIn,hR0,hR1,k5.tbl0 h4T,k5.tab0 h4Tk,fun tt sd sz lv ps2 G6 htt hsd k6 hW6 hT6 hTk6 h6t h6s hP=>⟨tt,_,rfl,SqT.of h6t,rfl,_,_,rfl,_,_,rfl,rfl,?_⟩⟩
      refine hN2 _ _ ?_
      clear hN2 N2
      obtain ⟨l,hPP,hLv0⟩:=hP.pure
      obtain ⟨rfl,hsz⟩:=pour_uniq hIn hR0 hPP hP0
      rw [sz_vI,vI_eq (v:=fun x=>c x.1) fun x hx=>hsz _ (List.mem_map_of_mem (f:=fun x:It6=>(x.1,(1:Int),cl 0 x)) hx)] at h6s
      have nSO:dS ≠ dO:=ne_of_none h4S hdO
      have nlO:lL ≠ dO:=ne_of_none h4Li hdO
      have h6S:=k6 _ _ nST nSO (x5 _ _ (Ne.symm nLS) h4S)
      have h6Li:=k6 _ _ nlT nlO (x5 _ _ (Ne.symm nLl) h4Li)
      have k56:Kr (fun b=>b=T) G5 G6:=.but (.inl h5) (fun b u h1 h2 e=>k6 b u h2 h1 e) (by rw [← toIt_ws (fun _=>1) (cl 0)]; exact hW6)
      have k46:Kr (fun b=>b=T) G4 G6:=(k5.le fun _ _ z=>z.elim).trans k56
      have h6L:Rd G6 dL (.dK (kvW (vI (cl 0) (its.filter (ofR (i:Int)))))):=k46.rd nLT (.inl h4L)
      have k06:=k4.trans k46
      have h6Lv:=h4Lv.keep fun t xs e=>k46.tup (ne_of e h4T (by intro z; cases z)) e
      have nsL:dL ≠ sd:=rd_new h5L hsd
      have nsS:dS ≠ sd:=ne_of_none (x5 _ _ (Ne.symm nLS) h4S) hsd
      have nsl:lL ≠ sd:=ne_of_none (x5 _ _ (Ne.symm nLl) h4Li) hsd
      clear k5 x5 h5 h5L h4L h4S h4Li h4Lv h4T h4Tk hW6 k6 k56 k46 hP hPP hP0 htt hsd s4
      refine seq_abs fun N2 hN2=>?_
      refine ⟨_,rfl,.inr (.inr (.inl ⟨rfl,.inl ⟨_,h6S⟩⟩)),_,rfl,_,rfl,dL,sd,_,its.filter (ofR (i:Int)),_,_,rfl,nsL,h6L,.inl h6s,fun x hx=>hx,nl,nl,hll,fun d7 G7 hd7 k7 x7 h7=>?_⟩
      have h7S:=x7 _ _ (Ne.symm nLS) h6S
      have h7Li:=x7 _ _ (Ne.symm nLl) h6Li
      have h7T:=k7.tbl0 hT6
      have h7Tk:=k7.tab0 hTk6
      have nS7:dS ≠ d7:=ne_of_none h6S hd7
      have h7Lv:=h6Lv.keep fun t xs e=>k7.tup (fun z=>z) e
      have h7v:=lv_keep hLv0 fun t xs _ e=>k7.tup (fun z=>z) e
      have k07:=k06.trans (k7.le fun _ _ z=>z.elim)
      refine ⟨dS,d7,_,_,rfl,rfl,nS7,h7S,.inl h7,smallE (by rw [kvW_len,kvW_len,vI_len,vI_len]; omega),?_⟩
      obtain ⟨u',eu,hu1,hu2⟩:=merge_vI nd (fun x=>cl 0 x - c x.1) (its.filter (ofR (i:Int))) u (fun x hx=>memF6 hx) nl
      rw [eu]
      have k8:∀ {b w},b ≠ dS→G7 b=some w→(upd G7 dS (.dK (kvW (vI u' its)))) b=some w:=fun hb e=>by rw [upd_ne hb]; exact e
      have h8S:(upd G7 dS (.dK (kvW (vI u' its)))) dS=some (.dK (kvW (vI u' its))):=upd_same
      generalize upd G7 dS (.dK (kvW (vI u' its)))=G8 at *
      refine hN2 _ _ ?_
      clear hN2 N2
      have k08:Kr (fun b=>b=T) H G8:=k07.fresh hdS fun b w hb e=>k8 hb e
      have h8Li:=k8 (Ne.symm nSL) h7Li
      have h8T:=k8 (Ne.symm nST) h7T
      have kt8:∀ t xs,G7 t=some (.tup xs)→G8 t=some (.tup xs):=fun t xs e=>k8 (fun z=>by rw [z,h7S] at e; cases e) e
      have h8Tk:TabOk G8 lamPos lamQual ps2:=tab_keep h7Tk fun c e=>k8 (fun z=>by rw [z,h7S] at e; cases e) e
      have h8Lv:=h7Lv.keep kt8
      have h8v:=lv_keep h7v fun t xs _ e=>kt8 t xs e
      have hlen:lvs.length=st.1.length:=by rw [h8Lv.1,List.length_take]; omega
      have hst10:st.1.length ≤ 20:=by have:=pok.len; have:=hSh.1; omega
      refine seq_abs fun N2 hN2=>?_
      refine ⟨_,rfl,.inl ⟨rfl,_,SqL.of h8Li⟩,_,rfl,lL,_,_,rfl,rfl,h8Li,small (by omega),?_⟩
      refine hN2 _ _ ?_
      clear hN2 N2
      have kp:∀ {b w},b ≠ lL→G8 b=some w→(upd G8 lL (.lst (lvs ++ [lv]))) b=some w:=fun hb e=>by rw [upd_ne hb]; exact e
      have kpt:∀ t xs,G8 t=some (.tup xs)→(upd G8 lL (.lst (lvs ++ [lv]))) t=some (.tup xs):=fun t xs e=>kp (fun z=>by rw [z,h8Li] at e; cases e) e
      refine ⟨_,rfl,_,rfl,_,_,rfl,rfl,?_⟩
      refine (show ∃ (u:It6→Int) (lvs:List V) (ps':Array Value) (v5 v6 v7 v8 v9 v10:Option V),_ from ⟨u',lvs ++ [lv],ps2,_,_,_,_,_,_,rfl,k08.put hlL0,kp (Ne.symm nlT) h8T,tab_keep h8Tk fun c e=>kp (fun z=>by rw [z,h8Li] at e; cases e) e,kp nSL h8S,fun x hx=>?_,upd_same,?_⟩)
      ·by_cases q2:cl 5 x=(i:Int)
       ·rw [hu1 x (inF x hx q2),if_pos (by omega)]
       ·rw [hu2 x hx fun z=>q2 (of_decide_eq_true (p:=cl 5 x=(i:Int)) (List.mem_filter.mp z).2),hu' x hx]
        by_cases q1:cl 5 x < (i:Int)
        ·rw [if_pos q1,if_pos (by omega)]
        ·rw [if_neg q1,if_neg (by omega)]
      ·show LvsAt _ _ (ls.take (st.1 ++ [_]).length)
       rw [List.length_append,List.length_singleton,List.take_succ,el0]
       exact (h8Lv.keep kpt).snoc (lv_keep h8v fun t xs _ e=>kpt t xs e)
    ·have hp:¬ 0 < st.2:=fun z=>h (decide_eq_true z)
     rw [yS_no fun z=>hp z.1]
     exact (show ∃ (u:It6→Int) (lvs:List V) (ps':Array Value) (v5 v6 v7 v8 v9 v10:Option V),_ from ⟨u,lvs,ps',_,_,_,_,_,_,rfl,kG3,h3T,h3Tk,h3S,hst fun x hx e=>yl_zero _ _ hp hy (i:Int) List.mem_cons_self x (inF x hx e),h3Li,h3Lv⟩)
  ·rintro σ G ⟨u,lvs,ps',v5,v6,v7,v8,v9,v10,rfl,kG,hTG,hTkG,hSG,hu',hLG,hLv⟩
   refine hN _ _ ?_
   clear hN N1
   refine ⟨_,rfl,_,rfl,(by show 3 ≤ sizeLine; decide),fun tt htt=>?_⟩
   generalize hG:upd G tt _=G2
   have s2':Same G G2:=by rw [← hG]; exact Same.put (Same.refl _) htt
   have h2':G2 tt=some (.tup [.ref dS,.int 0,.ref lL]):=by rw [← hG]; exact upd_same
   clear hG
   refine k tt dS lL lvs ps' G2 (kG.trans (.same s2')) (s2' _ _ hTG) (tab_keep hTkG fun c e=>s2' _ _ e) h2' ?_ (s2' _ _ hLG) ?_
   ·rw [s2' _ _ hSG,vI_eq fun x hx=>?_]
    obtain ⟨_,_,_,_,_,_,_,_,_,z⟩:=hk x hx
    have z:cl 5 x ≤ 9:=z
    rw [hu' x hx,if_pos (by omega)]
    show cl 0 x - c x.1=cl 0 x + -1 * c x.1
    omega
   ·have e:(stA its (sumI (cl 0) its - R) 10).1.length=ls.length:=by rw [hSh.1,eps]
    rw [e,List.take_length] at hLv
    exact hLv.keep fun t xs e=>s2' _ _ e
end
end B04
namespace B04
open PySem L2 S2
theorem toIt_pos (w c:It6→Int) (l:List It6):(toIt w c l).filter posB=toIt w c (l.filter fun x=>decide (0 < w x)):=by
 unfold toIt
 rw [List.filter_map]
 rfl
theorem toIt_eq {w c w' c':It6→Int} {l:List It6} (h:∀ x ∈ l,w x=w' x∧c x=c' x):toIt w c l=toIt w' c' l:=List.map_congr_left fun x hx=>by rw [(h x hx).1,(h x hx).2]
theorem toIt_mem {w c:It6→Int} {l:List It6} {x:It6} (h:x ∈ l):(x.1,w x,c x) ∈ toIt w c l:=List.mem_map_of_mem (f:=fun x:It6=>(x.1,w x,c x)) h
theorem grow_pour {its:List It6} {R:Int} {c:Str→Int} {ls:List (Option (Nat × Nat))} (ok:PlOk its (plGrow R its)) (h:ShP its (plGrow R its) c ls) :
  InB (toIt (cl 3) (fun x=>cl 2 x - cl 1 x) its)∧0 ≤ R - sumI (cl 1) its∧R - sumI (cl 1) its < 2 ^ 32∧∀ (sz:Itm→Int) (l:Option (Nat × Nat)),PourP (toIt (cl 3) (fun x=>cl 2 x - cl 1 x) its) (R - sumI (cl 1) its) sz l→ls=[l]∧∀ x ∈ its,cl 1 x + sz (x.1,cl 3 x,cl 2 x - cl 1 x)=szF (plGrow R its) c x:=by
 have hm:(⟨R - sumI (cl 1) its,toIt (cl 3) (fun x=>cl 2 x - cl 1 x) its⟩:Po) ∈ (plGrow R its).ps:=List.mem_cons_self
 obtain ⟨q1,q2,q3⟩:=ok.po _ hm
 refine ⟨q1,q2,q3,fun sz l hP=>?_⟩
 have hl:ls.length=1:=h.1
 obtain ⟨l0,e0⟩:∃ l0,ls=[l0]:=by
  match ls,hl with
  | [a],_=>exact ⟨a,rfl⟩
 subst e0
 obtain ⟨a,b⟩:=pour_uniq q1 q2 hP (h.2.1 0 _ l0 rfl rfl)
 refine ⟨by rw [a],fun x hx=>?_⟩
 rw [b _ (toIt_mem hx)]
 show cl 1 x + c x.1=cl 1 x + 1 * c x.1
 rw [Int.one_mul]
theorem shrink_pour {its:List It6} {R:Int} {c:Str→Int} {ls:List (Option (Nat × Nat))} (ok:PlOk its (plShrink R its)) (nd:(its.map (·.1)).Nodup) (hl:its.length ≤ 20) (hk:∀ x ∈ its,x.2.2.Ok) (h0:sumI (cl 0) its ≤ R) (h1:R < sumI (cl 1) its) (h:ShP its (plShrink R its) c ls) :
  InB (toIt (cl 4) wlC its)∧0 ≤ sumI (cl 1) its - R∧sumI (cl 1) its - R < 2 ^ 32∧∀ (sz:Itm→Int) (l:Option (Nat × Nat)),PourP (toIt (cl 4) wlC its) (sumI (cl 1) its - R) sz l →
   (sumI (fun x=>cl 1 x - sz (x.1,cl 4 x,wlC x)) its - R=0∧ls=[l]∧∀ x ∈ its,cl 1 x - sz (x.1,cl 4 x,wlC x)=szF (plShrink R its) c x) ∨
   (0 < sumI (fun x=>cl 1 x - sz (x.1,cl 4 x,wlC x)) its - R∧sumI (fun x=>cl 1 x - sz (x.1,cl 4 x,wlC x)) its - R < 2 ^ 32∧InB (toIt (fun _=>1) (fun x=>cl 1 x - sz (x.1,cl 4 x,wlC x) - cl 0 x) its) ∧
    ∀ (sz2:Itm→Int) (l2:Option (Nat × Nat)),PourP (toIt (fun _=>1) (fun x=>cl 1 x - sz (x.1,cl 4 x,wlC x) - cl 0 x) its) (sumI (fun x=>cl 1 x - sz (x.1,cl 4 x,wlC x)) its - R) sz2 l2 →
     ls=[l,l2]∧∀ x ∈ its,cl 1 x - sz (x.1,cl 4 x,wlC x) - sz2 (x.1,1,cl 1 x - sz (x.1,cl 4 x,wlC x) - cl 0 x)=szF (plShrink R its) c x):=by
 have bd:∀ x ∈ its,0 ≤ cl 0 x∧cl 0 x ≤ cl 1 x∧cl 1 x ≤ 30000∧0 ≤ cl 4 x∧cl 4 x ≤ 99:=fun x hx=>by
  obtain ⟨a,b,d,e,_,_,f,g,_⟩:=hk x hx
  exact ⟨a,b,Int.le_trans d e,f,g⟩
 have hIn:InB (toIt (cl 4) wlC its):=by
  have:=toIt_in (w:=cl 4) (c:=wlC) nd hl (fun _=>true) fun x hx=>by
   have:=bd x hx
   unfold wlC
   omega
  rw [filter_T] at this
  exact this
 obtain ⟨b0,b1⟩:=sumI_le (v:=cl 1) (B:=30000) (l:=its) fun x hx=>by have:=bd x hx; omega
 have hB:sumI (cl 1) its ≤ 600000:=by omega
 have a0:=sumI_nonneg (u:=cl 0) (l:=its) fun x hx=>(bd x hx).1
 refine ⟨hIn,by omega,by omega,fun sz l hP=>?_⟩
 have e:∀ x,szF (plShrink R its) c x=cl 1 x - c x.1:=fun x=>by
  show cl 1 x + -1 * c x.1=_
  omega
 have hm:(⟨sumI (cl 1) its - R,toIt (cl 4) wlC (its.filter rdyB)⟩:Po) ∈ (plShrink R its).ps:=List.mem_cons_self
 obtain ⟨q1,q2,_⟩:=ok.po _ hm
 have hl0:0 < ls.length:=by rw [h.1]; exact Nat.succ_pos _
 obtain ⟨l0,el0⟩:∃ l0,ls[0]?=some l0:=⟨_,List.getElem?_eq_getElem hl0⟩
 have hP0:=h.2.1 0 _ l0 rfl el0
 have hS:(toIt (cl 4) wlC (its.filter rdyB)).filter posB=((toIt (cl 4) wlC its).filter posB).filter fun _=>true:=by
  rw [filter_T,toIt_pos,toIt_pos]
  congr 1
  rw [List.filter_filter]
  refine List.filter_congr fun x _=>?_
  show (decide (0 < cl 4 x) && decide (0 < cl 4 x))=_
  rw [Bool.and_self]
 obtain ⟨s1,s2,_⟩:=pour_same (fun _=>true) hS (fun _ _ z=>nomatch z) q2 (fun x hx=>(q1.2.2 x hx).2.2.1) (fun x hx=>(hIn.2.2 x hx).2.2.1) hP0 hP
 have r0:=(pour_range hIn q2 hP).1
 have g1:∀ x ∈ its,sz (x.1,cl 4 x,wlC x)=if rdyB x=true then c x.1 else 0:=fun x hx=>by
  cases r:rdyB x with
  | true =>
   rw [if_pos rfl,← s2 (x.1,cl 4 x,wlC x) ?_]
   rw [toIt_pos]
   exact toIt_mem (List.mem_filter.mpr ⟨List.mem_filter.mpr ⟨hx,r⟩,r⟩)
  | false =>
   rw [if_neg Bool.false_ne_true]
   refine (r0 _ (toIt_mem hx)).2.2 ?_
   have z:=of_decide_eq_false (p:=0 < cl 4 x) r
   have:=bd x hx
   show cl 4 x=0
   omega
 obtain ⟨a,b⟩:=pour_sum q1 q2 hP0
 have b:(sumI (fun x=>c x.1) (its.filter rdyB) ≤ sumI (cl 1) its - R∧∀ x ∈ its.filter rdyB,0 < cl 4 x→c x.1=wlC x) ∨ sumI (fun x=>c x.1) (its.filter rdyB)=sumI (cl 1) its - R:=b
 have am:=sumI_mono (u:=fun x=>c x.1) (v:=wlC) fun x hx=>(a x hx).2.1
 have rd:∀ x ∈ its.filter rdyB,0 < cl 4 x:=fun x hx=>of_decide_eq_true (List.mem_filter.mp hx).2
 have sg:sumI (fun x=>cl 1 x - sz (x.1,cl 4 x,wlC x)) its=sumI (cl 1) its - sumI (fun x=>c x.1) (its.filter rdyB):=by
  rw [sumI_sub (cl 1) (fun x=>sz (x.1,cl 4 x,wlC x)) its,sumI_eq g1,sumI_split (fun x=>if rdyB x=true then c x.1 else 0) rdyB its]
  have z1:sumI (fun x=>if rdyB x=true then c x.1 else 0) (its.filter rdyB)=sumI (fun x=>c x.1) (its.filter rdyB):=sumI_eq fun x hx=>if_pos (List.mem_filter.mp hx).2
  have z2:sumI (fun x=>if rdyB x=true then c x.1 else 0) (its.filter fun x=>!rdyB x)=0:=sumI_zero fun x hx=>by
   have z:=(List.mem_filter.mp hx).2
   rw [if_neg fun q=>by rw [q] at z; cases z]
  rw [z1,z2,Int.add_zero]
 by_cases q:0 < sumI (cl 1) its - R - sumI wlC (its.filter rdyB)
 ·have hps:(plShrink R its).ps=[⟨sumI (cl 1) its - R,toIt (cl 4) wlC (its.filter rdyB)⟩,⟨sumI (cl 1) its - R - sumI wlC (its.filter rdyB),toIt (fun _=>1) wlC (its.filter fun x=>!rdyB x)⟩]:=by
   unfold plShrink
   rw [if_pos q]
  have full:∀ x ∈ its.filter rdyB,c x.1=wlC x:=by
   rcases b with ⟨_,b⟩ | b
   ·exact fun x hx=>b x hx (rd x hx)
   ·omega
  have sf:=sumI_eq full
  have cf:∀ x ∈ its,cl 1 x - sz (x.1,cl 4 x,wlC x) - cl 0 x=if rdyB x=true then 0 else wlC x:=fun x hx=>by
   rw [g1 x hx]
   cases r:rdyB x with
   | true =>
    rw [if_pos rfl,if_pos rfl,full x (List.mem_filter.mpr ⟨hx,r⟩)]
    unfold wlC
    omega
   | false =>
    rw [if_neg Bool.false_ne_true,if_neg Bool.false_ne_true]
    unfold wlC
    omega
  have hIn2:InB (toIt (fun _=>1) (fun x=>cl 1 x - sz (x.1,cl 4 x,wlC x) - cl 0 x) its):=by
   have:=toIt_in (w:=fun _=>1) (c:=fun x=>cl 1 x - sz (x.1,cl 4 x,wlC x) - cl 0 x) nd hl (fun _=>true) fun x hx=>by
    have h3:=bd x hx
    rw [cf x hx]
    unfold wlC
    split <;> omega
   rw [filter_T] at this
   exact this
  have cn:=sumI_nonneg (u:=fun x=>c x.1) (l:=its.filter rdyB) fun x hx=>(a x hx).1
  refine .inr ⟨by omega,by omega,hIn2,fun sz2 l2 hP2=>?_⟩
  have hl2:ls.length=2:=by rw [h.1,hps]; rfl
  obtain ⟨la,lb,els⟩:∃ la lb,ls=[la,lb]:=by
   match ls,hl2 with
   | [a,b],_=>exact ⟨a,b,rfl⟩
  subst els
  cases el0
  have e2:(plShrink R its).ps[1]?=some ⟨sumI (cl 1) its - R - sumI wlC (its.filter rdyB),toIt (fun _=>1) wlC (its.filter fun x=>!rdyB x)⟩:=by rw [hps]; rfl
  obtain ⟨p1,p2,_⟩:=ok.po _ (List.mem_of_getElem? e2)
  have hPb:=h.2.1 1 _ lb e2 rfl
  have el:sumI (fun x=>cl 1 x - sz (x.1,cl 4 x,wlC x)) its - R=sumI (cl 1) its - R - sumI wlC (its.filter rdyB):=by omega
  rw [el] at hP2
  have hg:∀ x ∈ its,∀ w v:Int,(its.any fun z=>decide (z.1=x.1) && !rdyB z)=!rdyB x:=fun x hx w v=>by
   rw [Bool.eq_iff_iff,List.any_eq_true]
   refine ⟨fun ⟨z,hz,ez⟩=>?_,fun z=>⟨x,hx,by rw [decide_eq_true rfl,z]; rfl⟩⟩
   rw [Bool.and_eq_true] at ez
   have:=key_inj nd hz hx (of_decide_eq_true ez.1)
   subst this
   exact ez.2
  have pT:∀ (v:It6→Int) (m:List It6),(toIt (fun _=>1) v m).filter posB=toIt (fun _=>1) v m:=fun v m=>by
   rw [toIt_pos]
   congr 1
   exact filter_T m
  obtain ⟨t1,t2,t3⟩:=pour_same (fun y=>its.any fun z=>decide (z.1=y.1) && !rdyB z) (by
    rw [pT,pT]
    show _=(its.map _).filter _
    rw [List.filter_map]
    have e9:its.filter ((fun y:Itm=>its.any fun z=>decide (z.1=y.1) && !rdyB z) ∘ fun x=>(x.1,(1:Int),cl 1 x - sz (x.1,cl 4 x,wlC x) - cl 0 x))=its.filter fun x=>!rdyB x:=List.filter_congr fun x hx=>hg x hx 0 0
    rw [e9]
    refine toIt_eq (w':=fun _=>1) fun x hx=>⟨rfl,?_⟩
    rw [cf x (memF6 hx),if_neg fun z=>by have y:=(List.mem_filter.mp hx).2; rw [z] at y; cases y]) (fun y hy gy=>by
    rw [pT] at hy
    obtain ⟨x,hx,rfl⟩:=List.mem_map.mp hy
    have z:(!rdyB x)=false:=by rw [← hg x hx 0 0]; exact gy
    show cl 1 x - sz (x.1,cl 4 x,wlC x) - cl 0 x=0
    rw [cf x hx,if_pos (by rw [Bool.not_eq_false'] at z; exact z)]) p2 (fun x hx=>(p1.2.2 x hx).2.2.1) (fun x hx=>(hIn2.2.2 x hx).2.2.1) hPb hP2
  refine ⟨by rw [← s1,← t1],fun x hx=>?_⟩
  rw [e,g1 x hx]
  cases r:rdyB x with
  | true =>
   rw [if_pos rfl]
   have:=t3 (x.1,1,cl 1 x - sz (x.1,cl 4 x,wlC x) - cl 0 x) (by rw [pT]; exact toIt_mem (w:=fun _=>1) (c:=fun x=>cl 1 x - sz (x.1,cl 4 x,wlC x) - cl 0 x) hx) (by rw [hg x hx 0 0,r]; rfl)
   rw [g1 x hx,if_pos r] at this
   rw [this,Int.sub_zero]
  | false =>
   rw [if_neg Bool.false_ne_true]
   have c0:=cf x hx
   rw [g1 x hx,r,if_neg Bool.false_ne_true,if_neg Bool.false_ne_true] at c0
   have:=t2 (x.1,1,wlC x) (by rw [pT]; exact toIt_mem (w:=fun _=>1) (List.mem_filter.mpr ⟨hx,by rw [r]; rfl⟩))
   rw [c0,← this]
   show cl 1 x - 0 - c x.1=_
   omega
 ·have hps:(plShrink R its).ps=[⟨sumI (cl 1) its - R,toIt (cl 4) wlC (its.filter rdyB)⟩]:=by
   unfold plShrink
   rw [if_neg q]
  have hl1:ls.length=1:=by rw [h.1,hps]; rfl
  obtain ⟨la,els⟩:∃ la,ls=[la]:=by
   match ls,hl1 with
   | [a],_=>exact ⟨a,rfl⟩
  subst els
  cases el0
  have sl:sumI (fun x=>c x.1) (its.filter rdyB)=sumI (cl 1) its - R:=by
   rcases b with ⟨z,b⟩ | b
   ·have s3:=sumI_eq fun x hx=>b x hx (rd x hx)
    omega
   ·exact b
  refine .inl ⟨by omega,by rw [← s1],fun x hx=>?_⟩
  rw [e,g1 x hx]
  cases r:rdyB x with
  | true=>rw [if_pos rfl]
  | false =>
   rw [if_neg Bool.false_ne_true]
   have:c x.1=0:=by
    refine h.2.2 x.1 fun p hp y hy ey=>?_
    rw [hps] at hp
    rw [List.mem_singleton.mp hp] at hy
    obtain ⟨x',hx',f',e'⟩:=toIt_sub y hy
    have:=key_inj nd hx' hx (by rw [e',ey])
    subst this
    rw [r] at f'
    cases f'
   rw [this]
end B04
namespace B04
open PySem L2 S2
def spLDue (T:Addr):Sp:=fun vs H Q _=>∃ (dI:Addr) (its:List It6) (R:Int) (c:Str→Int) (ls:List (Option (Nat × Nat))) (ps:Array Value),vs=[.int R,.ref dI]∧Rd H dI (.dK (kvR its))∧ItsOk H its∧0 ≤ R∧R < 2 ^ 32∧H T=some (.tbl ps)∧TabOk H lamPos lamQual ps∧ShP its (planOf R its) c ls ∧
 ∀ (tt dS lL:Addr) (lvs:List V) (ps':Array Value) (H':Hp),Kr (fun b=>b=T) H H'→H' T=some (.tbl ps')→TabOk H' lamPos lamQual ps'→H' tt=some (.tup [.ref dS,.int (R - sumI (szF (planOf R its) c) its),.ref lL])→Rd H' dS (.dK (kvW (vI (szF (planOf R its) c) its)))→H' lL=some (.lst lvs)→LvsAt H' lvs ls→Q (.ref tt) H'
theorem LvsAt.one4 {H:Hp} {v:V} {l:Option (Nat × Nat)} (h:LvAt H v (lI l)):LvsAt H [v] [l]:=LvsAt.snoc (vs:=[]) (ls:=[]) ⟨rfl,fun i v l e=>(by simp at e)⟩ h
section
variable {P:Program} {w:World} {K:PySem.W.Frag} {mg:Str→Option Value} {base:Heap}
abbrev nLDue:List Str:=["_law_room_here","_law_items_here","_law_leasts","_law_wishes","_law_caps","_law_more","_law_level","_law_sizes","_law_name","_law_lack","_law_gone","_law_other"]
theorem scLDue:FnScope nLDue ["_law_room_here","_law_items_here"] (defScope sLDue):=⟨rfl,rfl,rfl,by decide +kernel,rfl,by decide +kernel,by decide +kernel⟩
set_option maxHeartbeats 16000000 in
theorem ok_lDue {f f1 f2 f3 f4 f5:Addr} {fd d1 d2 d3 d4 d5:FuncData} {T:Addr} (F:Fun K "_law_due" "_law_due" sLDue f fd) (N:Names mg)
  (G1:FnOk P w K mg base CX0 1 f1 d1 ["_law_items_here","_law_at_here"] spLColumn) (b1:Binds K d1 ["_law_items_here","_law_at_here"] []) (m1:mg "_law_column"=some (.ref f1)) (k1:PySem.W.keepIn K (.ref f1)=true)
  (G2:FnOk P w K mg base CX0 1 f2 d2 ["_law_some","_law_others"] spLLess) (b2:Binds K d2 ["_law_some","_law_others"] []) (m2:mg "_law_less"=some (.ref f2)) (k2:PySem.W.keepIn K (.ref f2)=true)
  (G3:FnOk P w K mg base CX0 4 f3 d3 ["room","weights","caps"] (spPour T)) (b3:Binds K d3 ["room","weights","caps"] []) (m3:mg "pour"=some (.ref f3)) (k3:PySem.W.keepIn K (.ref f3)=true)
  (G4:FnOk P w K mg base CX0 5 f4 d4 ["_law_room_here","_law_items_here"] (spLRanks T)) (b4:Binds K d4 ["_law_room_here","_law_items_here"] []) (m4:mg "_law_by_ranks"=some (.ref f4)) (k4:PySem.W.keepIn K (.ref f4)=true)
  (G5:FnOk P w K mg base CX0 1 f5 d5 ["_law_names_here"] spLOnes) (b5:Binds K d5 ["_law_names_here"] []) (m5:mg "_law_ones"=some (.ref f5)) (k5:PySem.W.keepIn K (.ref f5)=true):FnOk P w K mg base CX0 6 f fd ["_law_room_here","_law_items_here"] (spLDue T):=by
 refine F.ok scLDue (fun vs H Q E h=>?_) (fun cdv A outer s H vs Q E hr h=>?_)
 ·obtain ⟨dI,its,R,c,ls,ps,e,_⟩:=h
  rw [e]
  rfl
 ·obtain ⟨dI,its,R,c,ls,ps,e,hI,hok,hR0,hR1,hT,hTk,hSh,k⟩:=h
  subst e
  have hr1:=hr.mono (j:=1) (by decide)
  have hr4:=hr.mono (j:=4) (by decide)
  have hr5:=hr.mono (j:=5) (by decide)
  have hu:(A.deeper (PyProof.Rows.envOfC "_law_due" (defScope sLDue) s.heap.objs.size f cdv)).units + 1 < cLine:=by have:=hr.units; omega
  refine ⟨_,pss_cons (ps_set (i:=2) scLDue.nd rfl (Or.inl rfl) (pe_call G1 hr1 (by rfl) m1 k1 b1 .nil pass0 (pa_cons (pv 1) (pa_cons pe_int pa_nil))))
   (pss_cons (ps_set (i:=3) scLDue.nd rfl (Or.inl rfl) (pe_call G1 hr1 (by rfl) m1 k1 b1 .nil pass0 (pa_cons (pv 1) (pa_cons pe_int pa_nil))))
   (pss_cons (ps_if (pt_cmpR op_ge (pv 0) (pe_sumV rfl (pv 3) (by rfl) (by rfl) (by rfl) N.sum PyProof.Rows.boot_sum) (nomark _)) (pss_cons (ps_set (i:=4) scLDue.nd rfl (Or.inl rfl) (pe_call G2 hr1 (by rfl) m2 k2 b2 .nil pass0 (pa_cons (pe_call G1 hr1 (by rfl) m1 k1 b1 .nil pass0 (pa_cons (pv 1) (pa_cons pe_int pa_nil))) (pa_cons (pv 3) pa_nil))))
    (pss_cons (ps_asg (pe_call G3 hr4 (by rfl) m3 k3 b3 .nil pass0 (pa_cons (pe_op op_sub (pv 0) (pe_sumV rfl (pv 3) (by rfl) (by rfl) (by rfl) N.sum PyProof.Rows.boot_sum)) (pa_cons (pe_call G1 hr1 (by rfl) m1 k1 b1 .nil pass0 (pa_cons (pv 1) (pa_cons pe_int pa_nil))) (pa_cons (pv 4) pa_nil)))) (pg_tup rfl (pgs_cons (pg_name (i:=5) scLDue.nd rfl (Or.inl rfl)) (pgs_cons (pg_name (i:=6) scLDue.nd rfl (Or.inl rfl)) pgs_nil))))
    (pss_cons (ps_set (i:=7) scLDue.nd rfl (Or.inl rfl) pe_dnewK)
    (pss_cons (ps_for PassesOwn.never rfl (pi_keys (pv 1)) (pg_name (i:=8) scLDue.nd rfl (Or.inl rfl))
     (pss_one (ps_dput hu (pv 7) (pv 8) (pe_op op_add (pe_dget hu (pv 3) (pv 8) (fun _ _=>rfl)) (pe_dget hu (pv 5) (pv 8) (fun _ _=>rfl))) rfl)))
    (pss_one (ps_ret (pe_tup (pa_cons (pv 7) (pa_cons (pe_op op_sub (pv 0) (pe_sumV rfl (pv 7) (by rfl) (by rfl) (by rfl) N.sum PyProof.Rows.boot_sum)) (pa_cons (pe_lst (pa_cons (pv 6) pa_nil)) pa_nil)))))))))) pss_nil)
   (pss_cons (ps_if (pt_cmpR op_lt (pv 0) (pe_sumV rfl (pv 2) (by rfl) (by rfl) (by rfl) N.sum PyProof.Rows.boot_sum) (nomark _)) (pss_one (ps_ret (pe_call G4 hr5 (by rfl) m4 k4 b4 .nil pass0 (pa_cons (pv 0) (pa_cons (pv 1) pa_nil))))) pss_nil)
   (pss_cons (ps_set (i:=9) scLDue.nd rfl (Or.inl rfl) (pe_op op_sub (pe_sumV rfl (pv 3) (by rfl) (by rfl) (by rfl) N.sum PyProof.Rows.boot_sum) (pv 0)))
   (pss_cons (ps_asg (pe_call G3 hr4 (by rfl) m3 k3 b3 .nil pass0 (pa_cons (pv 9) (pa_cons (pe_call G1 hr1 (by rfl) m1 k1 b1 .nil pass0 (pa_cons (pv 1) (pa_cons pe_int pa_nil))) (pa_cons (pe_call G2 hr1 (by rfl) m2 k2 b2 .nil pass0 (pa_cons (pv 3) (pa_cons (pv 2) pa_nil))) pa_nil)))) (pg_tup rfl (pgs_cons (pg_name (i:=10) scLDue.nd rfl (Or.inl rfl)) (pgs_cons (pg_name (i:=6) scLDue.nd rfl (Or.inl rfl)) pgs_nil))))
   (pss_cons (ps_set (i:=7) scLDue.nd rfl (Or.inl rfl) (pe_call G2 hr1 (by rfl) m2 k2 b2 .nil pass0 (pa_cons (pv 3) (pa_cons (pv 10) pa_nil))))
   (pss_cons (ps_set (i:=9) scLDue.nd rfl (Or.inl rfl) (pe_op op_sub (pe_sumV rfl (pv 7) (by rfl) (by rfl) (by rfl) N.sum PyProof.Rows.boot_sum) (pv 0)))
   (pss_cons (ps_if (pt_cmpR op_eq (pv 9) pe_int (nomark _)) (pss_one (ps_ret (pe_tup (pa_cons (pv 7) (pa_cons pe_int (pa_cons (pe_lst (pa_cons (pv 6) pa_nil)) pa_nil)))))) pss_nil)
   (pss_cons (ps_asg (pe_call G3 hr4 (by rfl) m3 k3 b3 .nil pass0 (pa_cons (pv 9) (pa_cons (pe_call G5 hr1 (by rfl) m5 k5 b5 .nil pass0 (pa_cons (pv 1) pa_nil)) (pa_cons (pe_call G2 hr1 (by rfl) m2 k2 b2 .nil pass0 (pa_cons (pv 7) (pa_cons (pv 2) pa_nil))) pa_nil)))) (pg_tup rfl (pgs_cons (pg_name (i:=10) scLDue.nd rfl (Or.inl rfl)) (pgs_cons (pg_name (i:=11) scLDue.nd rfl (Or.inl rfl)) pgs_nil))))
   (pss_one (ps_ret (pe_tup (pa_cons (pe_call G2 hr1 (by rfl) m2 k2 b2 .nil pass0 (pa_cons (pv 7) (pa_cons (pv 10) pa_nil))) (pa_cons pe_int (pa_cons (pe_lst (pa_cons (pv 6) (pa_cons (pv 11) pa_nil))) pa_nil))))))))))))))),?_⟩
  try rw [show (cxOf CX0 P w K mg base nLDue "_law_due" (defScope sLDue) f cdv A outer s H E).nox.K=K from rfl]
  have nd:=hok.2.1
  have hk:=hok.2.2.2
  have hl20:its.length ≤ 20:=hok.2.2.1
  have pok:=plan_ok hok hR0 hR1
  refine seq_abs fun N1 hN=>?_
  refine ⟨_,rfl,dI,its,0,rfl,hI,hok,by decide,fun d0 H1 hd0 k1 h1=>?_⟩
  refine hN _ _ ?_
  clear hN N1
  refine seq_abs fun N1 hN=>?_
  refine ⟨_,rfl,dI,its,1,rfl,k1.rd (fun z=>z) hI,k1.its0 hok,by decide,fun d1 H2 hd1 k2 h2=>?_⟩
  refine hN _ _ ?_
  clear hN N1
  have k02:=k1.trans k2
  have hI2:=k02.rd (fun z=>z) hI
  have hok2:=k02.its0 hok
  have h2l:Rd H2 d0 (.dK (kvW (vI (cl 0) its))):=k2.rd (fun z=>z) (.inl h1)
  have h2w:Rd H2 d1 (.dK (kvW (vI (cl 1) its))):=.inl h2
  have n10:d0 ≠ d1:=ne_of_none h1 hd1
  have hT2:=k02.tbl0 hT
  have hTk2:=k02.tab0 hTk
  clear h1 h2 k1 k2
  refine seq_abs fun N1 hN=>?_
  refine ⟨_,rfl,_,rfl,d1,_,_,rfl,h2w,vI_vals _ _,_,_,rfl,rfl,_,rfl,?_⟩
  refine ite2 (fun h=>?_) (fun h=>?_)
  ·have hc:sumI (cl 1) its ≤ R:=of_decide_eq_true h
   have ep:planOf R its=plGrow R its:=if_pos hc
   rw [ep] at hSh pok k
   obtain ⟨q1,q2,q3,q4⟩:=grow_pour pok hSh
   refine seq_abs fun N2 hN2=>?_
   refine ⟨_,rfl,dI,its,2,rfl,hI2,hok2,by decide,fun d2 H3 hd2 k3 h3=>?_⟩
   refine ⟨_,rfl,d2,d1,its,its,_,_,rfl,Ne.symm (rd_new h2w hd2),.inl h3,k3.rd (fun z=>z) h2w,fun x hx=>hx,nd,nd,hl20,fun d3 H4 hd3 k4 _ h4=>?_⟩
   refine hN2 _ _ ?_
   clear hN2 N2
   have k24:=k3.trans k4
   have h4w:=k24.rd (fun z=>z) h2w
   have hI4:=k24.rd (fun z=>z) hI2
   have hok4:=k24.its0 hok2
   refine seq_abs fun N2 hN2=>?_
   refine ⟨_,rfl,_,rfl,d1,_,_,rfl,h4w,vI_vals _ _,_,_,rfl,rfl,_,rfl,dI,its,3,rfl,hI4,hok4,by decide,fun d4 H5 hd4 k5 h5=>?_⟩
   have k25:=k24.trans k5
   refine ⟨_,rfl,d4,d3,toIt (cl 3) (fun x=>cl 2 x - cl 1 x) its,vI (fun x=>cl 2 x - cl 1 x) its,R - sumI (cl 1) its,ps,rfl,Ne.symm (rd_new (.inl h4) hd4),.inl (by rw [toIt_ws]; exact h5),k5.rd (fun z=>z) (.inl h4),toIt_capsA nd,q1,q2,q3,k25.tbl0 hT2,k25.tab0 hTk2,fun tt sd sz lv ps2 H6 htt hsd k6 hW6 hT6 hTk6 h6t h6s hP=>⟨tt,_,rfl,SqT.of h6t,rfl,_,_,rfl,_,_,rfl,rfl,?_⟩⟩
   refine hN2 _ _ ?_
   clear hN2 N2
   obtain ⟨l,hPP,hLv0⟩:=hP.pure
   obtain ⟨els,hsz⟩:=q4 sz l hPP
   subst els
   rw [sz_vI] at h6s
   have k56:Kr (fun b=>b=T) H5 H6:=.but (.inl h5) (fun b u h1 h2 e=>k6 b u h2 h1 e) (by rw [toIt_ws] at hW6; exact hW6)
   have k26:Kr (fun b=>b=T) H2 H6:=(k25.le fun _ _ z=>z.elim).trans k56
   have nT:∀ {d kvs},Rd H2 d (.dK kvs)→d ≠ T:=fun e=>rd_neT e hT2
   have h6w:=k26.rd (nT h2w) h2w
   have hI6:Rd H6 dI (.dK (kvG (fun x=>.ref x.2.1) its)):=k26.rd (nT hI2) hI2
   have hok6:ItsOk H6 its:=k26.its hok2 fun t xs e z=>ne_of e hT2 (by intro z; cases z) z
   have k06:Kr (fun b=>b=T) H H6:=(k02.le fun _ _ z=>z.elim).trans k26
   clear k3 k4 k5 k6 h3 h4 h5 k24 k25 k56 h4w hI4 hok4 hW6 hP h6t htt hsd
   refine seq_abs fun N2 hN2=>?_
   intro dZ hdZ
   generalize hG:upd H6 dZ _=H7
   have s7:Same H6 H7:=by rw [← hG]; exact Same.put (Same.refl _) hdZ
   have h7:H7 dZ=some (.dK []):=by rw [← hG]; exact upd_same
   clear hG
   refine hN2 _ _ ?_
   clear hN2 N2
   have hI7:Rd H7 dI (.dK (kvG (fun x=>.ref x.2.1) its)):=hI6.keep fun o e=>s7 _ _ e
   have h7w:=h6w.keep fun o e=>s7 _ _ e
   have h7m:=s7 _ _ h6s
   refine seq_abs fun N2 hN2=>?_
   refine ⟨_,rfl,dI,_,rfl,hI7,fun o=>?_⟩
   have kf:Kr M0 H7 (upd H7 dI (.frz o (.dK (kvG (fun x=>.ref x.2.1) its)))):=.frz hI7
   have hq:(upd H7 dI (.frz o (.dK (kvG (fun x=>.ref x.2.1) its)))) dI=some (.frz o (.dK (kvG (fun x=>.ref x.2.1) its))):=upd_same
   have nZI:dZ ≠ dI:=Ne.symm (rd_new hI6 hdZ)
   have nZw:dZ ≠ d1:=Ne.symm (rd_new h6w hdZ)
   have nZm:dZ ≠ sd:=Ne.symm (ne_of_none h6s hdZ)
   have h8:(upd H7 dI (.frz o (.dK (kvG (fun x=>.ref x.2.1) its)))) dZ=some (.dK []):=by rw [upd_ne nZI]; exact h7
   generalize upd H7 dI (.frz o (.dK (kvG (fun x=>.ref x.2.1) its)))=H8 at *
   have h8w:=kf.rd (fun z=>z) h7w
   have h8m:=kf.rd (fun z=>z) (.inl h7m)
   refine for_keys (a:=dI) (o:=o) (kvs:=kvG (fun x=>.ref x.2.1) its) (fun i σ G=>∃ (v4 v8 v9 v10 v11:Option V),σ=[some (.int R),some (.ref dI),some (.ref d0),some (.ref d1),v4,some (.ref sd),some lv,some (.ref dZ),v8,v9,v10,v11]∧(∀ b w,b ≠ dZ→H8 b=some w→G b=some w)∧G dZ=some (.dK (kvW (vI (fun x=>cl 1 x + sz (x.1,cl 3 x,cl 2 x - cl 1 x)) (its.take i)))))
    ⟨_,none,none,none,none,rfl,fun _ _ _ e=>e,h8⟩ (fun i σ G _ h=>by obtain ⟨_,_,_,_,_,_,z,_⟩:=h; exact z _ _ (Ne.symm nZI) hq) ?_ ?_
   ·rintro i kk vv σ G hkv ⟨v4,v8,v9,v10,v11,rfl,kG,hZ⟩
    obtain ⟨x,ex,rfl,rfl⟩:=kvG_at hkv
    have hx:=List.mem_of_getElem? ex
    refine ⟨_,rfl,_,rfl,d1,_,rfl,get_vI (h8w.keep fun o e=>kG _ _ (Ne.symm nZw) e) nd hx,_,rfl,_,rfl,sd,_,rfl,get_vI (h8m.keep fun o e=>kG _ _ (Ne.symm nZm) e) nd hx,_,_,rfl,rfl,_,rfl,_,rfl,dZ,_,rfl,DPut.k (k:=.inr x.1) hZ (small (by rw [kvW_len,vI_len,List.length_take]; omega)),?_⟩
    refine (show ∃ v4 v8 v9 v10 v11,_ from ⟨_,_,_,_,_,rfl,fun b w hb e=>?_,?_⟩)
    ·rw [upd_ne hb]
     exact kG b w hb e
    ·exact upd_same.trans (congrArg (fun z=>some (HO.dK z)) (putI (w:=fun x=>cl 1 x + sz (x.1,cl 3 x,cl 2 x - cl 1 x)) nd ex))
   ·rintro σ G ⟨v4,v8,v9,v10,v11,rfl,kG,hZ⟩
    rw [kvG_len,List.take_length,vI_eq hsz] at hZ
    refine hN2 _ _ ?_
    clear hN2 N2
    have k0G:Kr (fun b=>b=T) H G:=(k06.trans ((Kr.same s7).trans (kf.le fun _ _ z=>z.elim))).fresh (k06.freeT hT6 hdZ) kG
    have kpT:∀ {b w},H6 b=some w→(∀ kvs,w ≠ .dK kvs∧∀ o,w ≠ .frz o (.dK kvs))→G b=some w:=fun {b w} e hw=>kG _ _ (ne_of_none e hdZ) (by
     rcases kf b w (fun z=>z) (s7 _ _ e) with y | ⟨kvs,y | ⟨o,y⟩,_⟩
     ·exact y
     ·exact absurd y (hw kvs).1
     ·exact absurd y ((hw kvs).2 o))
    have hTG:=kpT hT6 fun kvs=>⟨(by intro z; cases z),fun o z=>(by cases z)⟩
    have hTkG:TabOk G lamPos lamQual ps2:=tab_keep hTk6 fun c e=>kpT e fun kvs=>⟨(by intro z; cases z),fun o z=>(by cases z)⟩
    have hlvG:=lv_keep hLv0 fun t xs _ e=>kpT e fun kvs=>⟨(by intro z; cases z),fun o z=>(by cases z)⟩
    refine ⟨_,rfl,_,rfl,_,rfl,dZ,_,_,rfl,.inl hZ,vI_vals _ _,_,_,rfl,rfl,_,rfl,(by show 1 ≤ sizeLine; decide),fun lL hlL=>?_⟩
    generalize hG:upd G lL _=G1
    have s1:Same G G1:=by rw [← hG]; exact Same.put (Same.refl _) hlL
    have h1:G1 lL=some (.lst [lv]):=by rw [← hG]; exact upd_same
    clear hG
    refine ⟨(by show 3 ≤ sizeLine; decide),fun tt htt=>?_⟩
    generalize hG:upd G1 tt _=G2
    have s2:Same G1 G2:=by rw [← hG]; exact Same.put (Same.refl _) htt
    have h2:G2 tt=some (.tup [.ref dZ,.int (R - sumI (szF (plGrow R its) c) its),.ref lL]):=by rw [← hG]; exact upd_same
    clear hG
    have s02:=Same.trans s1 s2
    exact k tt dZ lL [lv] ps2 G2 (k0G.trans (.same s02)) (s02 _ _ hTG) (tab_keep hTkG fun c e=>s02 _ _ e) h2 (.inl (s02 _ _ hZ)) (s2 _ _ h1) (.one4 (lv_keep hlvG fun t xs _ e=>s02 _ _ e))
  have hc:R < sumI (cl 1) its:=by
   by_cases z:sumI (cl 1) its ≤ R
   ·exact absurd (decide_eq_true z) h
   ·omega
  refine hN _ _ ?_
  clear hN N1
  clear h
  have k02T:Kr (fun b=>b=T) H H2:=k02.le fun _ _ z=>z.elim
  refine seq_abs fun N1 hN=>?_
  refine ⟨_,rfl,_,rfl,d0,_,_,rfl,h2l,vI_vals _ _,_,_,rfl,rfl,_,rfl,?_⟩
  refine ite2 (fun h=>?_) (fun h=>?_)
  ·have hc0:R < sumI (cl 0) its:=of_decide_eq_true h
   have ep:planOf R its=plYield R its:=by
    unfold planOf
    rw [if_neg (by omega),if_neg (by omega)]
   rw [ep] at hSh pok k
   have f:=(yield_facts hok hR0 hc0 hSh).1
   rw [f] at k
   exact ⟨_,rfl,_,rfl,dI,its,R,c,ls,ps,rfl,hI2,hok2,pok,hT2,hTk2,hSh,fun tt dS lL lvs ps' H3 k3 hT3 hTk3 h3t h3S h3L hLv=>k tt dS lL lvs ps' H3 (k02T.trans k3) hT3 hTk3 h3t (.inl h3S) h3L hLv⟩
  have hc0:sumI (cl 0) its ≤ R:=by
   by_cases z:R < sumI (cl 0) its
   ·exact absurd (decide_eq_true z) h
   ·omega
  refine hN _ _ ?_
  clear hN N1
  clear h
  have ep:planOf R its=plShrink R its:=by
   unfold planOf
   rw [if_neg (by omega),if_pos hc0]
  rw [ep] at hSh pok k
  have f:=(shrink_facts pok nd hk hc0 hc hSh).2.1
  rw [f] at k
  obtain ⟨q1,q2,q3,q4⟩:=shrink_pour pok nd hl20 hk hc0 hc hSh
  refine seq_abs fun N1 hN=>?_
  refine ⟨_,rfl,d1,_,_,rfl,h2w,vI_vals _ _,_,rfl,_,_,rfl,rfl,?_⟩
  refine hN _ _ ?_
  clear hN N1
  refine seq_abs fun N1 hN=>?_
  refine ⟨_,rfl,_,rfl,dI,its,4,rfl,hI2,hok2,by decide,fun d4 H3 hd4 k3 h3=>?_⟩
  refine ⟨_,rfl,_,rfl,d1,d0,its,its,_,_,rfl,Ne.symm n10,k3.rd (fun z=>z) h2w,k3.rd (fun z=>z) h2l,fun x hx=>hx,nd,nd,hl20,fun d5 H4 hd5 k4 _ h4=>?_⟩
  have k24:=k3.trans k4
  have h4w4:=k4.rd (fun z=>z) (.inl h3)
  refine ⟨d4,d5,toIt (cl 4) wlC its,vI wlC its,sumI (cl 1) its - R,ps,rfl,rd_new (.inl h3) hd5,by rw [toIt_ws]; exact h4w4,.inl h4,toIt_capsA nd,q1,q2,q3,k24.tbl0 hT2,k24.tab0 hTk2,fun tt sd sz lv ps2 H5 htt hsd k5 hW5 hT5 hTk5 h5t h5s hP=>⟨tt,_,rfl,SqT.of h5t,rfl,_,_,rfl,_,_,rfl,rfl,?_⟩⟩
  refine hN _ _ ?_
  clear hN N1
  obtain ⟨l,hPP,hLv0⟩:=hP.pure
  have q5:=q4 sz l hPP
  rw [sz_vI] at h5s
  have k45:Kr (fun b=>b=T) H4 H5:=.but h4w4 (fun b u h1 h2 e=>k5 b u h2 h1 e) (by rw [toIt_ws] at hW5; exact hW5)
  have k25:Kr (fun b=>b=T) H2 H5:=(k24.le fun _ _ z=>z.elim).trans k45
  have h5w:=k25.rd (rd_neT h2w hT2) h2w
  have h5l:=k25.rd (rd_neT h2l hT2) h2l
  have hI5:=k25.rd (rd_neT hI2 hT2) hI2
  have hok5:ItsOk H5 its:=k25.its hok2 fun t xs e z=>ne_of e hT2 (by intro z; cases z) z
  have nsw:d1 ≠ sd:=rd_new (k24.rd (fun z=>z) h2w) hsd
  have k05:=k02T.trans k25
  clear k3 k4 k5 h3 h4 h4w4 k24 k45 k25 hW5 hP h5t htt hsd q4 hPP h2w h2l hI2 hok2
  refine seq_abs fun N1 hN=>?_
  refine ⟨_,rfl,_,rfl,d1,sd,its,its,_,_,rfl,nsw,h5w,.inl h5s,fun x hx=>hx,nd,nd,hl20,fun d6 H6 hd6 k6 _ h6=>?_⟩
  refine hN _ _ ?_
  clear hN N1
  have n06:d0 ≠ d6:=rd_new h5l hd6
  have h6l:=k6.rd (fun z=>z) h5l
  have hI6:=k6.rd (fun z=>z) hI5
  have hok6:=k6.its0 hok5
  have hT6:=k6.tbl0 hT5
  have hTk6:=k6.tab0 hTk5
  have hlv6:=lv_keep hLv0 fun t xs _ e=>k6.tup (fun z=>z) e
  have k06:=k05.trans (k6.le fun _ _ z=>z.elim)
  clear h5w h5l hI5 hok5 h5s k6 hT5 hTk5 hLv0
  refine seq_abs fun N1 hN=>?_
  refine ⟨_,rfl,d6,_,_,rfl,.inl h6,vI_vals _ _,_,rfl,_,_,rfl,rfl,?_⟩
  refine hN _ _ ?_
  clear hN N1
  have el:(its.map fun x=>x.2.2.col 1 - sz (x.1,cl 4 x,wlC x)).sum - R=sumI (fun x=>cl 1 x - sz (x.1,cl 4 x,wlC x)) its - R:=rfl
  refine seq_abs fun N1 hN=>?_
  refine ⟨_,rfl,rfl,_,rfl,?_⟩
  rcases q5 with ⟨p1,rfl,p3⟩ | ⟨p1,p2,p3,p4⟩
  ·refine iteB (decide_eq_true (by show V.int _=V.int 0; rw [← p1]; rfl)) ?_
   refine ⟨_,rfl,_,rfl,(by show 1 ≤ sizeLine; decide),fun lL hlL=>?_⟩
   generalize hG:upd H6 lL _=H7
   have s7:Same H6 H7:=by rw [← hG]; exact Same.put (Same.refl _) hlL
   have h7:H7 lL=some (.lst [lv]):=by rw [← hG]; exact upd_same
   clear hG
   refine ⟨(by show 3 ≤ sizeLine; decide),fun tt htt=>?_⟩
   generalize hG:upd H7 tt _=H8
   have s8:Same H7 H8:=by rw [← hG]; exact Same.put (Same.refl _) htt
   have h8:H8 tt=some (.tup [.ref d6,.int 0,.ref lL]):=by rw [← hG]; exact upd_same
   clear hG
   have s68:=Same.trans s7 s8
   refine k tt d6 lL [lv] ps2 H8 (k06.trans (.same s68)) (s68 _ _ hT6) (tab_keep hTk6 fun c e=>s68 _ _ e) h8 (.inl ?_) (s8 _ _ h7) (.one4 (lv_keep hlv6 fun t xs _ e=>s68 _ _ e))
   rw [s68 _ _ h6]
   exact congrArg (fun z=>some (HO.dK (kvW z))) (vI_eq p3)
  ·refine iteC (decide_eq_false (fun z=>by
    injection z with z
    have z:sumI (fun x=>cl 1 x - sz (x.1,cl 4 x,wlC x)) its - R=0:=z
    omega)) ?_
   refine hN _ _ ?_
   clear hN N1
   refine seq_abs fun N1 hN=>?_
   refine ⟨_,rfl,_,rfl,dI,its,_,rfl,hI6,nd,hl20,fun d7 H7 hd7 k7 _ h7=>?_⟩
   have h7z:=k7.rd (fun z=>z) (.inl h6)
   refine ⟨_,rfl,_,rfl,d6,d0,its,its,_,_,rfl,Ne.symm n06,h7z,k7.rd (fun z=>z) h6l,fun x hx=>hx,nd,nd,hl20,fun d8 H8 hd8 k8 _ h8=>?_⟩
   have k68:=k7.trans k8
   have h8o:=k8.rd (fun z=>z) (.inl h7)
   refine ⟨d7,d8,toIt (fun _=>1) (fun x=>cl 1 x - sz (x.1,cl 4 x,wlC x) - cl 0 x) its,vI (fun x=>cl 1 x - sz (x.1,cl 4 x,wlC x) - cl 0 x) its,sumI (fun x=>cl 1 x - sz (x.1,cl 4 x,wlC x)) its - R,ps2,rfl,rd_new (.inl h7) hd8,by rw [toIt_ws]; exact h8o,.inl h8,toIt_capsA nd,p3,Int.le_of_lt p1,p2,k68.tbl0 hT6,k68.tab0 hTk6,fun tt sd2 sz2 lv2 ps3 H9 htt hsd2 k9 hW9 hT9 hTk9 h9t h9s hP=>⟨tt,_,rfl,SqT.of h9t,rfl,_,_,rfl,_,_,rfl,rfl,?_⟩⟩
   refine hN _ _ ?_
   clear hN N1
   obtain ⟨l2,hPP,hLv2⟩:=hP.pure
   obtain ⟨els,hsz⟩:=p4 sz2 l2 hPP
   subst els
   rw [sz_vI] at h9s
   have k89:Kr (fun b=>b=T) H8 H9:=.but h8o (fun b u h1 h2 e=>k9 b u h2 h1 e) (by rw [toIt_ws] at hW9; exact hW9)
   have k69:Kr (fun b=>b=T) H6 H9:=(k68.le fun _ _ z=>z.elim).trans k89
   have h9z:=k69.rd (rd_neT (.inl h6) hT6) (.inl h6)
   have hlv9:=lv_keep hlv6 fun t xs _ e=>k69.tup (ne_of e hT6 (by intro z; cases z)) e
   have nsz:d6 ≠ sd2:=rd_new (k68.rd (fun z=>z) (.inl h6)) hsd2
   refine ⟨_,rfl,_,rfl,d6,sd2,its,its,_,_,rfl,nsz,h9z,.inl h9s,fun x hx=>hx,nd,nd,hl20,fun dA HA hdA kA _ hA=>?_⟩
   have hlvA:=lv_keep hlv9 fun t xs _ e=>kA.tup (fun z=>z) e
   have hlvB:=lv_keep hLv2 fun t xs _ e=>kA.tup (fun z=>z) e
   have k0A:=k06.trans (k69.trans (kA.le fun _ _ z=>z.elim))
   have hTA:=kA.tbl0 hT9
   have hTkA:=kA.tab0 hTk9
   refine ⟨_,rfl,_,rfl,(by show 2 ≤ sizeLine; decide),fun lL hlL=>?_⟩
   generalize hG:upd HA lL _=HB
   have sB:Same HA HB:=by rw [← hG]; exact Same.put (Same.refl _) hlL
   have hB:HB lL=some (.lst [lv,lv2]):=by rw [← hG]; exact upd_same
   clear hG
   refine ⟨(by show 3 ≤ sizeLine; decide),fun t2 ht2=>?_⟩
   generalize hG:upd HB t2 _=HC
   have sC:Same HB HC:=by rw [← hG]; exact Same.put (Same.refl _) ht2
   have hC:HC t2=some (.tup [.ref dA,.int 0,.ref lL]):=by rw [← hG]; exact upd_same
   clear hG
   have sAC:=Same.trans sB sC
   refine k t2 dA lL [lv,lv2] ps3 HC (k0A.trans (.same sAC)) (sAC _ _ hTA) (tab_keep hTkA fun c e=>sAC _ _ e) hC (.inl ?_) (sC _ _ hB) ((LvsAt.one4 (lv_keep hlvA fun t xs _ e=>sAC _ _ e)).snoc (lv_keep hlvB fun t xs _ e=>sAC _ _ e))
   rw [sAC _ _ hA]
   exact congrArg (fun z=>some (HO.dK (kvW z))) (vI_eq hsz)
end
end B04
namespace L2
open PySem PySem.Spec PySem.W PyProof.Rows
def tListV (td:TE):TE:=fun σ H Q=>td σ H fun x H1=>∃ (a:Addr) (kvs:List (Key × V)),x=.ref a∧Rd H1 a (.dK kvs)∧kvs.length ≤ sizeLine∧∀ l,H1 l=none→Q (.ref l) (upd H1 l (.lst (kvs.map (·.2))))
section
variable {X:Cx} {o:Expr} {apos cpos p pos:Pos} {td:TE}
theorem vals_of:∀ {kvs:List (Key × V)} {vs:List (Key × Value)},KV kvs vs→∀ us:List Value,us=vs.map (·.2)→Vals (kvs.map (·.2)) us:=by
 intro kvs vs r
 induction r with
 | nil=>intro us e; rw [e]; exact .nil
 | cons p q ih=>intro us e; rw [e]; exact .cons p.2 (ih _ rfl)
theorem pe_listV (hc:X.calm=true) (ho:PE X o td) (hb:attributeBase o "values" X.env (eval o X.env)=eval o X.env) (hl:(apos.endLine == cpos.line)=true) (hg:Gl X "list") (hm:X.mg "list"=none)
  (hv:bootBuiltins "list"=some (.type "list"))
  (he:starEach [.Call (.Attribute o "values" apos) [] [] cpos] X.env=(false,eval (.Call (.Attribute o "values" apos) [] [] cpos) X.env) :: starEach [] X.env:=by rfl) (hpl:(backTo pos (starEach [] X.env)).any (·.1)=false:=by rfl) :
  PE X (.Call (.Name "list" p) [.Call (.Attribute o "values" apos) [] [] cpos] [] pos) (tListV td):=by
 intro pins s σ H Q I h
 refine wpAny_Call_Name_kw (ld_blt I hg hm hv ?_ (by decide) (by decide))
 refine PyProof.Rows.callWith_type1 ?_ he hpl
 rw [he]
 show wpAny _ _ (spliced ((false,eval (.Call (.Attribute o "values" apos) [] [] cpos) X.env) :: [])) _ _ s
 refine Calls.spliced_cons ?_
 refine wpAny_Call_method hb rfl hl PySem.F.plainAttrs_dict PySem.F.slot_dict_values PySem.F.type_dict_values (thn (ho pins s σ H _ I h) fun u s1 ⟨x,H1,I1,rx,a,kvs,ex,d,hz,q1⟩=>?_)
 subst ex
 obtain rfl:u=Value.ref a:=rx
 obtain ⟨t1,t2,hd⟩:=isD_at I1 (.inl ⟨kvs,d⟩)
 refine ⟨t1,t2,?_⟩
 obtain ⟨z,_,vs,rel,dd⟩:=dk_rd I1.hok d
 refine Calls.callWith_builtin rfl (PyProof.Rows.evalArgs_empty ?_)
 refine call_meetsIn PySem.F.slot_dict_values dd.typeIs PySem.F.entry_dict_values (PySem.F.args_dict_values_1 _) (meets_dict_values (mixKind X.prog X.w) a hd) ⟨⟨vs,dd⟩,?_⟩
 refine Calls.spliced_nil ?_
 obtain ⟨ep,da⟩:=dictAt_of dd
 have hh:=I1.ok.hd hc
 have hok:(s1.heap.push { cls:=.type "dict_values",data:=.fields #[.ref a] }).IsValuesView s1.heap.objs.size a∧(s1.heap.push { cls:=.type "dict_values",data:=.fields #[.ref a] }).DictAt (mixKind X.prog X.w) a vs ep :=
  ⟨⟨_,Heap.get?_push_size _ rfl,rfl,rfl⟩,da.push _⟩
 have K:=kdl_values (prog:=X.prog) (w:=X.w) (knd:=mixKind X.prog X.w) (r:=s1.heap.objs.size) (d:=a) (kvs:=vs) (ep:=ep)
 have el:=rel.length
 refine kdl_call (s:={ s1 with heap:=s1.heap.push { cls:=.type "dict_values",data:=.fields #[.ref a] } }) K hh hok (by omega) ?_
 intro h' tk acc' c' hk hS hI
 have e1:acc'.toList=vs.map (·.2):=kdl_vals_eq acc'.toList (by rw [Array.length_toList]; exact hI.1) fun j v hv=>hI.2 j v (by rw [← Array.getElem?_toList]; exact hv)
 have kp:∀ b o,s1.heap.get? b=some o→h'.get? b=some o:=fun b o e=>hk b o (Heap.get?_push_of_some _ e)
 have hs:s1.heap.objs.size ≤ (s1.heap.push { cls:=.type "dict_values",data:=.fields #[.ref a] }).objs.size:=by
  rw [size_push']
  exact Nat.le_succ _
 exact ⟨.ref (s1.heap.push { cls:=.type "dict_values",data:=.fields #[.ref a] }).objs.size,_,I1.laid (t':=tk) kp hs (show ObjOk X.prog X.w _ h' _ (.lst (kvs.map (·.2))) from ⟨by rw [List.length_map]; exact hz,acc'.toList,c',vals_of rel _ e1,hS⟩),rfl,q1 _ (I1.hok.fresh hs)⟩
def rNeDR:R2:=fun x y H Q=>∃ (a b:Addr) (kvs:List (Key × V)),x=.ref a∧y=.ref b∧Rd H a (.dK kvs)∧Rd H b (.dK kvs)∧(∀ kv ∈ kvs,(∃ n,kv.2=V.int n) ∨ ∃ a,kv.2=V.ref a)∧Q (.bl false) H
theorem op_neDR (hu:X.A.units < cLine):OpR X (compareOp .NotEq) rNeDR:=by
 intro pins s σ H x y v u Q I rx ry h
 obtain ⟨a,b,kvs,e1,e2,da,db,hi,q⟩:=h
 subst e1 e2
 cases rx
 cases ry
 obtain ⟨z,ha,vs,r1,d1⟩:=dk_rd I.hok da
 obtain ⟨_,hb,us,r2,d2⟩:=dk_rd I.hok db
 have el:vs.length=us.length:=by rw [← r1.length,r2.length]
 refine keq_ne ha hb d1 d2 hu (fun _=>hits_same r2 (nodup_of (H:=H) r1 d1) hi kvs vs r1 fun _ h=>h) ?_
 rw [el,beq_self_eq_true,Bool.and_true]
 exact ⟨.bl false,H,I,rfl,q⟩
end
end L2
namespace B04
open PySem L2 S2
theorem kit_tup {K:PySem.W.Frag}:PySem.W.kitOne K (.type "tuple") (.type "tuple")=some true:=by rfl
theorem kit_list {K:PySem.W.Frag}:PySem.W.kitOne K (.type "list") (.type "list")=some true:=by rfl
theorem thaw_or {t:TS} {D:Ends} {σ:St} {H H₀:Hp} {d:Addr} {kvs:List (Key × V)} (h:Rd H d (.dK kvs)) (h0:H₀ d=none) (k:∀ G,G d=some (.dK kvs)→(∀ b w,b ≠ d→H b=some w→G b=some w)→t D σ G) :
  t D σ H ∨ ∃ (a:Addr) (o:Obj) (kvs:List (Key × V)),H a=some (.frz o (.dK kvs))∧H₀ a=none∧t D σ (upd H a (.dK kvs)):=by
 rcases h with h | ⟨o,h⟩
 ·exact .inl (k H h fun _ _ _ e=>e)
 ·exact .inr ⟨d,o,kvs,h,h0,k _ upd_same fun b w hb e=>by rw [upd_ne hb]; exact e⟩
theorem eqd_lv2 {K:PySem.W.Frag} {H:Hp} {a b:Addr} {vs us:List V} {ls:List (Option (Nat × Nat))} (h:LvsAt H vs ls) (g:LvsAt H us ls) (ha:H a=some (.lst vs)) (hb:H b=some (.lst us)):EqD K H 4 (.ref a) (.ref b) true:=by
 refine EqD.lstT (n:=3) (SqL.of ha) (SqL.of hb) (h.1.trans g.1.symm) fun j x y ex ey=>?_
 have hj:j < ls.length:=by rw [← h.1]; exact get_lt ex
 have hl:=List.getElem?_eq_getElem hj
 rcases h.2 j x _ ex hl with ⟨rfl,e1⟩ | ⟨t,p,q,rfl,e1,e2⟩ <;> rcases g.2 j y _ ey hl with ⟨rfl,f1⟩ | ⟨t',p',q',rfl,f1,f2⟩
 ·exact EqD.refl rfl
 ·rw [e1] at f2
  cases f2
 ·rw [f1] at e2
  cases e2
 ·rw [e2] at f2
  cases f2
  refine EqD.tupT (n:=2) (SqT.of e1) (SqT.of f1) rfl fun i x y ex ey=>?_
  rw [ex] at ey
  cases ey
  match i,ex with
  | 0,ex=>cases ex; exact EqD.refl rfl
  | 1,ex=>cases ex; exact EqD.refl rfl
  | i + 2,ex=>cases ex
theorem kvW_iv (l:List (Str × Int)):∀ kv ∈ kvW l,(∃ n,kv.2=V.int n) ∨ ∃ a,kv.2=V.ref a:=fun kv h=>by
 obtain ⟨x,_,rfl⟩:=List.mem_map.mp h
 exact .inl ⟨_,rfl⟩
theorem kvR_iv (l:List It6):∀ kv ∈ kvR l,(∃ n,kv.2=V.int n) ∨ ∃ a,kv.2=V.ref a:=fun kv h=>by
 obtain ⟨x,_,rfl⟩:=List.mem_map.mp h
 exact .inr ⟨_,rfl⟩
theorem same3 {K:PySem.W.Frag} {H:Hp} {d e l m:Addr} {n:Int} {kvs:List (Key × V)} (hd:Rd H d (.dK kvs)) (he:Rd H e (.dK kvs)) (hi:∀ kv ∈ kvs,(∃ n,kv.2=V.int n) ∨ ∃ a,kv.2=V.ref a) (hl:EqD K H 4 (.ref l) (.ref m) true) :
  ∀ (j:Nat) (x y:V),[V.ref d,.int n,.ref l][j]?=some x→[V.ref e,.int n,.ref m][j]?=some y→SameW K H x y:=fun j x y ex ey=>by
 match j,ex,ey with
 | 0,ex,ey=>cases ex; cases ey; exact .inr ⟨d,e,kvs,rfl,rfl,hd,he,hi⟩
 | 1,ex,ey=>cases ex; cases ey; exact .inl (EqD.refl rfl)
 | 2,ex,ey=>cases ex; cases ey; exact .inl hl
 | j + 3,ex,ey=>cases ex
theorem over_pos {H:Hp} {its:List It6} {R:Int} {c:Str→Int} {ls:List (Option (Nat × Nat))} (hok:ItsOk H its) (hR0:0 ≤ R) (pok:PlOk its (planOf R its)) (h:ShP its (planOf R its) c ls):0 ≤ R - sumI (szF (planOf R its) c) its:=by
 by_cases h1:sumI (cl 1) its ≤ R
 ·have ep:planOf R its=plGrow R its:=if_pos h1
  rw [ep] at h pok ⊢
  exact (grow_facts pok h).2.1
 ·by_cases h0:sumI (cl 0) its ≤ R
  ·have ep:planOf R its=plShrink R its:=by
    unfold planOf
    rw [if_neg h1,if_pos h0]
   rw [ep] at h pok ⊢
   rw [(shrink_facts pok hok.2.1 hok.2.2.2 h0 (by omega) h).2.1]
   exact Int.le_refl _
  ·have ep:planOf R its=plYield R its:=by
    unfold planOf
    rw [if_neg h1,if_neg h0]
   rw [ep] at h pok ⊢
   rw [(yield_facts hok hR0 (by omega) h).1]
   exact Int.le_refl _
theorem shp_nil {R:Int} {c:Str→Int} {ls:List (Option (Nat × Nat))} (hR:0 ≤ R) (h:ShP [] (planOf R []) c ls):ls=[none]:=by
 have ep:planOf R []=plGrow R []:=if_pos hR
 rw [ep] at h
 have hl:ls.length=1:=h.1
 obtain ⟨l0,rfl⟩:∃ l0,ls=[l0]:=by
  match ls,hl with
  | [a],_=>exact ⟨a,rfl⟩
 rcases h.2.1 0 _ l0 rfl rfl with ⟨_,e,_⟩ | ⟨z,_⟩
 ·rw [e]
 ·have z:R - 0 < 0:=z
  omega
def spLaw (K:PySem.W.Frag) (T:Addr):Sp:=fun vs H Q _=>∃ (a:Addr) (ns:List Int) (ps:Array Value),vs=[.ref a]∧SqL K H a (ns.map V.int)∧ns.length ≤ 63∧H T=some (.tbl ps)∧TabOk H lamPos lamQual ps∧∀ H',Q (.bl true) H'
section
variable {P:Program} {w:World} {K:PySem.W.Frag} {mg:Str→Option Value} {base:Heap}
abbrev nLaw:List Str:=["_law_script","_law_names_here","_law_items_here","_law_room_here","_law_handed","_law_found","_law_sizes","_law_over","_law_levels","_law_kept"]
theorem scLaw:FnScope nLaw ["_law_script"] (defScope sLaw):=⟨rfl,rfl,rfl,by decide +kernel,rfl,by decide +kernel,by decide +kernel⟩
set_option maxHeartbeats 16000000 in
theorem ok_law {f f1 f2 f3 f4 f5 f6 f7:Addr} {fd d1 d2 d3 d4 d5 d6 d7:FuncData} {C T:Addr} (F:Fun K "law" "law" sLaw f fd) (N:Names mg)
  (G1:FnOk P w K mg base CX0 1 f1 d1 ["_law_script","_law_k"] (spCell K)) (b1:Binds K d1 ["_law_script","_law_k"] []) (m1:mg "_law_at"=some (.ref f1)) (k1:PySem.W.keepIn K (.ref f1)=true)
  (G2:FnOk P w K mg base CX0 1 f2 d2 ["_law_many","_law_cell"] spLNames) (b2:Binds K d2 ["_law_many","_law_cell"] []) (m2:mg "_law_names"=some (.ref f2)) (k2:PySem.W.keepIn K (.ref f2)=true)
  (G3:FnOk P w K mg base CX0 3 f3 d3 ["_law_script","_law_names_here"] (spLItems K)) (b3:Binds K d3 ["_law_script","_law_names_here"] []) (m3:mg "_law_items"=some (.ref f3)) (k3:PySem.W.keepIn K (.ref f3)=true)
  (G4:FnOk P w K mg base CX0 1 f4 d4 ["_law_items_here","_law_cell"] spLRoom) (b4:Binds K d4 ["_law_items_here","_law_cell"] []) (m4:mg "_law_room"=some (.ref f4)) (k4:PySem.W.keepIn K (.ref f4)=true)
  (G5:FnOk P w K mg base CX0 5 f5 d5 ["room","items"] (spShare C T)) (b5:Binds K d5 ["room","items"] []) (m5:mg "share"=some (.ref f5)) (k5:PySem.W.keepIn K (.ref f5)=true)
  (G6:FnOk P w K mg base CX0 2 f6 d6 ["_law_room_here","_law_items_here","_law_sizes","_law_over","_law_levels"] spLRight) (b6:Binds K d6 ["_law_room_here","_law_items_here","_law_sizes","_law_over","_law_levels"] []) (m6:mg "_law_right"=some (.ref f6)) (k6:PySem.W.keepIn K (.ref f6)=true)
  (G7:FnOk P w K mg base CX0 6 f7 d7 ["_law_room_here","_law_items_here"] (spLDue T)) (b7:Binds K d7 ["_law_room_here","_law_items_here"] []) (m7:mg "_law_due"=some (.ref f7)) (k7:PySem.W.keepIn K (.ref f7)=true):FnOk P w K mg base CX0 7 f fd ["_law_script"] (spLaw K T):=by
 refine F.ok scLaw (fun vs H Q E h=>?_) (fun cdv A outer s H vs Q E hr h=>?_)
 ·obtain ⟨a,ns,ps,e,_⟩:=h
  rw [e]
  rfl
 ·obtain ⟨a,ns,ps,e,hS,hn,hT,hTk,k⟩:=h
  subst e
  have hr1:=hr.mono (j:=1) (by decide)
  have hr2:=hr.mono (j:=2) (by decide)
  have hr3:=hr.mono (j:=3) (by decide)
  have hr5:=hr.mono (j:=5) (by decide)
  have hr6:=hr.mono (j:=6) (by decide)
  have hu:(A.deeper (PyProof.Rows.envOfC "law" (defScope sLaw) s.heap.objs.size f cdv)).units + 1 < cLine:=by have:=hr.units; omega
  have hu0:(A.deeper (PyProof.Rows.envOfC "law" (defScope sLaw) s.heap.objs.size f cdv)).units < cLine:=by have:=hr.units; omega
  have hu20:(A.deeper (PyProof.Rows.envOfC "law" (defScope sLaw) s.heap.objs.size f cdv)).units + 20 < cLine:=by have:=hr.units; omega
  refine ⟨_,pss_cons (ps_set (i:=1) scLaw.nd rfl (Or.inl rfl) (pe_call G2 hr1 (by rfl) m2 k2 b2 .nil pass0 (pa_cons (pe_op op_add pe_int (pe_op op_mod (pe_op op_fdiv (pe_call G1 hr1 (by rfl) m1 k1 b1 .nil pass0 (pa_cons (pv 0) (pa_cons pe_int pa_nil))) pe_int) pe_int)) (pa_cons (pe_op op_fdiv (pe_call G1 hr1 (by rfl) m1 k1 b1 .nil pass0 (pa_cons (pv 0) (pa_cons pe_int pa_nil))) pe_int) pa_nil))))
   (pss_cons (ps_set (i:=2) scLaw.nd rfl (Or.inl rfl) (pe_call G3 hr3 (by rfl) m3 k3 b3 .nil pass0 (pa_cons (pv 0) (pa_cons (pv 1) pa_nil))))
   (pss_cons (ps_set (i:=3) scLaw.nd rfl (Or.inl rfl) (pe_call G4 hr1 (by rfl) m4 k4 b4 .nil pass0 (pa_cons (pv 2) (pa_cons (pe_call G1 hr1 (by rfl) m1 k1 b1 .nil pass0 (pa_cons (pv 0) (pa_cons pe_int pa_nil))) pa_nil))))
   (pss_cons (ps_set (i:=4) scLaw.nd rfl (Or.inl rfl) (pe_callTy call_copyD (by rfl) N.dict PyProof.Rows.boot_dict (pa_cons (pv 2) pa_nil)))
   (pss_cons (ps_set (i:=5) scLaw.nd rfl (Or.inl rfl) (pe_call G5 hr5 (by rfl) m5 k5 b5 .nil pass0 (pa_cons (pv 3) (pa_cons (pv 4) pa_nil))))
   (pss_cons (ps_if (pw_or (pt_not (pt_val (pe_callB call_isinst (by rfl) N.inst PyProof.Rows.boot_isinstance (pa_cons (pv 5) (pa_cons (pe_bltn (v:=.ty "tuple") (by rfl) N.tuple PyProof.Rows.boot_tuple rfl (by decide)) pa_nil))))) (pw_or (pt_cmpR op_ne (pe_callB call_len_seq (by rfl) N.len PySem.boot_len (pa_cons (pv 5) pa_nil)) pe_int (nomark _)) (pw_or1 (pt_cmpR (op_neDR hu0) (pv 4) (pv 2) (nomark _))))).pt (pss_one (ps_ret pe_bl)) pss_nil)
   (pss_cons (ps_asg (pv 5) (pg_tup rfl (pgs_cons (pg_name (i:=6) scLaw.nd rfl (Or.inl rfl)) (pgs_cons (pg_name (i:=7) scLaw.nd rfl (Or.inl rfl)) (pgs_cons (pg_name (i:=8) scLaw.nd rfl (Or.inl rfl)) pgs_nil)))))
   (pss_cons (ps_if (pw_or (pt_not (pt_val (pe_callB call_isinst (by rfl) N.inst PyProof.Rows.boot_isinstance (pa_cons (pv 6) (pa_cons (pe_bltn (v:=.ty "dict") (by rfl) N.dict PyProof.Rows.boot_dict rfl (by decide)) pa_nil))))) (pw_or (pt_cmpR (op_neL hu0) (pe_callB (call_sortS rfl) (by rfl) N.sorted PyProof.Rows.boot_sorted (pa_cons (pv 6) pa_nil)) (pe_callB (call_sortS rfl) (by rfl) N.sorted PyProof.Rows.boot_sorted (pa_cons (pv 1) pa_nil)) (nomark _)) (pw_or1 (pt_not (pt_val (pe_callB call_isinst (by rfl) N.inst PyProof.Rows.boot_isinstance (pa_cons (pv 8) (pa_cons (pe_bltn (v:=.ty "list") (by rfl) N.list PyProof.Rows.boot_list rfl (by decide)) pa_nil)))))))).pt (pss_one (ps_ret pe_bl)) pss_nil)
   (pss_cons (ps_if (pt_not (pt_val (pe_callB (call_allL rfl) (by rfl) N.all PyProof.Rows.boot_all (pa_cons (pe_comp (compSc_mk (fs:=defScope sLaw) (N:=nLaw) rfl rfl (by decide +kernel)) rfl (pi_list (pe_op op_cat (pe_listV rfl (pv 6) (by rfl) (by rfl) (by rfl) N.list PyProof.Rows.boot_list) (pe_lst (pa_cons (pv 7) pa_nil)))) (fun _ _ _ _ _=>pts_nil) (fun _ _ _ _ _=>(pe_and (pe_callB (r:=rInst K) call_isinst (by rfl) N.inst PyProof.Rows.boot_isinstance (pa_cons (pv 0) (pa_cons (pe_bltn (v:=.ty "int") (by rfl) N.int PyProof.Rows.boot_int rfl (by decide)) pa_nil))) (pe_one (pe_not (pe_callB (r:=rInst K) call_isinst (by rfl) N.inst PyProof.Rows.boot_isinstance (pa_cons (pv 0) (pa_cons (pe_bltn (v:=.ty "bool") (by rfl) N.bool PyProof.Rows.boot_bool rfl (by decide)) pa_nil)))))))) pa_nil)))) (pss_one (ps_ret pe_bl)) pss_nil)
   (pss_cons (ps_if (pw_or (pt_cmpR op_ne (pe_op op_add (pe_sumV rfl (pv 6) (by rfl) (by rfl) (by rfl) N.sum PyProof.Rows.boot_sum) (pv 7)) (pv 3) (nomark _)) (pw_or (pt_cmpR op_lt (pv 7) pe_int (nomark _)) (pw_or1 (pt_not (pt_val (pe_call G6 hr2 (by rfl) m6 k6 b6 .nil pass0 (pa_cons (pv 3) (pa_cons (pv 2) (pa_cons (pv 6) (pa_cons (pv 7) (pa_cons (pv 8) pa_nil))))))))))).pt (pss_one (ps_ret pe_bl)) pss_nil)
   (pss_cons (ps_if (pt_cmpR (op_neTW2 hu20) (pe_tup (pa_cons (pv 6) (pa_cons (pv 7) (pa_cons (pv 8) pa_nil)))) (pe_call G7 hr6 (by rfl) m7 k7 b7 .nil pass0 (pa_cons (pv 3) (pa_cons (pv 2) pa_nil))) (nomark _)) (pss_one (ps_ret pe_bl)) pss_nil)
   (pss_cons (ps_set (i:=9) scLaw.nd rfl (Or.inl rfl) (pe_tup (pa_cons (pe_callTy call_copyD (by rfl) N.dict PyProof.Rows.boot_dict (pa_cons (pv 6) pa_nil)) (pa_cons (pv 7) (pa_cons (pe_callTy call_list_of (by rfl) N.list PyProof.Rows.boot_list (pa_cons (pv 8) pa_nil)) pa_nil)))))
   (pss_thaw (pss_cons (ps_dput hu (pv 6) (pe_ix ix_list (pv 1) pe_int (fun _ _=>rfl)) (pe_un un_neg pe_int) rfl)
   (pss_cons (ps_expr (pe_bm PySem.F.plainAttrs_list PySem.F.slot_list_append PySem.F.type_list_append mt_append (pv 8) (pa_cons pe_non pa_nil)))
   (pss_one (ps_ret (pe_and (pe_cmpR (op_eqTW2 hu20) (pe_call G5 hr5 (by rfl) m5 k5 b5 .nil pass0 (pa_cons (pv 3) (pa_cons (pv 4) pa_nil))) (pv 9) (nomark _)) (pe_one (pe_cmpR (op_eqTW2 hu20) (pe_call G5 hr5 (by rfl) m5 k5 b5 .nil pass0 (pa_cons (pv 3) (pa_cons pe_dnewK pa_nil))) (pe_tup (pa_cons pe_dnewK (pa_cons (pv 3) (pa_cons (pe_lst (pa_cons pe_non pa_nil)) pa_nil)))) (nomark _)))))))))))))))))))),?_⟩
  try rw [show (cxOf CX0 P w K mg base nLaw "law" (defScope sLaw) f cdv A outer s H E).nox.K=K from rfl]
  refine seq_abs fun N1 hN=>?_
  refine ⟨_,rfl,a,0,ns,rfl,hS,hn,fun z0=>⟨_,_,rfl,rfl,⟨by decide,by decide⟩,_,_,rfl,rfl,(by show (0:Int) < 20; decide),_,_,rfl,rfl,?_⟩⟩
  obtain ⟨m,em,hm1,hm2⟩:∃ m:Nat,1 + z0 / 2 % 20=(m:Int)∧1 ≤ m∧m ≤ 20:=⟨(1 + z0 / 2 % 20).toNat,by omega,by omega,by omega⟩
  dsimp only
  rw [em]
  refine ⟨_,rfl,a,0,ns,rfl,hS,hn,fun z1=>⟨_,_,rfl,rfl,⟨by decide,by decide⟩,m,_,rfl,by omega,fun ln nms H1 hln s1 h1 hl1 hnd=>?_⟩⟩
  refine hN _ _ ?_
  clear hN N1
  refine seq_abs fun N1 hN=>?_
  refine ⟨_,rfl,_,rfl,a,ln,ns,nms,rfl,s1.seq hS,hn,h1,hnd,by omega,fun dI its H2 hdI s2 h2 hk hok=>?_⟩
  refine hN _ _ ?_
  clear hN N1
  have s02:=Same.trans s1 s2
  have hil:its.length=m:=by rw [← List.length_map (f:=(·.1)),hk]; exact hl1
  have nd:=hok.2.1
  have h2n:H2 ln=some (.lst (nms.map V.str)):=s2 _ _ h1
  refine seq_abs fun N1 hN=>?_
  refine ⟨_,rfl,_,rfl,a,1,ns,rfl,s02.seq hS,hn,fun z2=>⟨dI,its,z2,rfl,.inl h2,hok,fun R H3 k3 hR0 hR1=>?_⟩⟩
  refine hN _ _ ?_
  clear hN N1
  have hI3:=k3.rd (fun z=>z) (.inl h2)
  have hok3:=k3.its0 hok
  have h3n:=k3.lst (fun z=>z) h2n
  have hT3:=k3.tbl0 (s02 _ _ hT)
  have hTk3:=k3.tab0 (tab_keep hTk fun c e=>s02 _ _ e)
  have pok:=plan_ok hok hR0 hR1
  have fr3:∀ b,H3 b=none→H b=none:=fun b e=>s02.free (k3.free e)
  clear s1 s2 s02 h1 h2 h2n k3 hTk hT hS
  -- handed
  refine seq_abs fun N1 hN=>?_
  refine ⟨_,rfl,dI,_,rfl,hI3,fun eI heI=>?_⟩
  generalize hG:upd H3 eI _=H4
  have s4:Same H3 H4:=by rw [← hG]; exact Same.put (Same.refl _) heI
  have h4:H4 eI=some (.dK (kvR its)):=by rw [← hG]; exact upd_same
  clear hG
  refine hN _ _ ?_
  clear hN N1
  have hI4:=hI3.keep fun o e=>s4 _ _ e
  have hok4:ItsOk H4 its:=hok3.keep fun t xs e=>s4 _ _ e
  have h4n:=s4 _ _ h3n
  have hT4:=s4 _ _ hT3
  have fr4:∀ b,H4 b=none→H b=none:=fun b e=>fr3 b (s4.free e)
  have neI:dI ≠ eI:=rd_new hI3 heI
  -- share
  refine seq_abs fun N1 hN=>?_
  refine ⟨_,rfl,_,rfl,eI,its,R,ps,rfl,.inl h4,hok4,hR0,hR1,hT4,(tab_keep hTk3 fun c e=>s4 _ _ e),fun tt dS lL c lvs ls ps5 H5 k5 h5t h5S h5L hLv hSh hT5 hTk5 hdS=>?_⟩
  refine hN _ _ ?_
  clear hN N1
  have neT:∀ {b u},H4 b=some u→u ≠ .tbl ps→b ≠ T:=fun e ne=>ne_of e hT4 ne
  have hI5:=k5.rd (rd_neT hI4 hT4) hI4
  have hE5:=k5.rd (rd_neT (.inl h4) hT4) (.inl h4)
  have hok5:ItsOk H5 its:=k5.its hok4 fun t xs e z=>neT e (by intro z; cases z) z
  have h5n:=k5.lst (neT h4n (by intro z; cases z)) h4n
  have hdS0:=fr4 _ hdS
  have nIS:dI ≠ dS:=rd_new hI4 hdS
  have nES:eI ≠ dS:=ne_of_none h4 hdS
  clear s4 h4 k5 hT3 hT4 hTk3 hI3 hok3 h3n neT hI4 hok4 h4n fr3 fr4
  have hov:=over_pos hok5 hR0 pok hSh
  have hll:lvs.length ≤ 20:=by rw [hLv.1,hSh.1]; exact pok.len
  generalize hsF:szF (planOf R its) c=sF at *
  -- its kind,what was handed
  refine seq_abs fun N1 hN=>?_
  refine ⟨_,rfl,_,"tuple",_,_,rfl,TyOf.tup h5t,kit_tup,_,rfl,iteF ?_⟩
  refine ⟨_,rfl,tt,_,rfl,.inr (SqT.of h5t),rfl,_,rfl,iteF ?_⟩
  refine ⟨_,rfl,_,rfl,eI,dI,_,rfl,rfl,hE5,hI5,kvR_iv _,_,rfl,iteF ?_⟩
  refine hN _ _ ?_
  clear hN N1
  refine seq_abs fun N1 hN=>?_
  refine ⟨_,rfl,tt,_,rfl,SqT.of h5t,rfl,_,_,rfl,_,_,rfl,_,_,rfl,rfl,?_⟩
  refine hN _ _ ?_
  clear hN N1
  -- a dict of the names
  refine seq_abs fun N1 hN=>?_
  refine ⟨_,rfl,_,"dict",_,_,rfl,TyOf.dK h5S,kit_dict,_,rfl,iteF ?_⟩
  have ekd:(kvW (vI sF its)).map (fun kv=>kV kv.1)=nms.map V.str:=by rw [kvW_keys,vI_keys,hk]
  refine ⟨_,rfl,dS,nms,rfl,.inr ⟨_,.inl h5S,ekd⟩,by omega,fun q1 o1 hq1 ho1 hs1=>?_⟩
  generalize hG:upd H5 q1 _=H6
  have s6:Same H5 H6:=by rw [← hG]; exact Same.put (Same.refl _) hq1
  have h6:H6 q1=some (.lst (o1.map V.str)):=by rw [← hG]; exact upd_same
  clear hG
  refine ⟨_,rfl,ln,nms,rfl,.inl (SqL.of (s6 _ _ h5n)),by omega,fun q2 o2 hq2 ho2 hs2=>?_⟩
  have eo:o1=o2:=sortedS_unique (ho1.trans ho2.symm) hs1 hs2
  subst eo
  generalize hG:upd H6 q2 _=H7
  have s7:Same H6 H7:=by rw [← hG]; exact Same.put (Same.refl _) hq2
  have h7:H7 q2=some (.lst (o1.map V.str)):=by rw [← hG]; exact upd_same
  clear hG
  refine ⟨q1,q2,_,_,rfl,rfl,SqL.of (s7 _ _ h6),SqL.of h7,rfl,flat_strs _,flat_strs _,_,rfl,?_⟩
  rw [strs_eq]
  refine iteF ?_
  have s57:=Same.trans s6 s7
  refine ⟨_,rfl,_,"list",_,_,rfl,TyOf.lst (s57 _ _ h5L),kit_list,_,rfl,iteF ?_⟩
  refine hN _ _ ?_
  clear hN N1
  clear ho1 ho2 hs1 hs2 h6 h7 s6 s7 ekd
  -- whole numbers
  have h7S:=s57 _ _ h5S
  refine seq_abs fun N1 hN=>?_
  refine ⟨_,rfl,dS,_,rfl,.inl h7S,smallE (by rw [kvW_len,vI_len]; omega),fun l1 hl1'=>?_⟩
  generalize hG:upd H7 l1 _=H8
  have s8:Same H7 H8:=by rw [← hG]; exact Same.put (Same.refl _) hl1'
  have h8:H8 l1=some (.lst ((kvW (vI sF its)).map (·.2))):=by rw [← hG]; exact upd_same
  clear hG
  refine ⟨_,rfl,(by show 1 ≤ sizeLine; decide),fun l2 hl2'=>?_⟩
  generalize hG:upd H8 l2 _=H9
  have s9:Same H8 H9:=by rw [← hG]; exact Same.put (Same.refl _) hl2'
  have h9:H9 l2=some (.lst [.int (R - sumI sF its)]):=by rw [← hG]; exact upd_same
  clear hG
  refine ⟨l1,l2,_,_,rfl,rfl,s9 _ _ h8,h9,smallE (by rw [List.length_map,kvW_len,vI_len]; simp; omega),fun l3 hl3'=>?_⟩
  generalize hG:upd H9 l3 _=HA
  have sA:Same H9 HA:=by rw [← hG]; exact Same.put (Same.refl _) hl3'
  have hA:HA l3=some (.lst ((kvW (vI sF its)).map (·.2) ++ [.int (R - sumI sF its)])):=by rw [← hG]; exact upd_same
  clear hG
  have eA:(kvW (vI sF its)).map (·.2) ++ [V.int (R - sumI sF its)]=(its.map sF ++ [R - sumI sF its]).map V.int:=by
   rw [vI_vals,List.map_append]
   rfl
  rw [eA] at hA
  refine ⟨l3,rfl,⟨_,SqL.of hA⟩,comp_of (α:=Int) (l:=its.map sF ++ [R - sumI sF its]) V.int (fun _=>true) (fun _=>V.bl true) (IsIt.list (SqL.of hA)) (small (by rw [List.length_append,List.length_map]; simp; omega)) (fun x H' Q' _ _ hq=>hq _ (Same.refl _)) (fun x H' Q' _ hx s' hq=>⟨_,rfl,_,"int",_,_,rfl,TyOf.int x,kit_ints,_,rfl,iteT ⟨_,rfl,_,"bool",_,_,rfl,TyOf.int x,kit_intb,_,rfl,hq _ (Same.refl _)⟩⟩) fun D HB hD sB hB=>?_⟩
  refine ⟨D,((its.map sF ++ [R - sumI sF its]).filter fun _=>true).map fun _=>true,rfl,SqL.of (by rw [hB,List.map_map]; rfl),_,rfl,?_⟩
  rw [all_map_true]
  refine iteF ?_
  refine hN _ _ ?_
  clear hN N1
  have s5B:=Same.trans s57 (Same.trans s8 (Same.trans s9 (Same.trans sA sB)))
  clear s57 s8 s9 sA sB h8 h9 hA hB eA h7S
  have hBS:=s5B _ _ h5S
  have hBL:=s5B _ _ h5L
  have hIB:=hI5.keep fun o e=>s5B _ _ e
  have hEB:=hE5.keep fun o e=>s5B _ _ e
  have hokB:ItsOk HB its:=hok5.keep fun t xs e=>s5B _ _ e
  have hBn:=s5B _ _ h5n
  have hBT:=s5B _ _ hT5
  have hBTk:TabOk HB lamPos lamQual ps5:=tab_keep hTk5 fun c e=>s5B _ _ e
  have hBLv:LvsAt HB lvs ls:=hLv.keep fun t xs e=>s5B _ _ e
  clear s5B h5S h5L hI5 hE5 hok5 h5n hT5 hTk5 hLv h5t
  -- right
  refine seq_abs fun N1 hN=>?_
  refine ⟨_,rfl,dS,_,_,rfl,.inl hBS,vI_vals _ _,_,rfl,_,_,rfl,rfl,_,rfl,rfl,_,rfl,iteC ?_ ?_⟩
  ·have e:(its.map sF).sum + (R - sumI sF its)=R:=by
    show sumI sF its + (R - sumI sF its)=R
    omega
   show (!decide (V.int ((its.map sF).sum + (R - sumI sF its))=V.int R))=false
   rw [e,decide_eq_true rfl]
   rfl
  refine ⟨_,rfl,_,_,rfl,rfl,_,rfl,iteC (decide_eq_false (by show ¬ R - sumI sF its < 0; omega)) ?_⟩
  refine ⟨_,rfl,_,rfl,_,rfl,_,rfl,_,rfl,dI,dS,lL,its,R,c,ls,lvs,(by rw [hsF]; rfl),nIS,hIB,hokB,(by rw [hsF]; exact .inl hBS),hBL,hBLv.1,hR0,hR1,hSh,fun HC kC=>⟨_,rfl,iteF ?_⟩⟩
  refine hN _ _ ?_
  clear hN N1
  have hCS:=kC.rd (fun z=>z) (.inl hBS)
  have hCL:=kC.lst (fun z=>z) hBL
  have hIC:=kC.rd (fun z=>z) hIB
  have hEC:=kC.rd (fun z=>z) hEB
  have hokC:=kC.its0 hokB
  have hCn:=kC.lst (fun z=>z) hBn
  have hCT:=kC.tbl0 hBT
  have hCTk:=kC.tab0 hBTk
  have hCLv:LvsAt HC lvs ls:=hBLv.keep fun t xs e=>kC.tup (fun z=>z) e
  clear kC hBS hBL hIB hEB hokB hBn hBT hBTk hBLv
  -- due
  refine seq_abs fun N1 hN=>?_
  refine ⟨_,rfl,_,rfl,_,rfl,(by show 3 ≤ sizeLine; decide),fun t5 ht5=>?_⟩
  generalize hG:upd HC t5 _=HD
  have sD:Same HC HD:=by rw [← hG]; exact Same.put (Same.refl _) ht5
  have hD5:HD t5=some (.tup [.ref dS,.int (R - sumI sF its),.ref lL]):=by rw [← hG]; exact upd_same
  clear hG
  refine ⟨_,rfl,_,rfl,dI,its,R,c,ls,ps5,rfl,hIC.keep (fun o e=>sD _ _ e),hokC.keep (fun t xs e=>sD _ _ e),hR0,hR1,sD _ _ hCT,(tab_keep hCTk fun c e=>sD _ _ e),hSh,fun t6 dD lD lvD ps6 HE kE hET hETk hEt hEdS hEdL hLvD=>?_⟩
  rw [hsF] at hEt hEdS
  have hDT:=sD _ _ hCT
  have neT:∀ {b u},HD b=some u→u ≠ .tbl ps5→b ≠ T:=fun e ne=>ne_of e hDT ne
  have kr:∀ {b kvs},Rd HC b (.dK kvs)→Rd HE b (.dK kvs):=fun e=>kE.rd (rd_neT (e.keep fun o e=>sD _ _ e) hDT) (e.keep fun o e=>sD _ _ e)
  have kl:∀ {b xs},HC b=some (.lst xs)→HE b=some (.lst xs):=fun e=>kE.lst (neT (sD _ _ e) (by intro z; cases z)) (sD _ _ e)
  have kt:∀ t xs,HC t=some (.tup xs)→HE t=some (.tup xs):=fun t xs e=>kE.tup (neT (sD _ _ e) (by intro z; cases z)) (sD _ _ e)
  have hES:=kr hCS
  have hEL:=kl hCL
  have hIE:=kr hIC
  have hEE:=kr hEC
  have hokE:ItsOk HE its:=hokC.keep kt
  have hEn:=kl hCn
  have hELv:LvsAt HE lvs ls:=hCLv.keep kt
  have hE5:=kE.tup (neT hD5 (by intro z; cases z)) hD5
  clear kr kl kt kE neT sD hD5 hDT hCS hCL hIC hEC hokC hCn hCT hCTk hCLv
  refine ⟨t5,t6,_,_,rfl,rfl,SqT.of hE5,SqT.of hEt,rfl,same3 hES hEdS (kvW_iv _) (eqd_lv2 hELv hLvD hEL hEdL),_,rfl,iteF ?_⟩
  refine hN _ _ ?_
  clear hN N1
  clear hEt hEdS hEdL hLvD hE5
  -- kept
  refine seq_abs fun N1 hN=>?_
  refine ⟨_,rfl,dS,_,rfl,hES,fun eS heS=>?_⟩
  generalize hG:upd HE eS _=HF
  have sF':Same HE HF:=by rw [← hG]; exact Same.put (Same.refl _) heS
  have hF:HF eS=some (.dK (kvW (vI sF its))):=by rw [← hG]; exact upd_same
  clear hG
  refine ⟨_,rfl,_,rfl,lL,_,rfl,.inl (SqL.of (sF' _ _ hEL)),fun eL heL=>?_⟩
  generalize hG:upd HF eL _=HG
  have sG:Same HF HG:=by rw [← hG]; exact Same.put (Same.refl _) heL
  have hGl:HG eL=some (.lst lvs):=by rw [← hG]; exact upd_same
  clear hG
  refine ⟨(by show 3 ≤ sizeLine; decide),fun tk htk=>?_⟩
  generalize hG:upd HG tk _=HJ
  have sJ:Same HG HJ:=by rw [← hG]; exact Same.put (Same.refl _) htk
  have hJ:HJ tk=some (.tup [.ref eS,.int (R - sumI sF its),.ref eL]):=by rw [← hG]; exact upd_same
  clear hG
  refine hN _ _ ?_
  clear hN N1
  have sEJ:=Same.trans sF' (Same.trans sG sJ)
  have hJS:=hES.keep fun o e=>sEJ _ _ e
  have hJL:=sEJ _ _ hEL
  have hJE:=hEE.keep fun o e=>sEJ _ _ e
  have hokJ:ItsOk HJ its:=hokE.keep fun t xs e=>sEJ _ _ e
  have hJn:=sEJ _ _ hEn
  have hJT:=sEJ _ _ hET
  have hJTk:TabOk HJ lamPos lamQual ps6:=tab_keep hETk fun c e=>sEJ _ _ e
  have hJe:HJ eS=some (.dK (kvW (vI sF its))):=sJ _ _ (sG _ _ hF)
  have hJl:HJ eL=some (.lst lvs):=sJ _ _ hGl
  have hJLv:LvsAt HJ lvs ls:=hELv.keep fun t xs e=>sEJ _ _ e
  have nSe:dS ≠ eS:=rd_new hES heS
  have nLe:lL ≠ eL:=ne_of_none (sF' _ _ hEL) heL
  clear sEJ sF' sG sJ hF hGl hES hEL hIE hEE hokE hEn hET hETk hELv
  obtain ⟨x0,e0,hx0⟩:∃ x0:It6,(nms.map V.str)[0]?=some (.str x0.1)∧x0 ∈ its:=by
   rw [← hk]
   cases its with
   | nil =>
    simp at hil
    omega
   | cons x l=>exact ⟨x,rfl,List.mem_cons_self⟩
  refine thaw_or (d:=dS) hJS hdS0 fun G hGS kG=>?_
  have kN:∀ {b w},HJ b=some w→(∀ kvs,w ≠ .dK kvs)→(∀ o kvs,w ≠ .frz o (.dK kvs))→b ≠ dS:=fun e n1 n2 z=>by
   subst z
   rcases hJS with y | ⟨o,y⟩
   ·rw [e] at y
    exact n1 _ (Option.some.inj y)
   ·rw [e] at y
    exact n2 _ _ (Option.some.inj y)
  have nLS:lL ≠ dS:=kN hJL (fun _ z=>by cases z) (fun _ _ z=>by cases z)
  have nTS:T ≠ dS:=kN hJT (fun _ z=>by cases z) (fun _ _ z=>by cases z)
  have nnS:ln ≠ dS:=kN hJn (fun _ z=>by cases z) (fun _ _ z=>by cases z)
  have nlS:eL ≠ dS:=kN hJl (fun _ z=>by cases z) (fun _ _ z=>by cases z)
  have nkS:tk ≠ dS:=kN hJ (fun _ z=>by cases z) (fun _ _ z=>by cases z)
  have nTL:T ≠ lL:=ne_of hJT hJL (by intro z; cases z)
  have nkL:tk ≠ lL:=ne_of hJ hJL (by intro z; cases z)
  have neL:eS ≠ lL:=ne_of hJe hJL (by intro z; cases z)
  have nIL:eI ≠ lL:=fun z=>by
   subst z
   rcases hJE with y | ⟨o,y⟩ <;> (rw [hJL] at y; cases y)
  refine seq_abs fun N1 hN=>?_
  refine ⟨_,rfl,_,rfl,_,rfl,ln,_,_,_,rfl,rfl,SqL.of (kG _ _ nnS hJn),atI_nat (j:=0) e0,dS,_,rfl,DPut.k (k:=.inr x0.1) hGS (small (by rw [kvW_len,vI_len]; omega)),?_⟩
  generalize hG:upd G dS _=HK
  have kK:∀ {b w},b ≠ dS→HJ b=some w→HK b=some w:=fun hb e=>by
   rw [← hG,upd_ne hb]
   exact kG _ _ hb e
  clear hG
  refine hN _ _ ?_
  clear hN N1
  have hKL:=kK nLS hJL
  refine seq_abs fun N1 hN=>?_
  refine ⟨_,rfl,.inl ⟨rfl,_,SqL.of hKL⟩,lL,_,_,rfl,rfl,hKL,small (by omega),?_⟩
  generalize hG:upd HK lL _=HL
  have kL:∀ {b w},b ≠ dS→b ≠ lL→HJ b=some w→HL b=some w:=fun h1 h2 e=>by
   rw [← hG,upd_ne h2]
   exact kK h1 e
  clear hG
  refine hN _ _ ?_
  clear hN N1
  have ktL:∀ t xs,HJ t=some (.tup xs)→HL t=some (.tup xs):=fun t xs e=>kL (kN e (fun _ z=>by cases z) (fun _ _ z=>by cases z)) (ne_of e hJL (by intro z; cases z)) e
  have hLE:Rd HL eI (.dK (kvR its)):=hJE.keep fun o e=>kL nES nIL e
  have hokL:ItsOk HL its:=hokJ.keep ktL
  have hLT:=kL nTS nTL hJT
  have hLTk:TabOk HL lamPos lamQual ps6:=tab_keep hJTk fun c e=>kL (kN e (fun _ z=>by cases z) (fun _ _ z=>by cases z)) (ne_of e hJL (by intro z; cases z)) e
  have hLe:=kL (Ne.symm nSe) neL hJe
  have hLl:=kL nlS (Ne.symm nLe) hJl
  have hLk:=kL nkS nkL hJ
  have hLLv:LvsAt HL lvs ls:=hJLv.keep ktL
  clear kL ktL kK kG kN hJS hJL hJE hokJ hJn hJT hJTk hJe hJl hJLv hJ hKL hGS
  -- again
  refine ⟨_,rfl,_,rfl,eI,its,R,ps6,rfl,hLE,hokL,hR0,hR1,hLT,hLTk,fun t7 dS7 lL7 c7 lv7 ls7 ps7 HM kM hMt hMS hML hLvM hShM hMT hMTk _=>?_⟩
  obtain ⟨e1,e2⟩:=shp_uniq pok hSh hShM
  subst e1 e2
  rw [hsF] at hMt hMS
  have neT:∀ {b u},HL b=some u→u ≠ .tbl ps6→b ≠ T:=fun e ne=>ne_of e hLT ne
  have hMe:=kM.rd (rd_neT (.inl hLe) hLT) (.inl hLe)
  have hMl:=kM.lst (neT hLl (by intro z; cases z)) hLl
  have hMk:=kM.tup (neT hLk (by intro z; cases z)) hLk
  have hMLv:LvsAt HM lvs ls:=hLLv.keep fun t xs e=>kM.tup (neT e (by intro z; cases z)) e
  refine ⟨_,rfl,t7,tk,_,_,rfl,rfl,SqT.of hMt,SqT.of hMk,rfl,same3 (.inl hMS) hMe (kvW_iv _) (eqd_lv2 hLvM hMLv hML hMl),_,rfl,iteT ?_⟩
  clear hMe hMl hMk hMLv hMt hMS hML hLvM hLE hokL hLe hLl hLk hLLv
  -- nothing to share
  refine ⟨_,rfl,fun g1 hg1=>?_⟩
  generalize hG:upd HM g1 _=HN
  have sN:Same HM HN:=by rw [← hG]; exact Same.put (Same.refl _) hg1
  have hNg:HN g1=some (.dK []):=by rw [← hG]; exact upd_same
  clear hG
  refine ⟨g1,[],R,ps7,rfl,.inl hNg,⟨fun x hx=>(nomatch hx),List.nodup_nil,Nat.zero_le _,fun x hx=>(nomatch hx)⟩,hR0,hR1,sN _ _ hMT,(tab_keep hMTk fun c e=>sN _ _ e),fun t8 dS8 lL8 c8 lv8 ls8 ps8 HP kP hPt hPS hPL hLvP hShP _ _ _=>?_⟩
  have en:=shp_nil hR0 hShP
  subst en
  have eR:R - sumI (szF (planOf R []) c8) []=R:=by
   show R - 0=R
   omega
  rw [eR] at hPt
  intro g2 hg2
  generalize hG:upd HP g2 _=HQ
  have sQ:Same HP HQ:=by rw [← hG]; exact Same.put (Same.refl _) hg2
  have hQg:HQ g2=some (.dK []):=by rw [← hG]; exact upd_same
  clear hG
  refine ⟨_,rfl,(by show 1 ≤ sizeLine; decide),fun l9 hl9=>?_⟩
  generalize hG:upd HQ l9 _=HR
  have sR:Same HQ HR:=by rw [← hG]; exact Same.put (Same.refl _) hl9
  have hRl:HR l9=some (.lst [.non]):=by rw [← hG]; exact upd_same
  clear hG
  refine ⟨(by show 3 ≤ sizeLine; decide),fun t9 ht9=>?_⟩
  generalize hG:upd HR t9 _=HS
  have sS:Same HR HS:=by rw [← hG]; exact Same.put (Same.refl _) ht9
  have hSt:HS t9=some (.tup [.ref g2,.int R,.ref l9]):=by rw [← hG]; exact upd_same
  clear hG
  have sPS:=Same.trans sQ (Same.trans sR sS)
  exact ⟨t8,t9,_,_,rfl,rfl,SqT.of (sPS _ _ hPt),SqT.of hSt,rfl,same3 (.inl (sPS _ _ hPS)) (.inl (sS _ _ (sR _ _ hQg))) (fun kv h=>nomatch h) (eqd_lv2 (hLvP.keep fun t xs e=>sPS _ _ e) (.one4 (.inl ⟨rfl,rfl⟩)) (sPS _ _ hPL) (sS _ _ hRl)),k _⟩
end
end B04
namespace B04
open PySem L2 S2
theorem us0 {us:List Value} (h:us.length=0):us=[]:=List.eq_nil_of_length_eq_zero h
theorem usS {us:List Value} {n:Nat} (h:us.length=n + 1):∃ a vs,us=a :: vs∧vs.length=n:=by
 cases us with
 | nil=>cases h
 | cons a vs=>exact ⟨a,vs,rfl,Nat.succ.inj h⟩
theorem us1 {us:List Value} (h:us.length=1):∃ a,us=[a]:=by
 obtain ⟨a,vs,rfl,g⟩:=usS h
 exact ⟨a,by rw [us0 g]⟩
theorem us2 {us:List Value} (h:us.length=2):∃ a a1,us=[a,a1]:=by
 obtain ⟨a,vs,rfl,g⟩:=usS h
 obtain ⟨a1,rfl⟩:=us1 g
 exact ⟨a,a1,rfl⟩
theorem us3 {us:List Value} (h:us.length=3):∃ a a1 a2,us=[a,a1,a2]:=by
 obtain ⟨a,vs,rfl,g⟩:=usS h
 obtain ⟨a1,a2,rfl⟩:=us2 g
 exact ⟨a,a1,a2,rfl⟩
theorem us4 {us:List Value} (h:us.length=4):∃ a a1 a2 a3,us=[a,a1,a2,a3]:=by
 obtain ⟨a,vs,rfl,g⟩:=usS h
 obtain ⟨a1,a2,a3,rfl⟩:=us3 g
 exact ⟨a,a1,a2,a3,rfl⟩
theorem us5 {us:List Value} (h:us.length=5):∃ a a1 a2 a3 a4,us=[a,a1,a2,a3,a4]:=by
 obtain ⟨a,vs,rfl,g⟩:=usS h
 obtain ⟨a1,a2,a3,a4,rfl⟩:=us4 g
 exact ⟨a,a1,a2,a3,a4,rfl⟩
set_option maxHeartbeats 4000000 in
theorem all_mk {l:PySem.W.OpenLaw} {w:World} {K:PySem.W.Frag} {h:Heap} {mg:Str→Option Value} {fa c0 CP f1 f2 f3 f4 f5 f6 f7 f8 f9 f10 f11 f12 f13 f14 f15 f16 f17 f18 f19 f20 f21 f22 f23 f24 f25 f26 f27 f28 f29 f30 f31 f32:Addr} (X:K.In h) (G:h.Ns mainGlobals mg) (hfa:mg "law"=some (.ref fa))
  {od1 an1 od2 an2 od3 an3 od4 an4 od5 an5 od6 an6 od7 an7 od8 an8 od9 an9 od10 an10 od11 an11 od12 an12 od13 an13 od14 an14 od15 an15 od16 an16 od17 an17 od18 an18 od19 an19 od20 an20 od21 an21 od22 an22 od23 an23 od24 an24 od25 an25 od26 an26 od27 an27 od28 an28 od29 an29 od30 an30 od31 an31 od32 an32:Option Addr} {sl1 sl2 sl3 sl4 sl5 sl6 sl7 sl8 sl9 sl10 sl11 sl12 sl13 sl14 sl15 sl16 sl17 sl18 sl19 sl20 sl21 sl22 sl23 sl24 sl25 sl26 sl27 sl28 sl29 sl30 sl31 sl32:Array (Option Value)} {oc1 kV1 dc1 pm1 ct1 oc2 kV2 dc2 pm2 ct2 oc3 kV3 dc3 pm3 ct3 oc4 kV4 dc4 pm4 ct4 oc5 kV5 dc5 pm5 ct5 oc6 kV6 dc6 pm6 ct6 oc7 kV7 dc7 pm7 ct7 oc8 kV8 dc8 pm8 ct8 oc9 kV9 dc9 pm9 ct9 oc10 kV10 dc10 pm10 ct10 oc11 kV11 dc11 pm11 ct11 oc12 kV12 dc12 pm12 ct12 oc13 kV13 dc13 pm13 ct13 oc14 kV14 dc14 pm14 ct14 oc15 kV15 dc15 pm15 ct15 oc16 kV16 dc16 pm16 ct16 oc17 kV17 dc17 pm17 ct17 oc18 kV18 dc18 pm18 ct18 oc19 kV19 dc19 pm19 ct19 oc20 kV20 dc20 pm20 ct20 oc21 kV21 dc21 pm21 ct21 oc22 kV22 dc22 pm22 ct22 oc23 kV23 dc23 pm23 ct23 oc24 kV24 dc24 pm24 ct24 oc25 kV25 dc25 pm25 ct25 oc26 kV26 dc26 pm26 ct26 oc27 kV27 dc27 pm27 ct27 oc28 kV28 dc28 pm28 ct28 oc29 kV29 dc29 pm29 ct29 oc30 kV30 dc30 pm30 ct30 oc31 kV31 dc31 pm31 ct31 oc32 kV32 dc32 pm32 ct32 cd2 cd3 cd4 cd5 cd6 cd7 cd8 cd9 cd10 cd11 cd12 cd13 cd14 cd15 cd16 cd17 cd18 cd19 cd20 cd21 cd22 cd23 cd24 cd25 cd26 cd27 cd28 cd29 cd30 cd31 cd32:Value} {tk0 tk1 tk2 tk3 tk4 tk5:Tok}
  (a1:PySem.W.nsIn K mainGlobals "deal"=some (some (.ref f1))) (l1:K.lookup f1=some ⟨oc1,od1,.func (PySem.W.fnOf "deal" "deal" (defArgs sDeal) (defBody sDeal) (defScope sDeal) .none kV1 dc1 pm1 an1 (.ref c0) ct1),sl1⟩) (c1:PySem.W.codeIn K (.ref c0) "deal"=true) (k1:PySem.W.keepIn K (.ref f1)=true)
  (a2:PySem.W.nsIn K mainGlobals "weighted"=some (some (.ref f2))) (l2:K.lookup f2=some ⟨oc2,od2,.func (PySem.W.fnOf "weighted" "weighted" (defArgs sWeighted) (defBody sWeighted) (defScope sWeighted) .none kV2 dc2 pm2 an2 cd2 ct2),sl2⟩) (c2:PySem.W.codeIn K cd2 "weighted"=true) (k2:PySem.W.keepIn K (.ref f2)=true)
  (a3:PySem.W.nsIn K mainGlobals "total_of"=some (some (.ref f3))) (l3:K.lookup f3=some ⟨oc3,od3,.func (PySem.W.fnOf "total_of" "total_of" (defArgs sTotal) (defBody sTotal) (defScope sTotal) .none kV3 dc3 pm3 an3 cd3 ct3),sl3⟩) (c3:PySem.W.codeIn K cd3 "total_of"=true) (k3:PySem.W.keepIn K (.ref f3)=true)
  (a4:PySem.W.nsIn K mainGlobals "fills"=some (some (.ref f4))) (l4:K.lookup f4=some ⟨oc4,od4,.func (PySem.W.fnOf "fills" "fills" (defArgs sFills) (defBody sFills) (defScope sFills) .none kV4 dc4 pm4 an4 cd4 ct4),sl4⟩) (c4:PySem.W.codeIn K cd4 "fills"=true) (k4:PySem.W.keepIn K (.ref f4)=true)
  (a5:PySem.W.nsIn K mainGlobals "rest_of"=some (some (.ref f5))) (l5:K.lookup f5=some ⟨oc5,od5,.func (PySem.W.fnOf "rest_of" "rest_of" (defArgs sRest) (defBody sRest) (defScope sRest) .none kV5 dc5 pm5 an5 cd5 ct5),sl5⟩) (c5:PySem.W.codeIn K cd5 "rest_of"=true) (k5:PySem.W.keepIn K (.ref f5)=true)
  (a6:PySem.W.nsIn K mainGlobals "common_of"=some (some (.ref f6))) (l6:K.lookup f6=some ⟨oc6,od6,.func (PySem.W.fnOf "common_of" "common_of" (defArgs sCommon) (defBody sCommon) (defScope sCommon) .none kV6 dc6 pm6 an6 cd6 ct6),sl6⟩) (c6:PySem.W.codeIn K cd6 "common_of"=true) (k6:PySem.W.keepIn K (.ref f6)=true)
  (a7:PySem.W.nsIn K mainGlobals "level_of"=some (some (.ref f7))) (l7:K.lookup f7=some ⟨oc7,od7,.func (PySem.W.fnOf "level_of" "level_of" (defArgs sLevelOf) (defBody sLevelOf) (defScope sLevelOf) .none kV7 dc7 pm7 an7 cd7 ct7),sl7⟩) (c7:PySem.W.codeIn K cd7 "level_of"=true) (k7:PySem.W.keepIn K (.ref f7)=true)
  (a8:PySem.W.nsIn K mainGlobals "pour"=some (some (.ref f8))) (l8:K.lookup f8=some ⟨oc8,od8,.func (PySem.W.fnOf "pour" "pour" (defArgs sPour) (defBody sPour) (defScope sPour) .none kV8 dc8 pm8 an8 cd8 ct8),sl8⟩) (c8:PySem.W.codeIn K cd8 "pour"=true) (k8:PySem.W.keepIn K (.ref f8)=true)
  (a9:PySem.W.nsIn K mainGlobals "column_of"=some (some (.ref f9))) (l9:K.lookup f9=some ⟨oc9,od9,.func (PySem.W.fnOf "column_of" "column_of" (defArgs sColumn) (defBody sColumn) (defScope sColumn) .none kV9 dc9 pm9 an9 cd9 ct9),sl9⟩) (c9:PySem.W.codeIn K cd9 "column_of"=true) (k9:PySem.W.keepIn K (.ref f9)=true)
  (a10:PySem.W.nsIn K mainGlobals "plan_growing"=some (some (.ref f10))) (l10:K.lookup f10=some ⟨oc10,od10,.func (PySem.W.fnOf "plan_growing" "plan_growing" (defArgs sGrowing) (defBody sGrowing) (defScope sGrowing) .none kV10 dc10 pm10 an10 cd10 ct10),sl10⟩) (c10:PySem.W.codeIn K cd10 "plan_growing"=true) (k10:PySem.W.keepIn K (.ref f10)=true)
  (a11:PySem.W.nsIn K mainGlobals "plan_shrinking"=some (some (.ref f11))) (l11:K.lookup f11=some ⟨oc11,od11,.func (PySem.W.fnOf "plan_shrinking" "plan_shrinking" (defArgs sShrinking) (defBody sShrinking) (defScope sShrinking) .none kV11 dc11 pm11 an11 cd11 ct11),sl11⟩) (c11:PySem.W.codeIn K cd11 "plan_shrinking"=true) (k11:PySem.W.keepIn K (.ref f11)=true)
  (a12:PySem.W.nsIn K mainGlobals "plan_yielding"=some (some (.ref f12))) (l12:K.lookup f12=some ⟨oc12,od12,.func (PySem.W.fnOf "plan_yielding" "plan_yielding" (defArgs sYielding) (defBody sYielding) (defScope sYielding) .none kV12 dc12 pm12 an12 cd12 ct12),sl12⟩) (c12:PySem.W.codeIn K cd12 "plan_yielding"=true) (k12:PySem.W.keepIn K (.ref f12)=true)
  (a13:PySem.W.nsIn K mainGlobals "plan_of"=some (some (.ref f13))) (l13:K.lookup f13=some ⟨oc13,od13,.func (PySem.W.fnOf "plan_of" "plan_of" (defArgs sPlanOf) (defBody sPlanOf) (defScope sPlanOf) .none kV13 dc13 pm13 an13 cd13 ct13),sl13⟩) (c13:PySem.W.codeIn K cd13 "plan_of"=true) (k13:PySem.W.keepIn K (.ref f13)=true)
  (a14:PySem.W.nsIn K mainGlobals "share"=some (some (.ref f14))) (l14:K.lookup f14=some ⟨oc14,od14,.func (PySem.W.fnOf "share" "share" (defArgs sShare) (defBody sShare) (defScope sShare) .none kV14 dc14 pm14 an14 cd14 ct14),sl14⟩) (c14:PySem.W.codeIn K cd14 "share"=true) (k14:PySem.W.keepIn K (.ref f14)=true)
  (a15:PySem.W.nsIn K mainGlobals "_law_at"=some (some (.ref f15))) (l15:K.lookup f15=some ⟨oc15,od15,.func (PySem.W.fnOf "_law_at" "_law_at" (defArgs sAt) (defBody sAt) (defScope sAt) .none kV15 dc15 pm15 an15 cd15 ct15),sl15⟩) (c15:PySem.W.codeIn K cd15 "_law_at"=true) (k15:PySem.W.keepIn K (.ref f15)=true)
  (a16:PySem.W.nsIn K mainGlobals "_law_mixed"=some (some (.ref f16))) (l16:K.lookup f16=some ⟨oc16,od16,.func (PySem.W.fnOf "_law_mixed" "_law_mixed" (defArgs sMixed) (defBody sMixed) (defScope sMixed) .none kV16 dc16 pm16 an16 cd16 ct16),sl16⟩) (c16:PySem.W.codeIn K cd16 "_law_mixed"=true) (k16:PySem.W.keepIn K (.ref f16)=true)
  (a17:PySem.W.nsIn K mainGlobals "_law_draws"=some (some (.ref f17))) (l17:K.lookup f17=some ⟨oc17,od17,.func (PySem.W.fnOf "_law_draws" "_law_draws" (defArgs sDraws) (defBody sDraws) (defScope sDraws) .none kV17 dc17 pm17 an17 cd17 ct17),sl17⟩) (c17:PySem.W.codeIn K cd17 "_law_draws"=true) (k17:PySem.W.keepIn K (.ref f17)=true)
  (a18:PySem.W.nsIn K mainGlobals "_law_names"=some (some (.ref f18))) (l18:K.lookup f18=some ⟨oc18,od18,.func (PySem.W.fnOf "_law_names" "_law_names" (defArgs sLNames) (defBody sLNames) (defScope sLNames) .none kV18 dc18 pm18 an18 cd18 ct18),sl18⟩) (c18:PySem.W.codeIn K cd18 "_law_names"=true) (k18:PySem.W.keepIn K (.ref f18)=true)
  (a19:PySem.W.nsIn K mainGlobals "_law_item"=some (some (.ref f19))) (l19:K.lookup f19=some ⟨oc19,od19,.func (PySem.W.fnOf "_law_item" "_law_item" (defArgs sLItem) (defBody sLItem) (defScope sLItem) .none kV19 dc19 pm19 an19 cd19 ct19),sl19⟩) (c19:PySem.W.codeIn K cd19 "_law_item"=true) (k19:PySem.W.keepIn K (.ref f19)=true)
  (a20:PySem.W.nsIn K mainGlobals "_law_items"=some (some (.ref f20))) (l20:K.lookup f20=some ⟨oc20,od20,.func (PySem.W.fnOf "_law_items" "_law_items" (defArgs sLItems) (defBody sLItems) (defScope sLItems) .none kV20 dc20 pm20 an20 cd20 ct20),sl20⟩) (c20:PySem.W.codeIn K cd20 "_law_items"=true) (k20:PySem.W.keepIn K (.ref f20)=true)
  (a21:PySem.W.nsIn K mainGlobals "_law_room"=some (some (.ref f21))) (l21:K.lookup f21=some ⟨oc21,od21,.func (PySem.W.fnOf "_law_room" "_law_room" (defArgs sLRoom) (defBody sLRoom) (defScope sLRoom) .none kV21 dc21 pm21 an21 cd21 ct21),sl21⟩) (c21:PySem.W.codeIn K cd21 "_law_room"=true) (k21:PySem.W.keepIn K (.ref f21)=true)
  (a22:PySem.W.nsIn K mainGlobals "_law_grown"=some (some (.ref f22))) (l22:K.lookup f22=some ⟨oc22,od22,.func (PySem.W.fnOf "_law_grown" "_law_grown" (defArgs sLGrown) (defBody sLGrown) (defScope sLGrown) .none kV22 dc22 pm22 an22 cd22 ct22),sl22⟩) (c22:PySem.W.codeIn K cd22 "_law_grown"=true) (k22:PySem.W.keepIn K (.ref f22)=true)
  (a23:PySem.W.nsIn K mainGlobals "_law_shrunk"=some (some (.ref f23))) (l23:K.lookup f23=some ⟨oc23,od23,.func (PySem.W.fnOf "_law_shrunk" "_law_shrunk" (defArgs sLShrunk) (defBody sLShrunk) (defScope sLShrunk) .none kV23 dc23 pm23 an23 cd23 ct23),sl23⟩) (c23:PySem.W.codeIn K cd23 "_law_shrunk"=true) (k23:PySem.W.keepIn K (.ref f23)=true)
  (a24:PySem.W.nsIn K mainGlobals "_law_given"=some (some (.ref f24))) (l24:K.lookup f24=some ⟨oc24,od24,.func (PySem.W.fnOf "_law_given" "_law_given" (defArgs sLGiven) (defBody sLGiven) (defScope sLGiven) .none kV24 dc24 pm24 an24 cd24 ct24),sl24⟩) (c24:PySem.W.codeIn K cd24 "_law_given"=true) (k24:PySem.W.keepIn K (.ref f24)=true)
  (a25:PySem.W.nsIn K mainGlobals "_law_right"=some (some (.ref f25))) (l25:K.lookup f25=some ⟨oc25,od25,.func (PySem.W.fnOf "_law_right" "_law_right" (defArgs sLRight) (defBody sLRight) (defScope sLRight) .none kV25 dc25 pm25 an25 cd25 ct25),sl25⟩) (c25:PySem.W.codeIn K cd25 "_law_right"=true) (k25:PySem.W.keepIn K (.ref f25)=true)
  (a26:PySem.W.nsIn K mainGlobals "_law_less"=some (some (.ref f26))) (l26:K.lookup f26=some ⟨oc26,od26,.func (PySem.W.fnOf "_law_less" "_law_less" (defArgs sLLess) (defBody sLLess) (defScope sLLess) .none kV26 dc26 pm26 an26 cd26 ct26),sl26⟩) (c26:PySem.W.codeIn K cd26 "_law_less"=true) (k26:PySem.W.keepIn K (.ref f26)=true)
  (a27:PySem.W.nsIn K mainGlobals "_law_column"=some (some (.ref f27))) (l27:K.lookup f27=some ⟨oc27,od27,.func (PySem.W.fnOf "_law_column" "_law_column" (defArgs sLColumn) (defBody sLColumn) (defScope sLColumn) .none kV27 dc27 pm27 an27 cd27 ct27),sl27⟩) (c27:PySem.W.codeIn K cd27 "_law_column"=true) (k27:PySem.W.keepIn K (.ref f27)=true)
  (a28:PySem.W.nsIn K mainGlobals "_law_ones"=some (some (.ref f28))) (l28:K.lookup f28=some ⟨oc28,od28,.func (PySem.W.fnOf "_law_ones" "_law_ones" (defArgs sLOnes) (defBody sLOnes) (defScope sLOnes) .none kV28 dc28 pm28 an28 cd28 ct28),sl28⟩) (c28:PySem.W.codeIn K cd28 "_law_ones"=true) (k28:PySem.W.keepIn K (.ref f28)=true)
  (a29:PySem.W.nsIn K mainGlobals "_law_by_ranks"=some (some (.ref f29))) (l29:K.lookup f29=some ⟨oc29,od29,.func (PySem.W.fnOf "_law_by_ranks" "_law_by_ranks" (defArgs sLRanks) (defBody sLRanks) (defScope sLRanks) .none kV29 dc29 pm29 an29 cd29 ct29),sl29⟩) (c29:PySem.W.codeIn K cd29 "_law_by_ranks"=true) (k29:PySem.W.keepIn K (.ref f29)=true)
  (a30:PySem.W.nsIn K mainGlobals "_law_due"=some (some (.ref f30))) (l30:K.lookup f30=some ⟨oc30,od30,.func (PySem.W.fnOf "_law_due" "_law_due" (defArgs sLDue) (defBody sLDue) (defScope sLDue) .none kV30 dc30 pm30 an30 cd30 ct30),sl30⟩) (c30:PySem.W.codeIn K cd30 "_law_due"=true) (k30:PySem.W.keepIn K (.ref f30)=true)
  (a31:PySem.W.nsIn K mainGlobals "law"=some (some (.ref f31))) (l31:K.lookup f31=some ⟨oc31,od31,.func (PySem.W.fnOf "law" "law" (defArgs sLaw) (defBody sLaw) (defScope sLaw) .none kV31 dc31 pm31 an31 cd31 ct31),sl31⟩) (c31:PySem.W.codeIn K cd31 "law"=true) (k31:PySem.W.keepIn K (.ref f31)=true)
  (aC:PySem.W.nsIn K mainGlobals "Plan"=some (some (.ref CP))) (a32:PySem.W.findIn K (.ref CP) "__init__"=some (some (.ref f32))) (i32:PySem.W.isFn K (.ref f32)=true) (l32:K.lookup f32=some ⟨oc32,od32,.func (PySem.W.fnOf "__init__" "Plan.__init__" (defArgs sPlanInit) (defBody sPlanInit) (defScope sPlanInit) .none kV32 dc32 pm32 an32 cd32 ct32),sl32⟩) (c32:PySem.W.codeIn K cd32 "Plan.__init__"=true) (k32:PySem.W.keepIn K (.ref f32)=true)
  (p1:PySem.W.plainGet K CP Str.empty=true) (p2:PySem.W.hasDictIn K CP=true) (p3:PySem.W.plainOver K CP=true) (p4:PySem.W.findIn K (.ref CP) "__setattr__"=some (some (.builtin "object.__setattr__"))) (p5:PySem.W.makesIn K CP=true) (p6:PySem.W.keepIn K (.ref CP)=true) (n0:PySem.W.findIn K (.ref CP) "bases"=some none) (n1:PySem.W.findIn K (.ref CP) "sign"=some none) (n2:PySem.W.findIn K (.ref CP) "pourings"=some none)
  (kq0:PySem.W.nsIn K mainGlobals "LEAST"=some (some (.int 0 tk0)))
  (kq1:PySem.W.nsIn K mainGlobals "WISH"=some (some (.int 1 tk1)))
  (kq2:PySem.W.nsIn K mainGlobals "MOST"=some (some (.int 2 tk2)))
  (kq3:PySem.W.nsIn K mainGlobals "GROW"=some (some (.int 3 tk3)))
  (kq4:PySem.W.nsIn K mainGlobals "SHRINK"=some (some (.int 4 tk4)))
  (kq5:PySem.W.nsIn K mainGlobals "RANK"=some (some (.int 5 tk5)))
  (z0:PySem.W.nsIn K mainGlobals "sum"=some none) (z1:PySem.W.nsIn K mainGlobals "list"=some none) (z2:PySem.W.nsIn K mainGlobals "sorted"=some none) (z3:PySem.W.nsIn K mainGlobals "dict"=some none) (z4:PySem.W.nsIn K mainGlobals "len"=some none) (z5:PySem.W.nsIn K mainGlobals "range"=some none) (z6:PySem.W.nsIn K mainGlobals "zip"=some none) (z7:PySem.W.nsIn K mainGlobals "isinstance"=some none) (z8:PySem.W.nsIn K mainGlobals "all"=some none) (z9:PySem.W.nsIn K mainGlobals "int"=some none) (z10:PySem.W.nsIn K mainGlobals "bool"=some none) (z11:PySem.W.nsIn K mainGlobals "max"=some none) (z12:PySem.W.nsIn K mainGlobals "min"=some none) (z13:PySem.W.nsIn K mainGlobals "reversed"=some none) (z14:PySem.W.nsIn K mainGlobals "any"=some none) (z15:PySem.W.nsIn K mainGlobals "tuple"=some none) (z16:PySem.W.nsIn K mainGlobals "set"=some none)
  (x1:PySem.W.codeHdIn K c0 16=true) (x2:K.lookup 16=none) :
  ∃ (fd:FuncData) (c0:Addr),(∀ (s:Shared) (v:Value),BindsTo s fd ⟨[v],[]⟩ [("_law_script",v)])∧K.lookup 16=none∧PySem.W.codeHdIn K c0 16=true∧∀ base:Heap,K.In base→base.Ns mainGlobals mg→base.BuiltinsAt mg 16→FnOk l.prog w K mg base CX0 7 fa fd ["_law_script"] (spLaw K 16):=by
 have e:=hfa.symm.trans (PySem.W.mg_of X G a31)
 cases e
 have N:Names mg:=⟨PySem.W.mg_none_of X G z0,PySem.W.mg_none_of X G z1,PySem.W.mg_none_of X G z2,PySem.W.mg_none_of X G z3,PySem.W.mg_none_of X G z4,PySem.W.mg_none_of X G z5,PySem.W.mg_none_of X G z6,PySem.W.mg_none_of X G z7,PySem.W.mg_none_of X G z8,PySem.W.mg_none_of X G z9,PySem.W.mg_none_of X G z10,PySem.W.mg_none_of X G z11,PySem.W.mg_none_of X G z12,PySem.W.mg_none_of X G z13,PySem.W.mg_none_of X G z14,PySem.W.mg_none_of X G z15,PySem.W.mg_none_of X G z16⟩
 have CC:Cst mg (fun i=>.int (i:Nat) ([tk0,tk1,tk2,tk3,tk4,tk5].getD i tk0)):=⟨fun i=>⟨_,rfl⟩,PySem.W.mg_of X G kq0,PySem.W.mg_of X G kq1,PySem.W.mg_of X G kq2,PySem.W.mg_of X G kq3,PySem.W.mg_of X G kq4,PySem.W.mg_of X G kq5⟩
 have F1:=fun_mk (st:=sDeal) l1 c1 k1
 have b1:=F1.binds (ps:=["room","weights"]) fun _ _ _ _ _ _ us hl=>by obtain ⟨u0,u1,rfl⟩:=us2 hl; rfl
 have m1:=PySem.W.mg_of X G a1
 have F2:=fun_mk (st:=sWeighted) l2 c2 k2
 have b2:=F2.binds (ps:=["weights"]) fun _ _ _ _ _ _ us hl=>by obtain ⟨u0,rfl⟩:=us1 hl; rfl
 have m2:=PySem.W.mg_of X G a2
 have F3:=fun_mk (st:=sTotal) l3 c3 k3
 have b3:=F3.binds (ps:=["numbers","names"]) fun _ _ _ _ _ _ us hl=>by obtain ⟨u0,u1,rfl⟩:=us2 hl; rfl
 have m3:=PySem.W.mg_of X G a3
 have F4:=fun_mk (st:=sFills) l4 c4 k4
 have b4:=F4.binds (ps:=["level","weight","cap"]) fun _ _ _ _ _ _ us hl=>by obtain ⟨u0,u1,u2,rfl⟩:=us3 hl; rfl
 have m4:=PySem.W.mg_of X G a4
 have F5:=fun_mk (st:=sRest) l5 c5 k5
 have b5:=F5.binds (ps:=["number","by"]) fun _ _ _ _ _ _ us hl=>by obtain ⟨u0,u1,rfl⟩:=us2 hl; rfl
 have m5:=PySem.W.mg_of X G a5
 have F6:=fun_mk (st:=sCommon) l6 c6 k6
 have b6:=F6.binds (ps:=["one","other"]) fun _ _ _ _ _ _ us hl=>by obtain ⟨u0,u1,rfl⟩:=us2 hl; rfl
 have m6:=PySem.W.mg_of X G a6
 have F7:=fun_mk (st:=sLevelOf) l7 c7 k7
 have b7:=F7.binds (ps:=["room","weights","caps"]) fun _ _ _ _ _ _ us hl=>by obtain ⟨u0,u1,u2,rfl⟩:=us3 hl; rfl
 have m7:=PySem.W.mg_of X G a7
 have F8:=fun_mk (st:=sPour) l8 c8 k8
 have b8:=F8.binds (ps:=["room","weights","caps"]) fun _ _ _ _ _ _ us hl=>by obtain ⟨u0,u1,u2,rfl⟩:=us3 hl; rfl
 have m8:=PySem.W.mg_of X G a8
 have F9:=fun_mk (st:=sColumn) l9 c9 k9
 have b9:=F9.binds (ps:=["items","place"]) fun _ _ _ _ _ _ us hl=>by obtain ⟨u0,u1,rfl⟩:=us2 hl; rfl
 have m9:=PySem.W.mg_of X G a9
 have F10:=fun_mk (st:=sGrowing) l10 c10 k10
 have b10:=F10.binds (ps:=["room","items"]) fun _ _ _ _ _ _ us hl=>by obtain ⟨u0,u1,rfl⟩:=us2 hl; rfl
 have m10:=PySem.W.mg_of X G a10
 have F11:=fun_mk (st:=sShrinking) l11 c11 k11
 have b11:=F11.binds (ps:=["room","items"]) fun _ _ _ _ _ _ us hl=>by obtain ⟨u0,u1,rfl⟩:=us2 hl; rfl
 have m11:=PySem.W.mg_of X G a11
 have F12:=fun_mk (st:=sYielding) l12 c12 k12
 have b12:=F12.binds (ps:=["room","items"]) fun _ _ _ _ _ _ us hl=>by obtain ⟨u0,u1,rfl⟩:=us2 hl; rfl
 have m12:=PySem.W.mg_of X G a12
 have F13:=fun_mk (st:=sPlanOf) l13 c13 k13
 have b13:=F13.binds (ps:=["room","items"]) fun _ _ _ _ _ _ us hl=>by obtain ⟨u0,u1,rfl⟩:=us2 hl; rfl
 have m13:=PySem.W.mg_of X G a13
 have F14:=fun_mk (st:=sShare) l14 c14 k14
 have b14:=F14.binds (ps:=["room","items"]) fun _ _ _ _ _ _ us hl=>by obtain ⟨u0,u1,rfl⟩:=us2 hl; rfl
 have m14:=PySem.W.mg_of X G a14
 have F15:=fun_mk (st:=sAt) l15 c15 k15
 have b15:=F15.binds (ps:=["_law_script","_law_k"]) fun _ _ _ _ _ _ us hl=>by obtain ⟨u0,u1,rfl⟩:=us2 hl; rfl
 have m15:=PySem.W.mg_of X G a15
 have F16:=fun_mk (st:=sMixed) l16 c16 k16
 have b16:=F16.binds (ps:=["_law_cell"]) fun _ _ _ _ _ _ us hl=>by obtain ⟨u0,rfl⟩:=us1 hl; rfl
 have m16:=PySem.W.mg_of X G a16
 have F17:=fun_mk (st:=sDraws) l17 c17 k17
 have b17:=F17.binds (ps:=["_law_script","_law_first","_law_many","_law_base"]) fun _ _ _ _ _ _ us hl=>by obtain ⟨u0,u1,u2,u3,rfl⟩:=us4 hl; rfl
 have m17:=PySem.W.mg_of X G a17
 have F18:=fun_mk (st:=sLNames) l18 c18 k18
 have b18:=F18.binds (ps:=["_law_many","_law_cell"]) fun _ _ _ _ _ _ us hl=>by obtain ⟨u0,u1,rfl⟩:=us2 hl; rfl
 have m18:=PySem.W.mg_of X G a18
 have F19:=fun_mk (st:=sLItem) l19 c19 k19
 have b19:=F19.binds (ps:=["_law_n"]) fun _ _ _ _ _ _ us hl=>by obtain ⟨u0,rfl⟩:=us1 hl; rfl
 have m19:=PySem.W.mg_of X G a19
 have F20:=fun_mk (st:=sLItems) l20 c20 k20
 have b20:=F20.binds (ps:=["_law_script","_law_names_here"]) fun _ _ _ _ _ _ us hl=>by obtain ⟨u0,u1,rfl⟩:=us2 hl; rfl
 have m20:=PySem.W.mg_of X G a20
 have F21:=fun_mk (st:=sLRoom) l21 c21 k21
 have b21:=F21.binds (ps:=["_law_items_here","_law_cell"]) fun _ _ _ _ _ _ us hl=>by obtain ⟨u0,u1,rfl⟩:=us2 hl; rfl
 have m21:=PySem.W.mg_of X G a21
 have F22:=fun_mk (st:=sLGrown) l22 c22 k22
 have b22:=F22.binds (ps:=["_law_items_here","_law_sizes","_law_over"]) fun _ _ _ _ _ _ us hl=>by obtain ⟨u0,u1,u2,rfl⟩:=us3 hl; rfl
 have m22:=PySem.W.mg_of X G a22
 have F23:=fun_mk (st:=sLShrunk) l23 c23 k23
 have b23:=F23.binds (ps:=["_law_items_here","_law_sizes"]) fun _ _ _ _ _ _ us hl=>by obtain ⟨u0,u1,rfl⟩:=us2 hl; rfl
 have m23:=PySem.W.mg_of X G a23
 have F24:=fun_mk (st:=sLGiven) l24 c24 k24
 have b24:=F24.binds (ps:=["_law_items_here","_law_sizes"]) fun _ _ _ _ _ _ us hl=>by obtain ⟨u0,u1,rfl⟩:=us2 hl; rfl
 have m24:=PySem.W.mg_of X G a24
 have F25:=fun_mk (st:=sLRight) l25 c25 k25
 have b25:=F25.binds (ps:=["_law_room_here","_law_items_here","_law_sizes","_law_over","_law_levels"]) fun _ _ _ _ _ _ us hl=>by obtain ⟨u0,u1,u2,u3,u4,rfl⟩:=us5 hl; rfl
 have m25:=PySem.W.mg_of X G a25
 have F26:=fun_mk (st:=sLLess) l26 c26 k26
 have b26:=F26.binds (ps:=["_law_some","_law_others"]) fun _ _ _ _ _ _ us hl=>by obtain ⟨u0,u1,rfl⟩:=us2 hl; rfl
 have m26:=PySem.W.mg_of X G a26
 have F27:=fun_mk (st:=sLColumn) l27 c27 k27
 have b27:=F27.binds (ps:=["_law_items_here","_law_at_here"]) fun _ _ _ _ _ _ us hl=>by obtain ⟨u0,u1,rfl⟩:=us2 hl; rfl
 have m27:=PySem.W.mg_of X G a27
 have F28:=fun_mk (st:=sLOnes) l28 c28 k28
 have b28:=F28.binds (ps:=["_law_names_here"]) fun _ _ _ _ _ _ us hl=>by obtain ⟨u0,rfl⟩:=us1 hl; rfl
 have m28:=PySem.W.mg_of X G a28
 have F29:=fun_mk (st:=sLRanks) l29 c29 k29
 have b29:=F29.binds (ps:=["_law_room_here","_law_items_here"]) fun _ _ _ _ _ _ us hl=>by obtain ⟨u0,u1,rfl⟩:=us2 hl; rfl
 have m29:=PySem.W.mg_of X G a29
 have F30:=fun_mk (st:=sLDue) l30 c30 k30
 have b30:=F30.binds (ps:=["_law_room_here","_law_items_here"]) fun _ _ _ _ _ _ us hl=>by obtain ⟨u0,u1,rfl⟩:=us2 hl; rfl
 have m30:=PySem.W.mg_of X G a30
 have F31:=fun_mk (st:=sLaw) l31 c31 k31
 have FI:=fun_mk (st:=sPlanInit) l32 c32 k32
 have bI:=FI.binds (ps:=["self","bases","sign","pourings"]) fun _ _ _ _ _ _ us hl=>by obtain ⟨u0,u1,u2,u3,rfl⟩:=us4 hl; rfl
 have mC:=PySem.W.mg_of X G aC
 have MC:Mk K CP f32:=⟨p5,a32,i32,p6⟩
 have TC:PlanC K CP:=⟨⟨p1,p2,p3,p4⟩,n0,n1,n2⟩
 refine ⟨PySem.W.fnOf "law" "law" (defArgs sLaw) (defBody sLaw) (defScope sLaw) .none kV31 dc31 pm31 an31 cd31 ct31,c0,fun s v=>.of_eq rfl,x2,x1,fun base _ _ hB=>?_⟩
 have GA:=ok_at (P:=l.prog) (w:=w) (base:=base) F15 N
 have GW:=ok_weighted (P:=l.prog) (w:=w) (mg:=mg) (base:=base) F2
 have GT:=ok_total (P:=l.prog) (w:=w) (mg:=mg) (base:=base) F3 N
 have GTD:=ok_totalD (P:=l.prog) (w:=w) (mg:=mg) (base:=base) F3 N
 have GF:=ok_fills (P:=l.prog) (w:=w) (mg:=mg) (base:=base) F4
 have GC:=ok_common F6 (ok_rest (P:=l.prog) (w:=w) (mg:=mg) (base:=base) F5 N) b5 m5 k5
 have GL:=ok_levelOf F7 N GW b2 m2 k2 GT b3 m3 k3 GF b4 m4 k4 GC b6 m6 k6
 have GP:=ok_pour F8 N GW b2 m2 k2 GT b3 m3 k3 GF b4 m4 k4 GL b7 m7 k7 (ok_deal F1 N rfl x1 hB) b1 m1 k1
 have GD:=ok_draws F17 N GA b15 m15 k15 (ok_mixed F16) b16 m16 k16
 have GI:=ok_planInit (P:=l.prog) (w:=w) (mg:=mg) (base:=base) TC FI N
 have GK:=ok_column (P:=l.prog) (w:=w) (mg:=mg) (base:=base) F9 N
 have G1:=ok_growing CC F10 N GK b9 m9 k9 GI bI mC MC
 have G2:=ok_shrinking CC F11 N GK b9 m9 k9 GI bI mC MC GTD b3 m3 k3
 have G3:=ok_yielding CC F12 N GK b9 m9 k9 GI bI mC MC GTD b3 m3 k3
 have GN:=ok_planOf CC F13 N G1 b10 m10 k10 G2 b11 m11 k11 G3 b12 m12 k12
 have GS:=ok_share TC F14 N GN b13 m13 k13 GP b8 m8 k8
 have LC:=ok_lColumn (P:=l.prog) (w:=w) (mg:=mg) (base:=base) F27 N
 have LE:=ok_lLess (P:=l.prog) (w:=w) (mg:=mg) (base:=base) F26 N
 have LO:=ok_lOnes (P:=l.prog) (w:=w) (mg:=mg) (base:=base) F28 N
 have LR:=ok_lRight F25 N (ok_lGrown (P:=l.prog) (w:=w) (mg:=mg) (base:=base) F22 N) b22 m22 k22 (ok_lShrunk F23 N) b23 m23 k23 (ok_lGiven F24 N) b24 m24 k24
 have LK:=ok_lRanks F29 N LC b27 m27 k27 GP b8 m8 k8 LO b28 m28 k28 LE b26 m26 k26
 have LD:=ok_lDue F30 N LC b27 m27 k27 LE b26 m26 k26 GP b8 m8 k8 LK b29 m29 k29 LO b28 m28 k28
 exact ok_law F31 N GA b15 m15 k15 (ok_lnames F18 N) b18 m18 k18 (ok_lItems F20 N GD b17 m17 k17 (ok_litem F19) b19 m19 k19) b20 m20 k20 (ok_lRoom F21 N) b21 m21 k21 GS b14 m14 k14 LR b25 m25 k25 LD b30 m30 k30
theorem walk {l:PySem.W.OpenLaw} {q:Program} {loose:List Str} {XP:(Str→Option Value)→Heap→Prop} {YP:World→Heap→Prop} {d:DefRec} {K:Params→PySem.W.Frag} (hn:l.most=some 63) (hdf:d.params.defaults=[])
  (hY:∀ (w:World) (h:Heap),YP w h→(K w.params).In h∧h.get? 16=some (PySem.W.tabObj #[]))
  (F:∀ (w:World) (mg:Str→Option Value) (fa:Addr) (h:Heap),(K w.params).In h→h.Ns mainGlobals mg→mg d.name=some (.ref fa) →
   ∃ (fd:FuncData) (c0:Addr),(∀ (s:Shared) (u:Value),BindsTo s fd ⟨[u],[]⟩ [("_law_script",u)])∧(K w.params).lookup 16=none∧PySem.W.codeHdIn (K w.params) c0 16=true∧∀ base:Heap,(K w.params).In base→base.Ns mainGlobals mg→base.BuiltinsAt mg 16→FnOk l.prog w (K w.params) mg base CX0 7 fa fd ["_law_script"] (spLaw (K w.params) 16)) :
  PySem.W.WalkO q loose XP YP l.row.toRowW d [] (fun f vs=>PySem.call f vs) :=
 L2.walk_ofT (n:=63) (k:=7) (P:=16) (x:="_law_script") (CX:=fun _=>CX0) (sp:=fun w=>spLaw (K w.params) 16) hn (by decide) hdf ⟨rfl,by decide,by decide⟩ hY F (fun _ _ a ns hl hO hS=>⟨a,ns,#[],rfl,hS,hl,hO.1,⟨trivial,.inl rfl⟩,fun _=>rfl⟩) fun _ _ _ _ _ z=>z
end B04
namespace PySem.W.Fast
theorem tw11613183791349837733:True:=trivial
theorem tw11299062374915041376:True:=trivial
theorem tw2771357981575456369:True:=trivial
theorem tw6739139629530260643:True:=trivial
theorem tw11022875215548576034:True:=trivial
theorem tw13378171981633318038:True:=trivial
theorem tw9247222969448539629:True:=trivial
theorem tw5672359166930882404:True:=trivial
theorem tw4454271085473887035:True:=trivial
theorem tw7328817466869924708:True:=trivial
theorem tw7589500708284738354:True:=trivial
theorem tw17998168590723502987:True:=trivial
theorem tw2227550061393388095:True:=trivial
theorem tw18440273164968099625:True:=trivial
theorem tw3943310011264490557:True:=trivial
theorem tw8100506323237791280:True:=trivial
theorem tw16382587899391312215:True:=trivial
theorem tw15060691619769379545:True:=trivial
theorem tw13408519359666236056:True:=trivial
theorem tw1107549431554841815:True:=trivial
theorem tw11344469937510204216:True:=trivial
theorem tw2337163086292721635:True:=trivial
theorem tw3199259155083197068:True:=trivial
theorem tw15459903878093787989:True:=trivial
theorem tw11419913498642843885:True:=trivial
theorem tw1907786340506787640:True:=trivial
theorem tw1143135286362907771:True:=trivial
theorem tw3479268353591276769:True:=trivial
theorem tw15912464984427624973:True:=trivial
theorem tw7939209120564150206:True:=trivial
theorem tw17588153135922248825:True:=trivial
theorem tw3727775942308294184:True:=trivial
theorem tw13349136780474311776:True:=trivial
theorem tw18443340888173424189:True:=trivial
theorem tw13456995964949554986:True:=trivial
theorem tw576386320550256995:True:=trivial
theorem tw15050990786539070020:True:=trivial
theorem tw5406369737414798539:True:=trivial
theorem tw15897556936473883768:True:=trivial
theorem tw8093065550067530209:True:=trivial
theorem tw4594062703835536110:True:=trivial
theorem tw16125682912936431334:True:=trivial
theorem tw846134089454502185:True:=trivial
theorem tw5385449756449702204:True:=trivial
theorem tw17372556727218977859:True:=trivial
theorem tw17057378120420387826:True:=trivial
theorem tw452785552484024846:True:=trivial
theorem tw519431272114950477:True:=trivial
theorem tw1675250489605360449:True:=trivial
theorem tw2493316322699693955:True:=trivial
theorem tw17403698871309443979:True:=trivial
theorem tw17981106967827316278:True:=trivial
end PySem.W.Fast
open PySem PySem.W PyProof.Rows
set_option maxRecDepth 100000 in
set_option maxHeartbeats 0 in
theorem PySem.Challenge.cw_boxgalley_k04_shared_among_items_holds : PySem.Challenge.rw_boxgalley_k04_shared_among_items.Holds := by
 w_on; o_law; k_head; (case hw=>w_witness2)
 k_fill
 refine B04.walk (l:=PySem.Challenge.rw_boxgalley_k04_shared_among_items) rfl rfl (fun w h Y=>⟨PySem.W.km_in_of Y,PySem.W.km_tabs_of Y 16 (by decide)⟩) ?F
 case F =>
  intro w mg fa h KX G hmg
  refine' B04.all_mk KX G hmg ?a1 ?l1 ?c1 ?k1 ?a2 ?l2 ?c2 ?k2 ?a3 ?l3 ?c3 ?k3 ?a4 ?l4 ?c4 ?k4 ?a5 ?l5 ?c5 ?k5 ?a6 ?l6 ?c6 ?k6 ?a7 ?l7 ?c7 ?k7 ?a8 ?l8 ?c8 ?k8 ?a9 ?l9 ?c9 ?k9 ?a10 ?l10 ?c10 ?k10 ?a11 ?l11 ?c11 ?k11 ?a12 ?l12 ?c12 ?k12 ?a13 ?l13 ?c13 ?k13 ?a14 ?l14 ?c14 ?k14 ?a15 ?l15 ?c15 ?k15 ?a16 ?l16 ?c16 ?k16 ?a17 ?l17 ?c17 ?k17 ?a18 ?l18 ?c18 ?k18 ?a19 ?l19 ?c19 ?k19 ?a20 ?l20 ?c20 ?k20 ?a21 ?l21 ?c21 ?k21 ?a22 ?l22 ?c22 ?k22 ?a23 ?l23 ?c23 ?k23 ?a24 ?l24 ?c24 ?k24 ?a25 ?l25 ?c25 ?k25 ?a26 ?l26 ?c26 ?k26 ?a27 ?l27 ?c27 ?k27 ?a28 ?l28 ?c28 ?k28 ?a29 ?l29 ?c29 ?k29 ?a30 ?l30 ?c30 ?k30 ?a31 ?l31 ?c31 ?k31 ?aC ?a32 ?i32 ?l32 ?c32 ?k32 ?p1 ?p2 ?p3 ?p4 ?p5 ?p6 ?n0 ?n1 ?n2 ?kq0 ?kq1 ?kq2 ?kq3 ?kq4 ?kq5 ?z0 ?z1 ?z2 ?z3 ?z4 ?z5 ?z6 ?z7 ?z8 ?z9 ?z10 ?z11 ?z12 ?z13 ?z14 ?z15 ?z16 ?x1 ?x2
  (case a1=>k_is); (case l1=>k_is); (case c1=>k_is); (case k1=>k_is); (case a2=>k_is); (case l2=>k_is)
  (case c2=>k_is); (case k2=>k_is); (case a3=>k_is); (case l3=>k_is); (case c3=>k_is); (case k3=>k_is)
  (case a4=>k_is); (case l4=>k_is); (case c4=>k_is); (case k4=>k_is); (case a5=>k_is); (case l5=>k_is)
  (case c5=>k_is); (case k5=>k_is); (case a6=>k_is); (case l6=>k_is); (case c6=>k_is); (case k6=>k_is)
  (case a7=>k_is); (case l7=>k_is); (case c7=>k_is); (case k7=>k_is); (case a8=>k_is); (case l8=>k_is)
  (case c8=>k_is); (case k8=>k_is); (case a9=>k_is); (case l9=>k_is); (case c9=>k_is); (case k9=>k_is)
  (case a10=>k_is); (case l10=>k_is); (case c10=>k_is); (case k10=>k_is); (case a11=>k_is); (case l11=>k_is)
  (case c11=>k_is); (case k11=>k_is); (case a12=>k_is); (case l12=>k_is); (case c12=>k_is); (case k12=>k_is)
  (case a13=>k_is); (case l13=>k_is); (case c13=>k_is); (case k13=>k_is); (case a14=>k_is); (case l14=>k_is)
  (case c14=>k_is); (case k14=>k_is); (case a15=>k_is); (case l15=>k_is); (case c15=>k_is); (case k15=>k_is)
  (case a16=>k_is); (case l16=>k_is); (case c16=>k_is); (case k16=>k_is); (case a17=>k_is); (case l17=>k_is)
  (case c17=>k_is); (case k17=>k_is); (case a18=>k_is); (case l18=>k_is); (case c18=>k_is); (case k18=>k_is)
  (case a19=>k_is); (case l19=>k_is); (case c19=>k_is); (case k19=>k_is); (case a20=>k_is); (case l20=>k_is)
  (case c20=>k_is); (case k20=>k_is); (case a21=>k_is); (case l21=>k_is); (case c21=>k_is); (case k21=>k_is)
  (case a22=>k_is); (case l22=>k_is); (case c22=>k_is); (case k22=>k_is); (case a23=>k_is); (case l23=>k_is)
  (case c23=>k_is); (case k23=>k_is); (case a24=>k_is); (case l24=>k_is); (case c24=>k_is); (case k24=>k_is)
  (case a25=>k_is); (case l25=>k_is); (case c25=>k_is); (case k25=>k_is); (case a26=>k_is); (case l26=>k_is)
  (case c26=>k_is); (case k26=>k_is); (case a27=>k_is); (case l27=>k_is); (case c27=>k_is); (case k27=>k_is)
  (case a28=>k_is); (case l28=>k_is); (case c28=>k_is); (case k28=>k_is); (case a29=>k_is); (case l29=>k_is)
  (case c29=>k_is); (case k29=>k_is); (case a30=>k_is); (case l30=>k_is); (case c30=>k_is); (case k30=>k_is)
  (case a31=>k_is); (case l31=>k_is); (case c31=>k_is); (case k31=>k_is); (case aC=>k_is); (case a32=>k_is)
  (case i32=>k_is); (case l32=>k_is); (case c32=>k_is); (case k32=>k_is); (case p1=>k_is); (case p2=>k_is)
  (case p3=>k_is); (case p4=>k_is); (case p5=>k_is); (case p6=>k_is); (case n0=>k_is); (case n1=>k_is)
  (case n2=>k_is); (case kq0=>k_is); (case kq1=>k_is); (case kq2=>k_is); (case kq3=>k_is); (case kq4=>k_is)
  (case kq5=>k_is); (case z0=>k_is); (case z1=>k_is); (case z2=>k_is); (case z3=>k_is); (case z4=>k_is)
  (case z5=>k_is); (case z6=>k_is); (case z7=>k_is); (case z8=>k_is); (case z9=>k_is); (case z10=>k_is)
  (case z11=>k_is); (case z12=>k_is); (case z13=>k_is); (case z14=>k_is); (case z15=>k_is); (case z16=>k_is)
  (case x1=>first | rfl | kernel_rfl | decide); (case x2=>first | rfl | kernel_rfl | decide)
