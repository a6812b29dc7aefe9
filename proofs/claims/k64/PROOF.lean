import PyProof.Rows.All
import Wide.All
import OpenK.AllK
import Wide.FinOn
import Lean
import PyProof.EqAt
import PyProof.EqKinds
import PyProof.TupleCall
import PyProof.MinMaxWalk
import PyProof.PassesOwn
import PyProof.StationsW
import PyProof.ExcClass3
import OpenK.KMake
import PyProof.InstStoreFacts
import PyProof.ExcAttrAll.ValueError
import OpenK.KDescr
import OpenK.KOwn
import KE.KIsAll
import PyProof.NsDelKeeps
import PyProof.Rows.ZipGen
import PyProof.Rows.Range3
import KE.KRevIter
import PySem.Challenge.RW_boxgalley_k64_what_the_checker_of_rows_l
set_option Elab.async false
set_option linter.all false
set_option maxRecDepth 100000
namespace L2
open PySem PySem.Spec PyProof.Rows
abbrev Key:=Sum Int Str
def keyIs:Key→Value→Bool
 | .inl k,v=>Value.isInt k v
 | .inr x,v=>Value.isStrOf x v
def keyH (w:World):Key→Int
 | .inl k=>hashInt k
 | .inr x=>hashStr w x
theorem keyIs_shape:∀ {k:Key} {v:Value},keyIs k v=true→(∃ i t,k=Sum.inl i∧v=Value.int i t) ∨ (∃ x t,k=Sum.inr x∧v=Value.str x t)
 | .inl i,v,h=>by
  obtain ⟨t,e⟩:=Value.isInt_shape (k:=i) (v:=v) h
  exact .inl ⟨i,t,rfl,e⟩
 | .inr x,v,h=>by
  obtain ⟨t,e⟩:=Value.isStrOf_shape (x:=x) (v:=v) h
  exact .inr ⟨x,t,rfl,e⟩
theorem keyIs_int (i:Int) (t:Tok):keyIs (.inl i) (.int i t)=true:=by simp [keyIs,Value.isInt]
theorem keyIs_str (x:Str) (t:Tok):keyIs (.inr x) (.str x t)=true:=by simp [keyIs,Value.isStrOf]
theorem key_ll (a b:Int):decide ((Sum.inl a:Key)=Sum.inl b)=(a == b):=by
 by_cases e:a=b
 ·subst e; simp
 ·have h:¬ (Sum.inl a:Key)=Sum.inl b:=fun q=>e (Sum.inl.inj q)
  rw [decide_eq_false h]
  exact (beq_eq_false_iff_ne.mpr e).symm
theorem key_rr (a b:Str):decide ((Sum.inr a:Key)=Sum.inr b)=decide (a=b):=by
 by_cases e:a=b
 ·subst e; simp
 ·have h:¬ (Sum.inr a:Key)=Sum.inr b:=fun q=>e (Sum.inr.inj q)
  rw [decide_eq_false h,decide_eq_false e]
theorem key_lr (a:Int) (b:Str):decide ((Sum.inl a:Key)=Sum.inr b)=false:=decide_eq_false (fun q=>nomatch q)
theorem key_rl (a:Str) (b:Int):decide ((Sum.inr a:Key)=Sum.inl b)=false:=decide_eq_false (fun q=>nomatch q)
def mixKind (prog:Program) (w:World):PySem.KeyKind prog w Key where
 is:=keyIs
 hash:=keyH w
 inj:=fun v a b ha hb=>by
  rcases keyIs_shape ha with ⟨i,t,rfl,rfl⟩ | ⟨x,t,rfl,rfl⟩
  ·rcases keyIs_shape hb with ⟨j,u,rfl,e⟩ | ⟨y,u,rfl,e⟩
   ·injection e with e1 _; rw [e1]
   ·exact nomatch e
  ·rcases keyIs_shape hb with ⟨j,u,rfl,e⟩ | ⟨y,u,rfl,e⟩
   ·exact nomatch e
   ·injection e with e1 _; rw [e1]
 byValue:=fun k v h=>by
  rcases keyIs_shape h with ⟨i,t,rfl,rfl⟩ | ⟨x,t,rfl,rfl⟩ <;> rfl
 pyHash:=fun hv h=>by
  rcases keyIs_shape hv with ⟨i,t,rfl,rfl⟩ | ⟨x,t,rfl,rfl⟩
  ·exact wpAny_pyHash_int h
  ·exact wpAny_pyHash_str h
 eqBool:=fun hu hv h=>by
  rcases keyIs_shape hu with ⟨i,t,rfl,rfl⟩ | ⟨x,t,rfl,rfl⟩
  ·rcases keyIs_shape hv with ⟨j,u,rfl,rfl⟩ | ⟨y,u,rfl,rfl⟩
   ·rw [key_ll] at h; exact wpAny_eqBool_int h
   ·rw [key_lr] at h; exact SeqAt.EqAt.int_str i t y u _ _ _ _ h
  ·rcases keyIs_shape hv with ⟨j,u,rfl,rfl⟩ | ⟨y,u,rfl,rfl⟩
   ·rw [key_rl] at h; exact SeqAt.EqAt.str_int x t j u _ _ _ _ h
   ·rw [key_rr] at h; exact wpAny_eqBool_str h
 «strs»:=fun k x t v h=>by
  rcases keyIs_shape h with ⟨i,u,rfl,e⟩ | ⟨y,u,rfl,e⟩
  ·exact nomatch e
  ·injection e with e1 _
   subst e1
   cases v <;> rfl
theorem mixKind_int (prog:Program) (w:World) (i:Int) (t:Tok):(mixKind prog w).is (.inl i) (.int i t)=true:=keyIs_int i t
theorem mixKind_str (prog:Program) (w:World) (x:Str) (t:Tok):(mixKind prog w).is (.inr x) (.str x t)=true:=keyIs_str x t
end L2
namespace L2
open PySem PySem.Spec PyProof.Rows
inductive V where
 | non | bl (b:Bool) | int (i:Int) | str (x:Str) | byt (b:Array UInt8) | flt (b:UInt64) | ref (a:Addr) | ty (n:String)
 deriving DecidableEq
def RelV:V→Value→Prop
 | .non,u=>u=Value.none
 | .bl b,u=>u=Value.bool b
 | .int i,u=>∃ t,u=Value.int i t
 | .str x,u=>∃ t,u=Value.str x t
 | .byt b,u=>∃ t,u=Value.bytes b t
 | .flt b,u=>∃ t,u=Value.float b t
 | .ref a,u=>u=Value.ref a
 | .ty n,u=>u=Value.type n
abbrev Vals:List V→List Value→Prop:=Paired RelV
theorem Vals.length {xs:List V} {us:List Value} (r:Vals xs us):xs.length=us.length:=Paired.length r
theorem Vals.get:∀ {xs:List V} {us:List Value} {i:Nat} {x:V},Vals xs us→xs[i]?=some x→∃ u,us[i]?=some u∧RelV x u
 | _,_,_,_,.nil,e=>by simp at e
 | _,_,0,_,.cons r _,e=>by simp at e; subst e; exact ⟨_,rfl,r⟩
 | _,_,i + 1,x,.cons _ t,e=>by
  obtain ⟨u,h1,h2⟩:=Vals.get (i:=i) (x:=x) t (by simpa using e)
  exact ⟨u,by simpa using h1,h2⟩
theorem Vals.set {x:V} {u:Value} (r:RelV x u):∀ {xs:List V} {us:List Value} (i:Nat),Vals xs us→Vals (xs.set i x) (us.set i u)
 | _,_,_,.nil=>.nil
 | _,_,0,.cons _ t=>.cons r t
 | _,_,i + 1,.cons q t=>.cons q (Vals.set r i t)
theorem Vals.append:∀ {xs ys:List V} {us ws:List Value},Vals xs us→Vals ys ws→Vals (xs ++ ys) (us ++ ws)
 | _,_,_,_,.nil,s=>s
 | _,_,_,_,.cons r t,s=>.cons r (Vals.append t s)
theorem Vals.take:∀ {xs:List V} {us:List Value} (n:Nat),Vals xs us→Vals (xs.take n) (us.take n)
 | _,_,0,_=>.nil
 | _,_,_ + 1,.nil=>.nil
 | _,_,n + 1,.cons r t=>.cons r (Vals.take n t)
theorem Vals.drop:∀ {xs:List V} {us:List Value} (n:Nat),Vals xs us→Vals (xs.drop n) (us.drop n)
 | _,_,0,r=>r
 | _,_,_ + 1,.nil=>.nil
 | _,_,n + 1,.cons _ t=>Vals.drop n t
def RelO:Option V→Option Value→Prop
 | some v,some u=>RelV v u
 | none,none=>True
 | _,_=>False
def KV {κ:Type}:List (κ × V)→List (κ × Value)→Prop:=Paired fun (p:κ × V) (q:κ × Value)=>p.1=q.1∧RelV p.2 q.2
def kV:Key→V
 | .inl i=>.int i
 | .inr x=>.str x
inductive HO where
  | lst (xs:List V)
  | tup (xs:List V)
  | dK (kvs:List (Key × V)) | dT (kvs:List (List Key × V))
  | set (S:Int→Bool) (n:Nat)
  | ins (C dx:Addr) (fs:List (Str × V))
  | own (x:Addr)
  | xd (fs:List (Str × V))
  | met (f x:Addr)
  | rng (lo hi:Int)
  | frz (o:Obj) (u:HO)
  | tbl (ps:Array Value)
  | ext (φ:Heap→Prop)
abbrev Hp:=Addr→Option HO
def upd (H:Hp) (a:Addr) (o:HO):Hp:=fun b=>if b=a then some o else H b
theorem upd_same {H:Hp} {a:Addr} {o:HO}:upd H a o a=some o:=by unfold upd; rw [if_pos rfl]
theorem upd_ne {H:Hp} {a b:Addr} {o:HO} (h:b ≠ a):upd H a o b=H b:=by unfold upd; rw [if_neg h]
theorem upd_upd {H:Hp} {a:Addr} {o u:HO}:upd (upd H a o) a u=upd H a u:=by
 funext b; unfold upd; split <;> rfl
theorem ne_of {H:Hp} {a b:Addr} {o u:HO} (h:H a=some o) (h':H b=some u) (d:o ≠ u):a ≠ b:=by
 intro e; subst e; rw [h] at h'; exact d (Option.some.inj h')
theorem ne_of_none {H:Hp} {a b:Addr} {o:HO} (h:H a=some o) (h':H b=none):a ≠ b:=by
 intro e; subst e; rw [h] at h'; cases h'
section
variable (P:Program) (w:World)
def ObjOk (H:Hp) (h:Heap) (a:Addr):HO→Prop
 | .lst xs=>xs.length ≤ sizeLine∧∃ (its:List Value) (n:Nat),Vals xs its∧h.get? a=some { cls:=.type "list",data:=.seq its.toArray n }
 | .tup xs=>xs.length ≤ sizeLine∧∃ its:List Value,Vals xs its∧IsTup h a its.toArray
 | .dK kvs=>kvs.length ≤ sizeLine∧(a == sysModules)=false∧∃ vs,KV kvs vs∧h.DictOf (mixKind P w) a vs
 | .dT kvs=>kvs.length ≤ sizeLine∧(a == sysModules)=false∧∃ xs:List (List Key × Addr × Value),
   Paired (fun (p:List Key × V) (q:List Key × Addr × Value)=>p.1=q.1∧H q.2.1=some (.tup (p.1.map kV))∧RelV p.2 q.2.2) kvs xs ∧
   ∃ o es ep,h.get? a=some o∧o.ExactDict∧o.data=.dict es ep∧es.toList=xs.map (entryOfKey (tupleKind (mixKind P w)))∧(xs.map (·.1)).Nodup
 | .set S n=>h.SetOf (intKind P w) a S n
 | .ins C dx fs=>H dx=some (.own a)∧fs.length ≤ 1000∧dx ≠ a∧h.get? a=some (PySem.W.instObj C dx) ∧
   ∃ mA,h.Ns1 dx mA∧(∀ f,RelO (fs.lookup f) (mA f))∧PySem.Within mA (fs.map (·.1))
 | .own _=>∃ o,h.get? a=some o
 | .xd fs=>∃ mA,h.Ns1 a mA∧∀ f,RelO (fs.lookup f) (mA f)
 | .rng lo hi=>∃ t u v,h.get? a=some { cls:=.type "range",data:=.fields #[.int lo t,.int hi u,.int 1 v] }
 | .frz o u=>h.get? a=some o∧ObjOk H h a u
 | .tbl ps=>h.get? a=some { cls:=.none,data:=.fields ps }
 | .met f x=>h.get? a=some (PySem.W.methodObj (.ref f) (.ref x))
 | .ext φ=>φ h∧(∃ o,h.get? a=some o)∧∀ h1 h2:Heap,φ h1→(∀ o,h1.get? a=some o→h2.get? a=some o)→φ h2
def HOk (H:Hp) (h:Heap):Prop:=∀ a o,H a=some o→ObjOk P w H h a o
end
section
variable {P:Program} {w:World} {H H':Hp} {h h':Heap} {a:Addr} {o:HO}
theorem ObjOk.lt (x:ObjOk P w H h a o):a < h.objs.size:=by
 cases o with
 | lst xs=>obtain ⟨_,_,_,_,e⟩:=x; exact Heap.lt_size e
 | tup xs=>obtain ⟨_,_,_,p⟩:=x; exact p.lt
 | dK kvs=>obtain ⟨_,_,_,_,o,_,_,e,_⟩:=x; exact Heap.lt_size e
 | dT kvs=>obtain ⟨_,_,_,_,o,_,_,e,_⟩:=x; exact Heap.lt_size e
 | set S n=>obtain ⟨o,_,_,_,e,_⟩:=x; exact Heap.lt_size e
 | ins C dx fs=>obtain ⟨_,_,_,e,_⟩:=x; exact Heap.lt_size e
 | own y=>obtain ⟨_,e⟩:=x; exact Heap.lt_size e
 | xd fs=>obtain ⟨_,⟨_,_,_,e,_⟩,_⟩:=x; exact Heap.lt_size e
 | rng lo hi=>obtain ⟨_,_,_,e⟩:=x; exact Heap.lt_size e
 | frz ob u=>obtain ⟨e,_⟩:=x; exact Heap.lt_size e
 | tbl ps=>exact Heap.lt_size (show h.get? a=some _ from x)
 | met f y=>exact Heap.lt_size (show h.get? a=some _ from x)
 | ext φ=>obtain ⟨_,⟨_,e⟩,_⟩:=x; exact Heap.lt_size e
theorem Paired.mapP {α β:Type} {F G:α→β→Prop}:∀ {l₁:List α} {l₂:List β},Paired F l₁ l₂→(∀ a b,F a b→G a b)→Paired G l₁ l₂
 | _,_,.nil,_=>.nil
 | _,_,.cons r t,f=>.cons (f _ _ r) (Paired.mapP t f)
theorem ObjOk.stay (x:ObjOk P w H h a o) (k:∀ b u,(b=a ∨ H b=some (.own a))→h.get? b=some u→h'.get? b=some u)
  (ho:∀ b,H b=some (.own a)→H' b=some (.own a)) (ht:∀ b xs,H b=some (.tup xs)→H' b=some (.tup xs)):ObjOk P w H' h' a o:=by
 induction o with
 | lst xs=>obtain ⟨z,its,n,r,e⟩:=x; exact ⟨z,its,n,r,k _ _ (.inl rfl) e⟩
 | tup xs=>obtain ⟨z,its,r,ob,e,c⟩:=x; exact ⟨z,its,r,ob,k _ _ (.inl rfl) e,c⟩
 | dK kvs=>obtain ⟨z,y,vs,r,ob,es,ep,e,c⟩:=x; exact ⟨z,y,vs,r,ob,es,ep,k _ _ (.inl rfl) e,c⟩
 | dT kvs =>
  obtain ⟨z,y,xs,r,ob,es,ep,e,c⟩:=x
  exact ⟨z,y,xs,Paired.mapP r fun p q z=>⟨z.1,ht _ _ z.2.1,z.2.2⟩,ob,es,ep,k _ _ (.inl rfl) e,c⟩
 | set S n=>obtain ⟨ob,es,ep,t,e,c⟩:=x; exact ⟨ob,es,ep,t,k _ _ (.inl rfl) e,c⟩
 | ins C dx fs =>
  obtain ⟨d,z,ne,e,mA,⟨od,es,ep,e2,c⟩,r⟩:=x
  exact ⟨ho _ d,z,ne,k _ _ (.inl rfl) e,mA,⟨od,es,ep,k _ _ (.inr d) e2,c⟩,r⟩
 | own y=>obtain ⟨ob,e⟩:=x; exact ⟨ob,k _ _ (.inl rfl) e⟩
 | xd fs=>obtain ⟨mA,⟨od,es,ep,e,c⟩,r⟩:=x; exact ⟨mA,⟨od,es,ep,k _ _ (.inl rfl) e,c⟩,r⟩
 | rng lo hi=>obtain ⟨t,u,v,e⟩:=x; exact ⟨t,u,v,k _ _ (.inl rfl) e⟩
 | frz ob u ih=>obtain ⟨e,q⟩:=x; exact ⟨k _ _ (.inl rfl) e,ih q⟩
 | tbl ps =>
  have e:h.get? a=some { cls:=.none,data:=.fields ps }:=x
  show h'.get? a=some { cls:=.none,data:=.fields ps }
  exact k a _ (.inl rfl) e
 | met f y =>
  have e:h.get? a=some (PySem.W.methodObj (.ref f) (.ref y)):=x
  show h'.get? a=some (PySem.W.methodObj (.ref f) (.ref y))
  exact k a _ (.inl rfl) e
 | ext φ=>obtain ⟨p,⟨o,e⟩,st⟩:=x; exact ⟨st _ _ p fun o q=>k _ _ (.inl rfl) q,⟨o,k _ _ (.inl rfl) e⟩,st⟩
theorem HOk.lt (x:HOk P w H h) (e:H a=some o):a < h.objs.size:=(x a o e).lt
theorem HOk.fresh (x:HOk P w H h) (e:h.objs.size ≤ a):H a=none:=by
 cases q:H a with
 | none=>rfl
 | some u=>exact absurd (Nat.lt_of_lt_of_le (x.lt q) e) (Nat.lt_irrefl _)
theorem HOk.kept (x:HOk P w H h) (k:∀ b u,h.get? b=some u→h'.get? b=some u):HOk P w H h':=fun a o e =>
 (x a o e).stay (fun b u _ q=>k b u q) (fun _ q=>q) fun _ _ q=>q
theorem HOk.laid (x:HOk P w H h) (k:∀ b u,h.get? b=some u→h'.get? b=some u) (hp:h.objs.size ≤ a) (new:ObjOk P w (upd H a o) h' a o):HOk P w (upd H a o) h':=fun b u e=>by
 have hn:=x.fresh hp
 by_cases hb:b=a
 ·subst hb; rw [upd_same] at e; cases e; exact new
 ·rw [upd_ne hb] at e
  exact (x b u e).stay (fun c v _ q=>k c v q) (fun c q=>by rw [upd_ne (ne_of_none q hn)]; exact q) fun c xs q=>by rw [upd_ne (ne_of_none q hn)]; exact q
end
def Rd (H:Hp) (a:Addr) (u:HO):Prop:=H a=some u ∨ ∃ o,H a=some (.frz o u)
theorem Rd.ok {P:Program} {w:World} {H:Hp} {h:Heap} {a:Addr} {u:HO} (r:Rd H a u) (x:HOk P w H h):ObjOk P w H h a u:=by
 rcases r with r | ⟨o,r⟩
 ·exact x a u r
 ·obtain ⟨_,q⟩:=x a _ r
  exact q
def Mut:Option HO→Prop
 | some (.lst _)=>True
 | some (.dK _)=>True
 | some (.dT _)=>True
 | some (.set _ _)=>True
 | some (.ins _ _ _)=>True
 | some (.ext _)=>True
 | _=>False
section
variable {P:Program} {w:World} {H:Hp} {h h':Heap} {x e:Addr} {o':HO}
theorem HOk.write (ok:HOk P w H h) (mu:Mut (H x)) (he:e=x ∨ H e=some (.own x)) (k:∀ b u,b ≠ e→h.get? b=some u→h'.get? b=some u) (heo:∃ u,h'.get? e=some u)
  (new:ObjOk P w (upd H x o') h' x o'):HOk P w (upd H x o') h':=fun b u q=>by
 have nown:∀ c y,H c=some (.own y)→c ≠ x:=fun c y r z=>by subst z; rw [r] at mu; exact mu
 have ntup:∀ c xs,H c=some (.tup xs)→c ≠ x:=fun c xs r z=>by subst z; rw [r] at mu; exact mu
 by_cases hb:b=x
 ·subst hb; rw [upd_same] at q; cases q; exact new
 ·rw [upd_ne hb] at q
  by_cases hbe:b=e
  ·have q':H b=some (.own x):=by
    rcases he with z | z
    ·exact absurd (hbe.trans z) hb
    ·rw [hbe]; exact z
   rw [q] at q'; cases q'
   obtain ⟨v,hv⟩:=heo
   exact ⟨v,by rw [hbe]; exact hv⟩
  ·refine (ok b u q).stay (fun c v hc r=>k c v ?_ r) (fun c r=>by rw [upd_ne (nown c b r)]; exact r) fun c xs r=>by rw [upd_ne (ntup c xs r)]; exact r
   rcases hc with rfl | hc
   ·exact hbe
   ·rintro rfl
    rcases he with z | z
    ·exact nown c b hc z
    ·rw [hc] at z; cases z; exact hb rfl
end
structure Un (fs ex:List Addr) (H H':Hp) (h h':Heap):Prop where
 keep:∀ b o,h.get? b=some o→H b=none→b ∉ fs→b ∉ ex→h'.get? b=some o
 slot:∀ b o,h.get? b=some o→H b=none→b ∈ fs→b ∉ ex→∃ sl,h'.get? b=some { o with slots:=sl }
 free:∀ b o,h.get? b=some o→H b=none→b ∉ ex→H' b=none
 there:∀ b o,h.get? b=some o→b ∉ ex→∃ o',h'.get? b=some o'
 tups:∀ b xs,H b=some (.tup xs)→H' b=some (.tup xs)
 frzs:∀ b o u,H b=some (.frz o u)→H' b=some (.frz o u)
 tbls:∀ b ps,H b=some (.tbl ps)→∃ more,H' b=some (.tbl (ps ++ more))
section
variable {fs fs' ex ex':List Addr} {H H1 H2:Hp} {h h1 h2 h':Heap} {a x e:Addr} {o:HO}
theorem Un.any (u:Un fs ex H H1 h h1) {b:Addr} {ob:Obj} (q:h.get? b=some ob) (n:H b=none) (hx:b ∉ ex):∃ sl,h1.get? b=some { ob with slots:=sl }:=by
 by_cases hb:b ∈ fs
 ·exact u.slot b ob q n hb hx
 ·exact ⟨ob.slots,u.keep b ob q n hb hx⟩
theorem Un.kept (k:∀ b u,h.get? b=some u→h'.get? b=some u):Un fs ex H H h h' :=
 ⟨fun b ob q _ _ _=>k b ob q,fun b ob q _ _ _=>⟨ob.slots,k b ob q⟩,fun _ _ _ n _=>n,fun b ob q _=>⟨ob,k b ob q⟩,fun _ _ q=>q,fun _ _ _ q=>q,fun _ ps q=>⟨#[],by rw [q]; simp⟩⟩
theorem Un.refl:Un fs ex H H h h:=Un.kept fun _ _ q=>q
theorem Un.laid (k:∀ b u,h.get? b=some u→h'.get? b=some u) (hp:h.objs.size ≤ a) (hn:H a=none):Un fs ex H (upd H a o) h h' where
 keep:=fun b u q _ _ _=>k b u q
 slot:=fun b u q _ _ _=>⟨u.slots,k b u q⟩
 free:=fun b u q n _=>by rw [upd_ne (Nat.ne_of_lt (Nat.lt_of_lt_of_le (Heap.lt_size q) hp))]; exact n
 there:=fun b u q _=>⟨u,k b u q⟩
 tups:=fun b xs q=>by rw [upd_ne (ne_of_none q hn)]; exact q
 frzs:=fun b u xs q=>by rw [upd_ne (ne_of_none q hn)]; exact q
 tbls:=fun b ps q=>⟨#[],by rw [upd_ne (ne_of_none q hn),q]; simp⟩
theorem Un.write (mu:Mut (H x)) (he:e=x ∨ H e=some (.own x)) (k:∀ b u,b ≠ e→h.get? b=some u→h'.get? b=some u) (heo:∃ u,h'.get? e=some u):Un fs ex H (upd H x o) h h':=by
 have hx:∀ b,H b=none→b ≠ x:=fun b n z=>by subst z; rw [n] at mu; exact mu
 have hb:∀ b,H b=none→b ≠ e:=fun b n z=>by
  subst z
  rcases he with r | r
  ·exact hx b n r
  ·rw [n] at r; cases r
 have hm:∀ b u,H b=some u→¬ Mut (some u)→b ≠ x:=fun b u q nm z=>by subst z; rw [q] at mu; exact nm mu
 refine ⟨fun b u q n _ _=>k b u (hb b n) q,fun b u q n _ _=>⟨u.slots,k b u (hb b n) q⟩,fun b u q n _=>by rw [upd_ne (hx b n)]; exact n,fun b u q _=>?_,
  fun b xs q=>by rw [upd_ne (hm b _ q fun z=>z)]; exact q,fun b u xs q=>by rw [upd_ne (hm b _ q fun z=>z)]; exact q,fun b ps q=>⟨#[],by rw [upd_ne (hm b _ q fun z=>z),q]; simp⟩⟩
 by_cases hbe:b=e
 ·subst hbe; exact heo
 ·exact ⟨u,k b u hbe q⟩
end
def trk (h:Heap) (H:Hp):List Addr:=(List.range h.objs.size).filter fun a=>(H a).isSome
def hidT (h:Heap) (H:Hp):Heap:=PySem.W.hideAll h (trk h H)
theorem hidT_size (h:Heap) (H:Hp):(hidT h H).objs.size=h.objs.size:=PySem.W.hideAll_size _ _
theorem hidT_get {h:Heap} {H:Hp} {b:Addr} {o:Obj} (e:h.get? b=some o) (n:H b=none):(hidT h H).get? b=some o :=
 PySem.W.hideAll_get _ e fun hm=>by
  have q:(H b).isSome=true:=(List.mem_filter.mp hm).2
  rw [n] at q; simp at q
theorem of_hidT {h:Heap} {H:Hp} {b:Addr} {o:Obj} (e:(hidT h H).get? b=some o):h.get? b=some o∧H b=none:=by
 have e':h.get? b=some o:=PySem.W.of_hideAll (trk h H) e
 refine ⟨e',?_⟩
 cases q:H b with
 | none=>rfl
 | some x =>
  have hm:b ∈ trk h H:=List.mem_filter.mpr ⟨List.mem_range.mpr (Heap.lt_size e'),by simp [q]⟩
  have z:(hidT h H).get? b=none:=PySem.W.hideAll_none (trk h H) hm
  rw [z] at e; cases e
end L2
namespace L2
open PySem PySem.Spec PyProof.Rows
structure Mod (K:PySem.W.Frag) (mg:Str→Option Value) (base:Heap):Prop where
 kin:K.In base
 glob:base.Ns mainGlobals mg
 blt:∃ mb,base.Ns builtinsNs mb∧∀ x:Str,x ≠ "__name__"→mb x=bootBuiltins x
 nolimit:base.NoLimit
structure Cx where
 prog:Program
 w:World
 K:PySem.W.Frag
 mg:Str→Option Value
 base:Heap
 A:Around
 N:List Str
 s₀:Shared
 H₀:Hp
 env:Env
 outer:List Env
 stack:List Env
 ex:List Addr
 fn:Str→Bool
 calm:Bool
 pn:List (Addr × Obj)
 xe:Value→Shared→Prop
def frs (l:List Env):List Addr:=l.filterMap (·.frame)
abbrev Cx.fs (X:Cx):List Addr:=frs X.outer
def Vis (sc:Scope) (x:Str):Prop:=sc.names.lookup x=some .local ∨ sc.names.lookup x=some .cell ∨ sc.names.lookup x=some .free
def Loc (sc:Scope) (x:Str):Prop:=sc.names.lookup x=some .local ∨ sc.names.lookup x=some .cell
def Look (env:Env) (h:Heap) (m:Str→Option Value) (x:Str) (u:Value):Prop :=
 (env.kindOf x=some .local∧m x=some u) ∨ ((env.kindOf x=some .cell ∨ env.kindOf x=some .free)∧∃ c,env.cells.lookup x=some c∧h.IsCell c (some u))
structure Cx.Ok (X:Cx):Prop where
 mod:Mod X.K X.mg X.base
 kind:X.env.scope.kind=.function
 glob:X.env.globals=mainGlobals
 blt:X.env.builtins=builtinsNs
 above:X.s₀.heap.objs.size ≤ X.env.locals
 inj:∀ x y c,X.env.cells.lookup x=some c→X.env.cells.lookup y=some c→x=y
 has:∀ x,(X.env.kindOf x=some .cell ∨ X.env.kindOf x=some .free)→∃ c,X.env.cells.lookup x=some c
 cab:∀ x c,X.fn x=true→X.env.cells.lookup x=some c→X.s₀.heap.objs.size ≤ c
 hd:X.calm=true→X.A.handled=none
 frames:X.A.frames=some X.stack
 stk:X.stack=X.outer ∨ (X.stack=X.env :: X.outer∧X.env.frame=some X.env.locals)
 exf:∀ b ∈ X.ex,b ≠ X.env.locals∧∀ x c,X.env.cells.lookup x=some c→c ≠ b
 bs:∀ b o,X.base.get? b=some o→X.s₀.heap.get? b=some o∧X.H₀ b=none
 bsz:X.base.objs.size ≤ X.s₀.heap.objs.size
 noex:∀ b o,X.base.get? b=some o→b ∉ X.ex
 exfs:∀ b ∈ X.ex,b ∉ X.fs
 funs:X.s₀.heap.FunFrames X.base X.outer
 frf:∀ b ∈ X.fs,X.H₀ b=none
structure Inv (X:Cx) (pins:List (Addr × Obj)) (σ:List (Option V)) (H:Hp) (s:Shared):Prop where
 ok:X.Ok
 os:s.os=X.s₀.os
 bare:AllBare s.gens
 base:Un X.fs X.ex X.H₀ H X.s₀.heap s.heap
 loc:∃ m,s.heap.Ns X.env.locals m∧∀ (i:Nat) (x:Str) (v:V),X.N[i]?=some x→σ[i]?=some (some v)→Vis X.env.scope x→∃ u,RelV v u∧Look X.env s.heap m x u
 cell:∀ x c,X.env.cells.lookup x=some c→∃ v,s.heap.IsCell c v
 free:H X.env.locals=none
 freeC:∀ x c,X.env.cells.lookup x=some c→H c=none
 pin:∀ p ∈ X.pn ++ pins,s.heap.get? p.1=some p.2∧H p.1=none∧p.1 ≠ X.env.locals∧p.1 ∉ X.fs∧∀ v,p.2.data ≠ .cell v
 hok:HOk X.prog X.w H s.heap
 len:σ.length=X.N.length
section
variable {X:Cx} {pins:List (Addr × Obj)} {σ:List (Option V)} {H H':Hp} {s:Shared} {h':Heap}
theorem Cx.Ok.nofr (ok:X.Ok) {b:Addr} {o:Obj} (e:X.base.get? b=some o):b ∉ X.fs:=fun hb=>by
 have:=(ok.funs.mem hb).1
 rw [e] at this; cases this
theorem Inv.bs (I:Inv X pins σ H s):∀ b o,X.base.get? b=some o→s.heap.get? b=some o∧H b=none:=fun b o e =>
 ⟨I.base.keep b o (I.ok.bs b o e).1 (I.ok.bs b o e).2 (I.ok.nofr e) (I.ok.noex b o e),I.base.free b o (I.ok.bs b o e).1 (I.ok.bs b o e).2 (I.ok.noex b o e)⟩
theorem Inv.bk (I:Inv X pins σ H s):∀ b o,X.base.get? b=some o→s.heap.get? b=some o:=fun b o e=>(I.bs b o e).1
theorem Inv.mod (I:Inv X pins σ H s):Mod X.K X.mg X.base:=I.ok.mod
theorem Inv.kIn (I:Inv X pins σ H s):X.K.In s.heap:=I.ok.mod.kin.keeps I.bk
theorem Inv.lt (I:Inv X pins σ H s):X.env.locals < s.heap.objs.size:=let ⟨_,hn,_⟩:=I.loc; hn.lt
theorem Inv.sz (I:Inv X pins σ H s):X.s₀.heap.objs.size ≤ s.heap.objs.size:=Nat.le_trans I.ok.above (Nat.le_of_lt I.lt)
theorem Inv.nofs (I:Inv X pins σ H s) {a:Addr} (h:s.heap.objs.size ≤ a):a ∉ X.fs:=fun hb=>by
 obtain ⟨_,o,ho,_⟩:=I.ok.funs.mem hb
 exact absurd (Nat.lt_of_lt_of_le (Heap.lt_size ho) (Nat.le_trans I.sz h)) (Nat.lt_irrefl _)
theorem Inv.cne (I:Inv X pins σ H s):∀ x c,X.env.cells.lookup x=some c→c ≠ X.env.locals:=fun x c e z=>by
 obtain ⟨v,o,ho,hd⟩:=I.cell x c e
 obtain ⟨m,⟨o',es,ep,ho',hd',_⟩,_⟩:=I.loc
 rw [z,ho'] at ho; cases ho; rw [hd'] at hd; cases hd
theorem Inv.funs (I:Inv X pins σ H s):s.heap.FunFrames X.base X.outer:=by
 have all:∀ (l:List Env),(∀ b ∈ frs l,b ∈ X.fs)→X.s₀.heap.FunFrames X.base l→s.heap.FunFrames X.base l:=by
  intro l
  induction l with
  | nil=>intro _ _; trivial
  | cons env r ih =>
   intro hs hl
   obtain ⟨hk,⟨L,o,hf,hn,ho,hd⟩,hr⟩:=hl
   have hL:L ∈ X.fs:=hs L (by unfold frs; rw [List.filterMap_cons,hf]; exact List.mem_cons_self)
   obtain ⟨sl,e⟩:=I.base.slot L o ho (I.ok.frf L hL) hL fun z=>I.ok.exfs L z hL
   exact ⟨hk,⟨L,_,hf,hn,e,hd⟩,ih (fun b hb=>hs b (by unfold frs; rw [List.filterMap_cons,hf]; exact List.mem_cons_of_mem _ hb)) hr⟩
 exact all X.outer (fun _ hb=>hb) I.ok.funs
theorem Inv.stack (I:Inv X pins σ H s):s.heap.FunFrames X.base X.stack:=by
 rcases I.ok.stk with e | ⟨e,hf⟩
 ·rw [e]; exact I.funs
 ·rw [e]
  obtain ⟨m,hn,_⟩:=I.loc
  refine .cons (by rw [I.ok.kind]; decide) hf hn ?_ I.funs
  exact Heap.get?_none_of_le (Nat.le_trans I.ok.bsz I.ok.above)
theorem Inv.stkSub (I:Inv X pins σ H s):∀ b ∈ frs X.stack,b ∈ X.env.locals :: X.fs:=fun b hb=>by
 rcases I.ok.stk with e | ⟨e,hf⟩
 ·rw [e] at hb; exact List.mem_cons_of_mem _ hb
 ·rw [e] at hb
  unfold frs at hb
  rw [List.filterMap_cons,hf] at hb
  exact hb
theorem Inv.stkFree (I:Inv X pins σ H s):∀ b ∈ frs X.stack,H b=none:=fun b hb=>by
 rcases List.mem_cons.mp (I.stkSub b hb) with e | hb
 ·rw [e]; exact I.free
 ·obtain ⟨_,o,ho,_⟩:=I.ok.funs.mem hb
  exact I.base.free b o ho (I.ok.frf b hb) fun z=>I.ok.exfs b z hb
theorem Inv.step {g':Array GenState} {t':Nat} {d':Drawn} {ch:List Addr} (I:Inv X pins σ H s)
  (hch:∀ b ∈ ch,(b ∈ X.ex ∨ X.s₀.heap.objs.size ≤ b)∧b ≠ X.env.locals∧(∀ x c,X.env.cells.lookup x=some c→c ≠ b)∧∀ p ∈ X.pn ++ pins,p.1 ≠ b)
  (keep:∀ b o,b ≠ X.env.locals→b ∉ X.fs→b ∉ ch→s.heap.get? b=some o→H b=none→h'.get? b=some o)
  (slot:∀ b o,b ≠ X.env.locals→b ∈ X.fs→b ∉ ch→s.heap.get? b=some o→H b=none→∃ sl,h'.get? b=some { o with slots:=sl }) (free:∀ b o,b ∉ ch→s.heap.get? b=some o→H b=none→H' b=none)
  (there:∀ b o,b ∉ ch→s.heap.get? b=some o→∃ o',h'.get? b=some o')
  (tups:∀ b xs,H b=some (.tup xs)→H' b=some (.tup xs)) (frzs:∀ b o u,H b=some (.frz o u)→H' b=some (.frz o u)) (tbls:∀ b ps,H b=some (.tbl ps)→∃ more,H' b=some (.tbl (ps ++ more)))
  (ns:∀ m,s.heap.Ns X.env.locals m→h'.Ns X.env.locals m) (hok:HOk X.prog X.w H' h') (hg:AllBare g') :
  Inv X pins σ H' { s with heap:=h',gens:=g',drawn:=d',toks:=t' }:=by
 have neL:∀ b o,X.s₀.heap.get? b=some o→b ≠ X.env.locals:=fun b o e=>Nat.ne_of_lt (Nat.lt_of_lt_of_le (Heap.lt_size e) I.ok.above)
 have neC:∀ b o,X.s₀.heap.get? b=some o→b ∉ X.ex→b ∉ ch:=fun b o e hx hb=>by
  rcases (hch b hb).1 with z | z
  ·exact hx z
  ·exact absurd (Nat.lt_of_lt_of_le (Heap.lt_size e) z) (Nat.lt_irrefl _)
 have cellK:∀ x c,X.env.cells.lookup x=some c→∀ v,s.heap.IsCell c v→h'.IsCell c v:=fun x c e v ⟨o,ho,hd⟩=>by
  have nch:c ∉ ch:=fun z=>(hch c z).2.2.1 x c e rfl
  by_cases hc:c ∈ X.fs
  ·obtain ⟨sl,q⟩:=slot c o (I.cne x c e) hc nch ho (I.freeC x c e)
   exact ⟨_,q,hd⟩
  ·exact ⟨o,keep c o (I.cne x c e) hc nch ho (I.freeC x c e),hd⟩
 refine ⟨I.ok,I.os,hg,⟨fun b o e n hb hx=>?_,fun b o e n hb hx=>?_,fun b o e n hx=>?_,fun b o e hx=>?_,fun b xs e=>tups b xs (I.base.tups b xs e),fun b o xs e=>frzs b o xs (I.base.frzs b o xs e),fun b ps e=>?_⟩,?_,fun x c e=>?_,?_,fun x c e=>?_,fun p hp=>?_,hok,I.len⟩
 ·exact keep b o (neL b o e) hb (neC b o e hx) (I.base.keep b o e n hb hx) (I.base.free b o e n hx)
 ·obtain ⟨sl,e1⟩:=I.base.slot b o e n hb hx
  obtain ⟨sl',e2⟩:=slot b _ (neL b o e) hb (neC b o e hx) e1 (I.base.free b o e n hx)
  exact ⟨sl',e2⟩
 ·obtain ⟨o',e1⟩:=I.base.there b o e hx
  exact free b o' (neC b o e hx) e1 (I.base.free b o e n hx)
 ·obtain ⟨o',e1⟩:=I.base.there b o e hx
  exact there b o' (neC b o e hx) e1
 ·obtain ⟨m1,e1⟩:=I.base.tbls b ps e
  obtain ⟨m2,e2⟩:=tbls b _ e1
  exact ⟨m1 ++ m2,by rw [e2,Array.append_assoc]⟩
 ·obtain ⟨m,hn,hl⟩:=I.loc
  refine ⟨m,ns m hn,fun i x v e1 e2 e3=>?_⟩
  obtain ⟨u,r,l⟩:=hl i x v e1 e2 e3
  refine ⟨u,r,?_⟩
  rcases l with l | ⟨k,c,e,z⟩
  ·exact .inl l
  ·exact .inr ⟨k,c,e,cellK x c e _ z⟩
 ·obtain ⟨v,z⟩:=I.cell x c e
  exact ⟨v,cellK x c e v z⟩
 ·obtain ⟨m,⟨o,_,_,ho,_⟩,_⟩:=I.loc
  exact free _ o (fun z=>(hch _ z).2.1 rfl) ho I.free
 ·obtain ⟨v,o,ho,hd⟩:=I.cell x c e
  exact free c o (fun z=>(hch c z).2.2.1 x c e rfl) ho (I.freeC x c e)
 ·obtain ⟨e,n,ne,nf,d⟩:=I.pin p hp
  have nch:p.1 ∉ ch:=fun z=>(hch p.1 z).2.2.2 p hp rfl
  exact ⟨keep p.1 p.2 ne nf nch e n,free p.1 p.2 nch e n,ne,nf,d⟩
theorem Inv.un {t':Nat} (I:Inv X pins σ H s) (u:Un X.fs [] H H' s.heap h') (hok:HOk X.prog X.w H' h'):Inv X pins σ H' { s with heap:=h',toks:=t' }:=by
 obtain ⟨m,⟨o,es,ep,ho,r⟩,_⟩:=id I.loc
 obtain ⟨sl,hL⟩:=u.any ho I.free (by simp)
 exact I.step (g':=s.gens) (d':=s.drawn) (ch:=[]) (fun _ z=>nomatch z) (fun b o _ hb _ e n=>u.keep b o e n hb (by simp)) (fun b o _ hb _ e n=>u.slot b o e n hb (by simp)) (fun b o _ e n=>u.free b o e n (by simp)) (fun b o _ e=>u.there b o e (by simp)) u.tups u.frzs u.tbls (fun m' hm=>by
  obtain ⟨o',es',ep',ho',r'⟩:=hm
  rw [ho] at ho'; cases ho'
  exact ⟨_,es',ep',hL,r'⟩) hok I.bare
theorem Inv.call {g':Array GenState} {t':Nat} {d':Drawn} {ch:List Addr} (I:Inv X pins σ H s) (u:Un (frs X.stack) ch H H' s.heap h') (hok:HOk X.prog X.w H' h') (hg:AllBare g')
  (hch:∀ b ∈ ch,(b ∈ X.ex ∨ X.s₀.heap.objs.size ≤ b)∧b ≠ X.env.locals∧(∀ x c,X.env.cells.lookup x=some c→c ≠ b)∧∀ p ∈ X.pn ++ pins,p.1 ≠ b) :
  Inv X pins σ H' { s with heap:=h',gens:=g',drawn:=d',toks:=t' }:=by
 obtain ⟨m,⟨o,es,ep,ho,r⟩,_⟩:=id I.loc
 obtain ⟨sl,hL⟩:=u.any ho I.free fun z=>(hch _ z).2.1 rfl
 exact I.step (ch:=ch) hch (fun b o hL hb hc e n=>u.keep b o e n (fun z=>(List.mem_cons.mp (I.stkSub b z)).elim hL hb) hc) (fun b o _ _ hc e n=>u.any e n hc) (fun b o hc e n=>u.free b o e n hc) (fun b o hc e=>u.there b o e hc) u.tups u.frzs u.tbls (fun m' hm=>by
  obtain ⟨o',es',ep',ho',r'⟩:=hm
  rw [ho] at ho'; cases ho'
  exact ⟨_,es',ep',hL,r'⟩) hok hg
theorem Inv.turned {t':Nat} {it:Addr} (I:Inv X pins σ H s) (k:∀ b o,b ≠ it→s.heap.get? b=some o→h'.get? b=some o) (hn:H it=none) (hL:it ≠ X.env.locals)
  (h1:it ∈ X.ex ∨ X.s₀.heap.objs.size ≤ it) (h2:∀ x c,X.env.cells.lookup x=some c→c ≠ it) (h3:∀ p ∈ X.pn ++ pins,p.1 ≠ it):Inv X pins σ H { s with heap:=h',toks:=t' }:=by
 have nit:∀ b u,H b=some u→b ≠ it:=fun b u e z=>by rw [z,hn] at e; cases e
 refine I.step (g':=s.gens) (d':=s.drawn) (ch:=[it]) (fun b hb=>?_) (fun b o _ _ hc e _=>k b o (fun z=>hc (by simp [z])) e) (fun b o _ _ hc e _=>⟨o.slots,k b o (fun z=>hc (by simp [z])) e⟩) (fun _ _ _ _ n=>n)
  (fun b o hc e=>⟨o,k b o (fun z=>hc (by simp [z])) e⟩) (fun _ _ e=>e) (fun _ _ _ e=>e) (fun b ps e=>⟨#[],by rw [e]; simp⟩) (fun m hm=>?_) (fun b u e=>?_) I.bare
 ·have e:b=it:=by simpa using hb
  subst e
  exact ⟨h1,hL,h2,h3⟩
 ·obtain ⟨o,es,ep,ho,r⟩:=hm
  exact ⟨o,es,ep,k _ o (Ne.symm hL) ho,r⟩
 ·refine (I.hok b u e).stay (fun c v hc q=>k c v ?_ q) (fun _ q=>q) fun _ _ q=>q
  rcases hc with z | z
  ·rw [z]; exact nit b u e
  ·exact nit c _ z
theorem Inv.tok (I:Inv X pins σ H s) (t:Nat):Inv X pins σ H { s with toks:=t }:=I.un (h':=s.heap) (t':=t) Un.refl I.hok
theorem Inv.kept {t':Nat} (I:Inv X pins σ H s) (k:∀ b u,s.heap.get? b=some u→h'.get? b=some u):Inv X pins σ H { s with heap:=h',toks:=t' }:=I.un (Un.kept k) (I.hok.kept k)
theorem Inv.laid {a:Addr} {o:HO} {t':Nat} (I:Inv X pins σ H s) (k:∀ b u,s.heap.get? b=some u→h'.get? b=some u) (hp:s.heap.objs.size ≤ a) (new:ObjOk X.prog X.w (upd H a o) h' a o) :
  Inv X pins σ (upd H a o) { s with heap:=h',toks:=t' }:=I.un (Un.laid k hp (I.hok.fresh hp)) (I.hok.laid k hp new)
theorem Inv.write {x e:Addr} {o:HO} {t':Nat} (I:Inv X pins σ H s) (mu:Mut (H x)) (he:e=x ∨ H e=some (.own x)) (k:∀ b u,b ≠ e→s.heap.get? b=some u→h'.get? b=some u) (heo:∃ u,h'.get? e=some u)
  (new:ObjOk X.prog X.w (upd H x o) h' x o):Inv X pins σ (upd H x o) { s with heap:=h',toks:=t' }:=I.un (Un.write mu he k heo) (I.hok.write mu he k heo new)
theorem Inv.pins_of {pins':List (Addr × Obj)} (I:Inv X pins σ H s) (h:∀ p ∈ pins',s.heap.get? p.1=some p.2∧H p.1=none∧p.1 ≠ X.env.locals∧p.1 ∉ X.fs∧∀ v,p.2.data ≠ .cell v):Inv X pins' σ H s :=
 ⟨I.ok,I.os,I.bare,I.base,I.loc,I.cell,I.free,I.freeC,fun p hp=>(List.mem_append.mp hp).elim (fun z=>I.pin p (List.mem_append_left _ z)) (h p),I.hok,I.len⟩
theorem nodup_ix {N:List Str} (hN:N.Nodup) {i j:Nat} {x:Str} (a:N[i]?=some x) (b:N[j]?=some x):i=j:=by
 obtain ⟨h1,e1⟩:=List.getElem?_eq_some_iff.mp a
 obtain ⟨h2,e2⟩:=List.getElem?_eq_some_iff.mp b
 exact (List.getElem_inj hN).mp (e1.trans e2.symm)
theorem store_ok2 {M:Model} {A:Around} {E:Value→Shared→Prop} {i:Nat} {x:Str} {v:V} {u:Value} {Q:Unit→Shared→Prop} (I:Inv X pins σ H s) (hN:X.N.Nodup) (hi:X.N[i]?=some x) (hx:Loc X.env.scope x) (r:RelV v u)
  (h:∀ s',Inv X pins (σ.set i (some v)) H s'→(∃ a,Heap.SameBut a s.heap s'.heap∧(a=X.env.locals ∨ X.env.cells.lookup x=some a))→Q () s') (hf:X.fn x=true ∨ X.env.scope.names.lookup x=some .local:=by first | exact .inl rfl | exact .inr rfl | assumption):wpAny M A (storeName X.env x u) Q E s:=by
 obtain ⟨m,hn,hl⟩:=id I.loc
 have hcls:(X.env.scope.kind == .class || (X.env.scope.kind == .module && X.env.locals != X.env.globals))=false:=by rw [I.ok.kind]; rfl
 have hiσ:i < σ.length:=by rw [I.len]; exact (List.getElem?_eq_some_iff.mp hi).1
 have cne:=I.cne
 have tracked:∀ {a:Addr} {h':Heap},(∃ o,s.heap.get? a=some o∧H a=none)→Heap.SameBut a s.heap h'→HOk X.prog X.w H h':=fun {a h'} ha hs b ob e=>by
  obtain ⟨_,_,hfree⟩:=ha
  refine (I.hok b ob e).stay (fun c w' hc q=>(hs.2 c ?_).trans q) (fun _ q=>q) fun _ _ q=>q
  rintro rfl
  rcases hc with rfl | hc
  ·rw [hfree] at e; cases e
  ·rw [hfree] at hc; cases hc
 rcases hx with hk | hk
 ·refine wpAny_storeName_local hk hn (fun h' hn' hs=>?_) hcls
  obtain ⟨oL,_,_,hoL,_⟩:=id hn
  refine h _ ⟨I.ok,I.os,I.bare,⟨fun b o e n hb hx=>?_,fun b o e n hb hx=>?_,I.base.free,fun b o e hx=>?_,I.base.tups,I.base.frzs,I.base.tbls⟩,⟨_,hn',fun j y v' e1 e2 e3=>?_⟩,fun y c e=>?_,I.free,I.freeC,fun p hp=>?_,tracked ⟨oL,hoL,I.free⟩ hs,by simpa using I.len⟩ ⟨_,hs,.inl rfl⟩
  ·exact (hs.2 b (Nat.ne_of_lt (Nat.lt_of_lt_of_le (Heap.lt_size e) I.ok.above))).trans (I.base.keep b o e n hb hx)
  ·obtain ⟨sl,e1⟩:=I.base.slot b o e n hb hx
   exact ⟨sl,(hs.2 b (Nat.ne_of_lt (Nat.lt_of_lt_of_le (Heap.lt_size e) I.ok.above))).trans e1⟩
  ·obtain ⟨o',e1⟩:=I.base.there b o e hx
   exact ⟨o',(hs.2 b (Nat.ne_of_lt (Nat.lt_of_lt_of_le (Heap.lt_size e) I.ok.above))).trans e1⟩
  ·by_cases hj:j=i
   ·subst hj
    rw [hi] at e1; cases e1
    rw [List.getElem?_set_self hiσ] at e2
    cases e2
    exact ⟨u,r,.inl ⟨hk,by simp⟩⟩
   ·rw [List.getElem?_set_ne (Ne.symm hj)] at e2
    obtain ⟨u',r',q⟩:=hl j y v' e1 e2 e3
    refine ⟨u',r',?_⟩
    rcases q with ⟨k,e⟩ | ⟨k,c,e,z⟩
    ·refine .inl ⟨k,?_⟩
     have:y ≠ x:=fun e=>hj (nodup_ix hN e1 (e ▸ hi))
     simp [this,e]
    ·exact .inr ⟨k,c,e,z.sameBut hs (cne y c e)⟩
  ·obtain ⟨w',z⟩:=I.cell y c e
   exact ⟨w',z.sameBut hs (cne y c e)⟩
  ·obtain ⟨e,n,ne,nf,d⟩:=I.pin p hp
   exact ⟨(hs.2 p.1 ne).trans e,n,ne,nf,d⟩
 ·have hfn:X.fn x=true:=by
   rcases hf with z | z
   ·exact z
   ·rw [z] at hk; cases hk
  obtain ⟨c,hc⟩:=I.ok.has x (.inl hk)
  obtain ⟨w',z⟩:=I.cell x c hc
  refine wpAny_storeName_cell I.ok.kind hk hc z (fun h' hc' hs=>?_)
  obtain ⟨oc,hoc,hocd⟩:=id z
  refine h { s with heap:=h' } ⟨I.ok,I.os,I.bare,⟨fun b o e n hb hx=>?_,fun b o e n hb hx=>?_,I.base.free,fun b o e hx=>?_,I.base.tups,I.base.frzs,I.base.tbls⟩,⟨m,hn.sameBut hs (Ne.symm (cne x c hc)),fun j y v' e1 e2 e3=>?_⟩,fun y c' e=>?_,I.free,I.freeC,fun p hp=>?_,tracked ⟨oc,hoc,I.freeC x c hc⟩ hs,by simpa using I.len⟩ ⟨c,hs,.inr hc⟩
  ·exact (hs.2 b (Nat.ne_of_lt (Nat.lt_of_lt_of_le (Heap.lt_size e) (I.ok.cab x c hfn hc)))).trans (I.base.keep b o e n hb hx)
  ·obtain ⟨sl,e1⟩:=I.base.slot b o e n hb hx
   exact ⟨sl,(hs.2 b (Nat.ne_of_lt (Nat.lt_of_lt_of_le (Heap.lt_size e) (I.ok.cab x c hfn hc)))).trans e1⟩
  ·obtain ⟨o',e1⟩:=I.base.there b o e hx
   exact ⟨o',(hs.2 b (Nat.ne_of_lt (Nat.lt_of_lt_of_le (Heap.lt_size e) (I.ok.cab x c hfn hc)))).trans e1⟩
  ·by_cases hj:j=i
   ·subst hj
    rw [hi] at e1; cases e1
    rw [List.getElem?_set_self hiσ] at e2
    cases e2
    exact ⟨u,r,.inr ⟨.inl hk,c,hc,hc'⟩⟩
   ·rw [List.getElem?_set_ne (Ne.symm hj)] at e2
    obtain ⟨u',r',q⟩:=hl j y v' e1 e2 e3
    refine ⟨u',r',?_⟩
    rcases q with q | ⟨k,c',e,z'⟩
    ·exact .inl q
    ·refine .inr ⟨k,c',e,z'.sameBut hs ?_⟩
     rintro rfl
     exact hj (nodup_ix hN e1 (I.ok.inj _ _ _ e hc ▸ hi))
  ·by_cases hcc:c'=c
   ·subst hcc; exact ⟨_,hc'⟩
   ·obtain ⟨w2,z2⟩:=I.cell y c' e
    exact ⟨w2,z2.sameBut hs hcc⟩
  ·obtain ⟨e,n,ne,nf,d⟩:=I.pin p hp
   refine ⟨(hs.2 p.1 ?_).trans e,n,ne,nf,d⟩
   intro q
   rw [q,hoc] at e
   have q':oc=p.2:=Option.some.inj e
   exact d w' (by rw [← q']; exact hocd)
theorem store_ok {M:Model} {A:Around} {E:Value→Shared→Prop} {i:Nat} {x:Str} {v:V} {u:Value} {Q:Unit→Shared→Prop} (I:Inv X pins σ H s) (hN:X.N.Nodup) (hi:X.N[i]?=some x) (hx:Loc X.env.scope x) (r:RelV v u)
  (h:∀ s',Inv X pins (σ.set i (some v)) H s'→Q () s') (hf:X.fn x=true ∨ X.env.scope.names.lookup x=some .local:=by first | exact .inl rfl | exact .inr rfl | assumption):wpAny M A (storeName X.env x u) Q E s :=
 store_ok2 I hN hi hx r (fun s' I' _=>h s' I') hf
theorem Inv.call' {s':Shared} {ch:List Addr} (I:Inv X pins σ H s) (ho:s'.os=s.os) (u:Un (frs X.stack) ch H H' s.heap s'.heap) (hok:HOk X.prog X.w H' s'.heap) (hg:AllBare s'.gens)
  (hch:∀ b ∈ ch,(b ∈ X.ex ∨ X.s₀.heap.objs.size ≤ b)∧b ≠ X.env.locals∧(∀ x c,X.env.cells.lookup x=some c→c ≠ b)∧∀ p ∈ X.pn ++ pins,p.1 ≠ b):Inv X pins σ H' s':=by
 obtain ⟨h',g',d',t',o'⟩:=s'
 have e:o'=s.os:=ho
 subst e
 exact I.call (g':=g') (t':=t') (d':=d') u hok hg hch
end
abbrev XK:=Value→Option Addr→Hp→Prop
abbrev St:=List (Option V)
abbrev VK:=V→Hp→Prop
abbrev TE:=St→Hp→VK→Prop
abbrev TT:=St→Hp→(Bool→Hp→Prop)→Prop
abbrev TA:=St→Hp→(List V→Hp→Prop)→Prop
structure Ends where
 nx:St→Hp→Prop
 rt:VK
 bk:St→Hp→Prop:=fun _ _=>False
 ct:St→Hp→Prop:=fun _ _=>False
abbrev TS:=Ends→St→Hp→Prop
def EP (X:Cx) (pins:List (Addr × Obj)) (σ:St) (Q:VK) (u:Value) (s':Shared):Prop:=∃ v H',Inv X pins σ H' s'∧RelV v u∧Q v H'
def TP (X:Cx) (pins:List (Addr × Obj)) (σ:St) (Q:Bool→Hp→Prop) (b:Bool) (s':Shared):Prop:=∃ H',Inv X pins σ H' s'∧Q b H'
def AP (X:Cx) (pins:List (Addr × Obj)) (σ:St) (Q:List V→Hp→Prop) (us:List Value) (s':Shared):Prop:=∃ vs H',Inv X pins σ H' s'∧Vals vs us∧Q vs H'
def SP (X:Cx) (pins:List (Addr × Obj)) (D:Ends) (f:Flow) (s':Shared):Prop :=
 match f with
 | .next=>∃ σ' H',Inv X pins σ' H' s'∧D.nx σ' H'
 | .brk=>∃ σ' H',Inv X pins σ' H' s'∧D.bk σ' H'
 | .cont=>∃ σ' H',Inv X pins σ' H' s'∧D.ct σ' H'
 | .ret u=>∃ v σ' H',Inv X pins σ' H' s'∧RelV v u∧D.rt v H'
def PE (X:Cx) (e:Expr) (t:TE):Prop :=
 ∀ (pins:List (Addr × Obj)) (s:Shared) (σ:St) (H:Hp) (Q:VK),Inv X pins σ H s→t σ H Q→wpAny (model X.prog X.w) X.A (eval e X.env) (EP X pins σ Q) X.xe s
def PT (X:Cx) (e:Expr) (t:TT):Prop :=
 ∀ (pins:List (Addr × Obj)) (s:Shared) (σ:St) (H:Hp) (Q:Bool→Hp→Prop),Inv X pins σ H s→t σ H Q→wpAny (model X.prog X.w) X.A (isTrue e X.env (eval e X.env)) (TP X pins σ Q) X.xe s
def PW (X:Cx) (e:Expr) (t:TT):Prop :=
 ∀ (whole:Sem Value) (pins:List (Addr × Obj)) (s:Shared) (σ:St) (H:Hp) (Q:Bool→Hp→Prop),Inv X pins σ H s→t σ H Q→wpAny (model X.prog X.w) X.A (isTrue e X.env whole) (TP X pins σ Q) X.xe s
theorem PW.pt {X:Cx} {e:Expr} {t:TT} (h:PW X e t):PT X e t:=h _
def PA (X:Cx) (es:List Expr) (t:TA):Prop :=
 ∀ (pos:Pos) (pins:List (Addr × Obj)) (s:Shared) (σ:St) (H:Hp) (Q:List V→Hp→Prop),Inv X pins σ H s→t σ H Q→wpAny (model X.prog X.w) X.A (spliced (backTo pos (starEach es X.env))) (AP X pins σ Q) X.xe s
def PS (X:Cx) (st:Stmt) (t:TS):Prop :=
 ∀ (pins:List (Addr × Obj)) (s:Shared) (σ:St) (H:Hp) (D:Ends),Inv X pins σ H s→t D σ H→wpAny (model X.prog X.w) X.A (exec st X.env) (SP X pins D) X.xe s
def PSs (X:Cx) (st:List Stmt) (t:TS):Prop :=
 ∀ (pins:List (Addr × Obj)) (s:Shared) (σ:St) (H:Hp) (D:Ends),Inv X pins σ H s→t D σ H→wpAny (model X.prog X.w) X.A (execs st X.env) (SP X pins D) X.xe s
theorem thn {α:Type} {t:Sem α} {Q Q':α→Shared→Prop} {M:Model} {A:Around} {E:Value→Shared→Prop} {s:Shared} (h:wpAny M A t Q E s) (hQ:∀ a s,Q a s→Q' a s):wpAny M A t Q' E s:=wpAny_mono h hQ fun _ _ x=>x
end L2
namespace L2
open PySem PySem.Spec PyProof.Rows
section
variable {X:Cx}
def tVar (i:Nat):TE:=fun σ H Q=>∃ v,σ[i]?=some (some v)∧Q v H
def tC (v:V):TE:=fun _ H Q=>Q v H
theorem pe_var {i:Nat} {x:Str} {pos:Pos} (hN:X.N[i]?=some x) (hv:Vis X.env.scope x) (hd:(x == ("__debug__":Str))=false:=by decide) (hcd:(x == ("__classdict__":Str))=false:=by decide):PE X (.Name x pos) (tVar i):=by
 intro pins s σ H Q I h
 obtain ⟨v,e,h⟩:=h
 obtain ⟨m,hn,hl⟩:=I.loc
 obtain ⟨u,r,l⟩:=hl i x v hN e hv
 have fin:EP X pins σ Q u s:=⟨v,H,I,r,h⟩
 rcases l with ⟨hk,hm⟩ | ⟨hk,c,hc,hcell⟩
 ·exact wpAny_Name (wpAny_loadName_local I.ok.kind hk hn hm fin) hd
 ·rcases hk with hk | hk
  ·exact wpAny_Name (wpAny_loadName_cell I.ok.kind hk hc hcell fin) hd
  ·exact wpAny_Name (wpAny_loadName_free I.ok.kind hk hc hcell fin hcd) hd
theorem pe_int {i j pos}:PE X (.Constant (.int i) j pos) (tC (.int i)):=fun _ _ _ H _ I h=>wpAny_Constant_int ⟨.int i,H,I.tok _,⟨_,rfl⟩,h⟩
theorem pe_bl {b j pos}:PE X (.Constant (.bool b) j pos) (tC (.bl b)):=fun _ _ _ H _ I h=>Constant_bool ⟨.bl b,H,I,rfl,h⟩
theorem pe_non {j pos}:PE X (.Constant .none j pos) (tC .non):=fun _ _ _ H _ I h=>Constant_none ⟨.non,H,I,rfl,h⟩
theorem pe_str {x j pos}:PE X (.Constant (.str x) j pos) (tC (.str x)):=fun _ _ _ H _ I h=>Calls.Constant_str ⟨.str x,H,I.tok _,⟨_,rfl⟩,h⟩
def Gl (X:Cx) (x:Str):Prop:=X.env.kindOf x=some .globalImplicit
theorem ld_glob {E:Value→Shared→Prop} {pins:List (Addr × Obj)} {s:Shared} {σ:St} {H:Hp} {x:Str} {u:Value} {pos:Pos} {Q:Value→Shared→Prop} (I:Inv X pins σ H s) (hg:Gl X x) (hm:X.mg x=some u) (h:Q u s)
  (hd:(x == ("__debug__":Str))=false:=by decide):wpAny (model X.prog X.w) X.A (eval (.Name x pos) X.env) Q E s :=
 Calls.Name_function_global I.ok.kind hg (Calls.loadGlobal_global (by rw [I.ok.glob]; exact I.mod.glob.keeps I.bk) hm h) hd
theorem ld_blt {E:Value→Shared→Prop} {pins:List (Addr × Obj)} {s:Shared} {σ:St} {H:Hp} {x:Str} {u:Value} {pos:Pos} {Q:Value→Shared→Prop} (I:Inv X pins σ H s) (hg:Gl X x) (hm:X.mg x=none) (hv:bootBuiltins x=some u) (h:Q u s)
  (hn:x ≠ "__name__":=by decide) (hd:(x == ("__debug__":Str))=false:=by decide):wpAny (model X.prog X.w) X.A (eval (.Name x pos) X.env) Q E s:=by
 obtain ⟨mb,h1,h2⟩:=I.mod.blt
 exact Calls.Name_function_global I.ok.kind hg (Calls.loadGlobal_builtin (by rw [I.ok.glob]; exact I.mod.glob.keeps I.bk) hm (by rw [I.ok.blt]; exact h1.keeps I.bk) ((h2 x hn).trans hv) h) hd
theorem pe_bltn {x:Str} {v:V} {u:Value} {pos:Pos} (hg:Gl X x) (hm:X.mg x=none) (hv:bootBuiltins x=some u) (r:RelV v u) (hn:x ≠ "__name__":=by decide) (hd:(x == ("__debug__":Str))=false:=by decide):PE X (.Name x pos) (tC v) :=
 fun _ _ _ H _ I h=>ld_blt I hg hm hv ⟨v,H,I,r,h⟩ hn hd
variable {a b:Expr} {ta tb:TE} {pos:Pos}
def PC (X:Cx) (op:CmpOp) (a b:Expr) (t:TE):Prop :=
 ∀ (pins:List (Addr × Obj)) (s:Shared) (σ:St) (H:Hp) (Q:VK),Inv X pins σ H s→t σ H Q →
  wpAny (model X.prog X.w) X.A (eval a X.env) (fun v s₁=>wpAny (model X.prog X.w) X.A (eval b X.env) (fun u s₂=>wpAny (model X.prog X.w) X.A (compareOp op v u) (EP X pins σ Q) X.xe s₂) X.xe s₁) X.xe s
theorem nobehind (b:Expr) {op:CmpOp} (h:op ≠ .In) (h2:op ≠ .NotIn):behindInMarks op b=false:=by
 have e1:(op == CmpOp.In)=false:=by cases op <;> first | rfl | exact absurd rfl h
 have e2:(op == CmpOp.NotIn)=false:=by cases op <;> first | rfl | exact absurd rfl h2
 cases b <;> simp [behindInMarks,e1,e2]
def tIsN (ta:TE):TE:=fun σ H Q=>ta σ H fun x H1=>Q (.bl (decide (x=.non))) H1
def tNotN (ta:TE):TE:=fun σ H Q=>ta σ H fun x H1=>Q (.bl (!decide (x=.non))) H1
theorem RelV.none_iff {x:V} {v:Value} (r:RelV x v):(v == Value.none)=decide (x=.non):=by
 cases x with
 | non=>cases r; rfl
 | bl _=>cases r; rfl
 | int _=>obtain ⟨t,rfl⟩:=r; rfl
 | str _=>obtain ⟨t,rfl⟩:=r; rfl
 | byt _=>obtain ⟨t,rfl⟩:=r; rfl
 | flt _=>obtain ⟨t,rfl⟩:=r; rfl
 | ref _=>cases r; rfl
 | ty _=>cases r; rfl
theorem pc_isN {j pos'} (ha:PE X a ta):PC X .Is a (.Constant .none j pos') (tIsN ta):=by
 intro pins s σ H Q I h
 refine thn (ha pins s σ H _ I h) fun v s1 ⟨x,H1,I1,r1,q1⟩=>?_
 exact Constant_none (is_none_gen ⟨.bl _,H1,I1,by rw [r1.none_iff]; rfl,q1⟩)
theorem pc_notN {j pos'} (ha:PE X a ta):PC X .IsNot a (.Constant .none j pos') (tNotN ta):=by
 intro pins s σ H Q I h
 refine thn (ha pins s σ H _ I h) fun v s1 ⟨x,H1,I1,r1,q1⟩=>?_
 exact Constant_none (isnot_none_gen ⟨.bl _,H1,I1,by rw [r1.none_iff]; rfl,q1⟩)
def tB (t:TE):TT:=fun σ H Q=>t σ H fun x H1=>∃ c,x=.bl c∧Q c H1
theorem pe_cmp {op:CmpOp} {t:TE} (h:PC X op a b t) (h1:behindInMarks op b=false:=by first | exact nobehind _ (by decide) (by decide) | rfl):PE X (.Compare a [op] [b] pos) t:=fun pins s σ H Q I hw=>wpAny_Compare1 (h pins s σ H Q I hw) h1
theorem pt_cmp {op:CmpOp} {t:TE} (h:PC X op a b t) (h1:behindInMarks op b=false:=by first | exact nobehind _ (by decide) (by decide) | rfl):PT X (.Compare a [op] [b] pos) (tB t):=by
 intro pins s σ H Q I hw
 refine wpAny_isTrue_Compare1 (thn (h pins s σ H _ I hw) fun v s1 h1=>thn h1 fun u s2 h2=>thn h2 fun c s3 ⟨x,H1,I1,r1,q1⟩=>?_) h1
 obtain ⟨d,rfl,q⟩:=q1
 cases r1
 exact wpAny_truthy_bool ⟨H1,I1,q⟩
theorem pt_val {e:Expr} {t:TE} (h:PE X e t) (he:∀ whole,isTrue e X.env whole=(do let v ← whole; standAt e.pos; holding [v] (truthy v)):=by intro _; rfl):PT X e (tB t):=by
 intro pins s σ H Q I hw
 refine isTrue_plain (thn (h pins s σ H _ I hw) fun v s1 ⟨x,H1,I1,r1,q1⟩=>?_) (he _)
 obtain ⟨d,rfl,q⟩:=q1
 cases r1
 exact wpAny_truthy_bool ⟨H1,I1,q⟩
variable {tA tB':TT} {rest:List Expr}
def tAnd (t u:TT):TT:=fun σ H Q=>t σ H fun c H1=>if c=true then u σ H1 Q else Q false H1
def tOr (t u:TT):TT:=fun σ H Q=>t σ H fun c H1=>if c=true then Q true H1 else u σ H1 Q
def tNot (t:TT):TT:=fun σ H Q=>t σ H fun c H1=>Q (!c) H1
theorem pw_and1 (ha:PT X a tA):PW X (.BoolOp .And [a] pos) tA:=by
 intro wh pins s σ H Q I h
 refine isTrue_and (thn (ha pins s σ H Q I h) fun c s1 e=>?_)
 cases c with
 | true=>exact isTrue_and_nil e
 | false=>exact e
theorem pw_or1 (ha:PT X a tA):PW X (.BoolOp .Or [a] pos) tA:=by
 intro wh pins s σ H Q I h
 refine isTrue_or (thn (ha pins s σ H Q I h) fun c s1 e=>?_)
 cases c with
 | false=>exact isTrue_or_nil e
 | true=>exact e
theorem pw_and (ha:PT X a tA) (hb:PW X (.BoolOp .And (b :: rest) pos) tB'):PW X (.BoolOp .And (a :: b :: rest) pos) (tAnd tA tB'):=by
 intro wh pins s σ H Q I h
 refine isTrue_and (thn (ha pins s σ H _ I h) fun c s1 ⟨H1,I1,q1⟩=>?_)
 cases c with
 | true=>exact hb wh pins s1 σ H1 Q I1 q1
 | false=>exact ⟨H1,I1,q1⟩
theorem pw_or (ha:PT X a tA) (hb:PW X (.BoolOp .Or (b :: rest) pos) tB'):PW X (.BoolOp .Or (a :: b :: rest) pos) (tOr tA tB'):=by
 intro wh pins s σ H Q I h
 refine isTrue_or (thn (ha pins s σ H _ I h) fun c s1 ⟨H1,I1,q1⟩=>?_)
 cases c with
 | true=>exact ⟨H1,I1,q1⟩
 | false=>exact hb wh pins s1 σ H1 Q I1 q1
theorem pt_not (ha:PT X a tA):PT X (.UnaryOp .Not a pos) (tNot tA):=by
 intro pins s σ H Q I h
 exact isTrue_not (ha pins s σ H (fun c H1=>Q (!c) H1) I h)
def tAndV (ta tb:TE):TE:=fun σ H Q=>ta σ H fun x H1=>∃ c,x=.bl c∧if c=true then tb σ H1 Q else Q (.bl false) H1
def tOrV (ta tb:TE):TE:=fun σ H Q=>ta σ H fun x H1=>∃ c,x=.bl c∧if c=true then Q (.bl true) H1 else tb σ H1 Q
def tNotV (ta:TE):TE:=fun σ H Q=>ta σ H fun x H1=>∃ c,x=.bl c∧Q (.bl (!c)) H1
theorem pe_one {op} {t:TE} (h:PE X a t):PE X (.BoolOp op [a] pos) t:=fun pins s σ H Q I hw=>BoolOp_one (h pins s σ H Q I hw)
theorem pe_and (ha:PE X a ta) (hb:PE X (.BoolOp .And (b :: rest) pos) tb):PE X (.BoolOp .And (a :: b :: rest) pos) (tAndV ta tb):=by
 intro pins s σ H Q I h
 refine BoolOp_and (thn (ha pins s σ H _ I h) fun v s1 ⟨x,H1,I1,r1,q1⟩=>?_)
 obtain ⟨c,rfl,q1⟩:=q1
 cases r1
 refine wpAny_truthy_bool ?_
 cases c with
 | true=>exact hb pins s1 σ H1 Q I1 q1
 | false=>exact ⟨.bl false,H1,I1,rfl,q1⟩
theorem pe_or (ha:PE X a ta) (hb:PE X (.BoolOp .Or (b :: rest) pos) tb):PE X (.BoolOp .Or (a :: b :: rest) pos) (tOrV ta tb):=by
 intro pins s σ H Q I h
 refine BoolOp_or (thn (ha pins s σ H _ I h) fun v s1 ⟨x,H1,I1,r1,q1⟩=>?_)
 obtain ⟨c,rfl,q1⟩:=q1
 cases r1
 refine wpAny_truthy_bool ?_
 cases c with
 | false=>exact hb pins s1 σ H1 Q I1 q1
 | true=>exact ⟨.bl true,H1,I1,rfl,q1⟩
theorem pe_not (ha:PE X a ta):PE X (.UnaryOp .Not a pos) (tNotV ta):=by
 intro pins s σ H Q I h
 refine UnaryOp_ (thn (ha pins s σ H _ I h) fun v s1 ⟨x,H1,I1,r1,q1⟩=>?_)
 obtain ⟨c,rfl,q1⟩:=q1
 cases r1
 exact not_of (wpAny_truthy_bool ⟨.bl (!c),H1,I1,rfl,q1⟩)
def tIf (t:TT) (ta tb:TE):TE:=fun σ H Q=>t σ H fun c H1=>if c=true then ta σ H1 Q else tb σ H1 Q
theorem pe_ifExp {c:Expr} (hc:PT X c tA) (ha:PE X a ta) (hb:PE X b tb):PE X (.IfExp c a b pos) (tIf tA ta tb):=by
 intro pins s σ H Q I h
 refine wpAny_IfExp (thn (hc pins s σ H _ I h) fun d s1 ⟨H1,I1,q1⟩=>?_)
 cases d with
 | true=>exact ha pins s1 σ H1 Q I1 q1
 | false=>exact hb pins s1 σ H1 Q I1 q1
end
end L2
namespace L2
open PySem PySem.Spec PyProof.Rows
def SqL (K:PySem.W.Frag) (H:Hp) (a:Addr) (xs:List V):Prop :=
 Rd H a (.lst xs) ∨
  ∃ (o:Obj) (its:Array Value) (n:Nat),K.lookup a=some o∧o.cls=.type "list"∧o.dict=none∧o.data=.seq its n∧its.size ≤ sizeLine∧Vals xs its.toList
def SqT (K:PySem.W.Frag) (H:Hp) (a:Addr) (xs:List V):Prop :=
 Rd H a (.tup xs) ∨
  ∃ (o:Obj) (its:Array Value) (n:Nat),K.lookup a=some o∧o.cls=.type "tuple"∧o.data=.seq its n∧its.size ≤ sizeLine∧Vals xs its.toList
def absV:Value→Option V
 | .none=>some .non
 | .bool b=>some (.bl b)
 | .int i _=>some (.int i)
 | .str x _=>some (.str x)
 | .bytes b _=>some (.byt b)
 | .float b _=>some (.flt b)
 | .ref a=>some (.ref a)
 | .type n=>some (.ty n)
 | _=>none
theorem RelV.abs {x:V} {u:Value} (r:RelV x u):absV u=some x:=by
 cases x with
 | non=>cases r; rfl
 | bl _=>cases r; rfl
 | int _=>obtain ⟨t,rfl⟩:=r; rfl
 | str _=>obtain ⟨t,rfl⟩:=r; rfl
 | byt _=>obtain ⟨t,rfl⟩:=r; rfl
 | flt _=>obtain ⟨t,rfl⟩:=r; rfl
 | ref _=>cases r; rfl
 | ty _=>cases r; rfl
theorem RelV.inj {x y:V} {u:Value} (r:RelV x u) (q:RelV y u):x=y:=Option.some.inj (r.abs.symm.trans q.abs)
theorem Vals.inj:∀ {xs ys:List V} {us:List Value},Vals xs us→Vals ys us→xs=ys
 | _,_,_,.nil,.nil=>rfl
 | _,_,_,.cons r t,.cons r' t'=>by rw [r.inj r',Vals.inj t t']
section
variable {X:Cx} {pins:List (Addr × Obj)} {σ:St} {H:Hp} {s:Shared} {a:Addr} {xs ys:List V}
theorem SqL.of {K:PySem.W.Frag} (h:H a=some (.lst xs)):SqL K H a xs:=.inl (.inl h)
theorem SqT.of {K:PySem.W.Frag} (h:H a=some (.tup xs)):SqT K H a xs:=.inl (.inl h)
theorem Inv.list (I:Inv X pins σ H s) (h:SqL X.K H a xs):∃ its:List Value,Vals xs its∧PlainL s.heap a its.toArray∧xs.length ≤ sizeLine:=by
 rcases h with h | ⟨o,its,n,hk,hc,hd,hs,hz,r⟩
 ·obtain ⟨z,its,n,r,e⟩:=h.ok I.hok
  exact ⟨its,r,⟨_,n,e,rfl,rfl,rfl⟩,z⟩
 ·refine ⟨its.toList,r,⟨o,n,I.kIn a o hk,hc,hd,by simpa using hs⟩,?_⟩
  have e:=r.length
  simp only [Array.length_toList] at e
  omega
theorem Inv.tuple (I:Inv X pins σ H s) (h:SqT X.K H a xs):∃ its:List Value,Vals xs its∧IsTup s.heap a its.toArray∧xs.length ≤ sizeLine:=by
 rcases h with h | ⟨o,its,n,hk,hc,hs,hz,r⟩
 ·obtain ⟨z,its,r,p⟩:=h.ok I.hok
  exact ⟨its,r,p,z⟩
 ·refine ⟨its.toList,r,⟨o,I.kIn a o hk,hc,n,by simpa using hs⟩,?_⟩
  have e:=r.length
  simp only [Array.length_toList] at e
  omega
theorem Inv.list_inj (I:Inv X pins σ H s) (h:SqL X.K H a xs) (h':SqL X.K H a ys):xs=ys:=by
 obtain ⟨its,r,⟨o,n,e,_,_,d⟩,_⟩:=I.list h
 obtain ⟨its',r',⟨o',n',e',_,_,d'⟩,_⟩:=I.list h'
 rw [e] at e'; cases e'
 rw [d] at d'
 injection d' with d1 _
 have:its=its':=by simpa using congrArg Array.toList d1
 subst this
 exact r.inj r'
theorem Inv.tuple_inj (I:Inv X pins σ H s) (h:SqT X.K H a xs) (h':SqT X.K H a ys):xs=ys:=by
 obtain ⟨its,r,⟨o,e,_,n,d⟩,_⟩:=I.tuple h
 obtain ⟨its',r',⟨o',e',_,n',d'⟩,_⟩:=I.tuple h'
 rw [e] at e'; cases e'
 rw [d] at d'
 injection d' with d1 _
 have:its=its':=by simpa using congrArg Array.toList d1
 subst this
 exact r.inj r'
end
abbrev Cx.wish (X:Cx) (E:Value→Shared→Prop):Cx:={ X with xe:=E }
abbrev Cx.nox (X:Cx):Cx:=X.wish fun _ _=>False
theorem Cx.Ok.wish {X:Cx} (ok:X.Ok) (E:Value→Shared→Prop):(X.wish E).Ok :=
 ⟨ok.mod,ok.kind,ok.glob,ok.blt,ok.above,ok.inj,ok.has,ok.cab,ok.hd,ok.frames,ok.stk,ok.exf,ok.bs,ok.bsz,ok.noex,ok.exfs,ok.funs,ok.frf⟩
theorem Cx.Ok.unwish {X:Cx} {E:Value→Shared→Prop} (ok:(X.wish E).Ok):X.Ok :=
 ⟨ok.mod,ok.kind,ok.glob,ok.blt,ok.above,ok.inj,ok.has,ok.cab,ok.hd,ok.frames,ok.stk,ok.exf,ok.bs,ok.bsz,ok.noex,ok.exfs,ok.funs,ok.frf⟩
section
variable {X:Cx} {pins:List (Addr × Obj)} {σ:St} {H:Hp} {s:Shared} {E:Value→Shared→Prop}
theorem Inv.wish (I:Inv X pins σ H s) (E:Value→Shared→Prop):Inv (X.wish E) pins σ H s:=⟨I.ok.wish E,I.os,I.bare,I.base,I.loc,I.cell,I.free,I.freeC,I.pin,I.hok,I.len⟩
theorem Inv.unwish (I:Inv (X.wish E) pins σ H s):Inv X pins σ H s:=⟨I.ok.unwish,I.os,I.bare,I.base,I.loc,I.cell,I.free,I.freeC,I.pin,I.hok,I.len⟩
theorem SP.unwish {D:Ends} {f:Flow} {s':Shared} (h:SP (X.wish E) pins D f s'):SP X pins D f s':=by
 cases f with
 | next=>obtain ⟨σ',H',I,q⟩:=h; exact ⟨σ',H',I.unwish,q⟩
 | brk=>obtain ⟨σ',H',I,q⟩:=h; exact ⟨σ',H',I.unwish,q⟩
 | cont=>obtain ⟨σ',H',I,q⟩:=h; exact ⟨σ',H',I.unwish,q⟩
 | ret u=>obtain ⟨v,σ',H',I,r,q⟩:=h; exact ⟨v,σ',H',I.unwish,r,q⟩
theorem PSs.nox {st:List Stmt} {t:TS} (h:PSs X.nox st t):PSs X st t:=fun pins s σ H D I hw =>
 wpAny_mono (h pins s σ H D (I.wish _) hw) (fun _ _ q=>q.unwish) fun _ _ z=>False.elim z
end
section
variable {X:Cx} {st:Stmt} {rest:List Stmt} {t u:TS} {e:Expr} {te:TE} {pos:Pos}
def tNext:TS:=fun D σ H=>D.nx σ H
def tSeq (t u:TS):TS:=fun D σ H=>t { D with nx:=u D } σ H
theorem pss_nil:PSs X [] tNext:=fun _ _ σ H _ I h=>wpAny_execs_nil ⟨σ,H,I,h⟩
theorem pss_cons (h1:PS X st t) (h2:PSs X rest u):PSs X (st :: rest) (tSeq t u):=by
 intro pins s σ H D I h
 refine wpAny_execs_cons (thn (h1 pins s σ H { D with nx:=u D } I h) fun f s1 q=>?_)
 cases f with
 | next =>
  obtain ⟨σ',H',I',q⟩:=q
  exact h2 pins s1 σ' H' D I' q
 | ret v=>exact q
 | brk=>exact q
 | cont=>exact q
theorem pss_one (h1:PS X st t):PSs X [st] t:=by
 intro pins s σ H D I h
 refine wpAny_execs_cons (thn (h1 pins s σ H D I h) fun f s1 q=>?_)
 cases f with
 | next=>exact wpAny_execs_nil q
 | ret v=>exact q
 | brk=>exact q
 | cont=>exact q
theorem Inv.quiet {pins:List (Addr × Obj)} {σ:St} {H:Hp} {s:Shared} (I:Inv X pins σ H s):interactive X.env=false:=by simp [interactive,I.ok.kind]
def tDrop (te:TE):TS:=fun D σ H=>te σ H fun _ H1=>D.nx σ H1
theorem ps_expr (he:PE X e te) (hs:swapsWith e none pos.line X.env=pure false:=by rfl):PS X (.Expr e pos) (tDrop te):=by
 intro pins s σ H D I h
 exact wpAny_Expr_any (thn (he pins s σ H _ I h) fun v s1 ⟨x,H1,I1,r1,q1⟩=>⟨σ,H1,I1,q1⟩) I.quiet hs
def tRet (te:TE):TS:=fun D σ H=>te σ H D.rt
theorem ps_ret (he:PE X e te):PS X (.Return (some e) pos) (tRet te):=by
 intro pins s σ H D I h
 exact wpAny_Return_some (thn (he pins s σ H _ I h) fun v s1 ⟨x,H1,I1,r1,q1⟩=>⟨x,σ,H1,I1,r1,q1⟩)
def tIfS (c:TT) (t u:TS):TS:=fun D σ H=>c σ H fun b H1=>if b=true then t D σ H1 else u D σ H1
theorem ps_if {c:Expr} {a b:List Stmt} {tc:TT} (hc:PT X c tc) (ha:PSs X a t) (hb:PSs X b u):PS X (.If c a b pos) (tIfS tc t u):=by
 intro pins s σ H D I h
 refine wpAny_If (thn (hc pins s σ H _ I h) fun d s1 ⟨H1,I1,q1⟩=>?_)
 cases d with
 | true=>exact ha pins s1 σ H1 D I1 q1
 | false=>exact hb pins s1 σ H1 D I1 q1
end
abbrev TG:=V→St→Hp→(St→Hp→Prop)→Prop
abbrev TGs:=List V→St→Hp→(St→Hp→Prop)→Prop
def PG (X:Cx) (target:Expr) (t:TG):Prop :=
 ∀ (pins:List (Addr × Obj)) (s:Shared) (σ:St) (H:Hp) (v:V) (u:Value) (Q:St→Hp→Prop),Inv X pins σ H s→RelV v u→t v σ H Q →
  wpAny (model X.prog X.w) X.A (assign target X.env u) (fun _ s'=>∃ σ' H',Inv X pins σ' H' s'∧Q σ' H') X.xe s
def PGs (X:Cx) (ts:List Expr) (t:TGs):Prop :=
 ∀ (pins:List (Addr × Obj)) (s:Shared) (σ:St) (H:Hp) (vs:List V) (us:List Value) (Q:St→Hp→Prop),Inv X pins σ H s→Vals vs us→t vs σ H Q →
  wpAny (model X.prog X.w) X.A (assignInOrder ((assignEach ts X.env).map (·.2)) us) (fun _ s'=>∃ σ' H',Inv X pins σ' H' s'∧Q σ' H') X.xe s
abbrev TSet:=V→V→V→Hp→(Hp→Prop)→Prop
def PSet (X:Cx) (t:TSet):Prop :=
 ∀ (pins:List (Addr × Obj)) (s:Shared) (σ:St) (H:Hp) (o i v:V) (ov iv u:Value) (Q:Hp→Prop),Inv X pins σ H s→RelV o ov→RelV i iv→RelV v u→t o i v H Q →
  wpAny (model X.prog X.w) X.A (setItem ov iv u) (fun _ s'=>∃ H',Inv X pins σ H' s'∧Q H') X.xe s
section
variable {X:Cx} {pos:Pos}
def gName (i:Nat):TG:=fun v σ H Q=>Q (σ.set i (some v)) H
theorem pg_name {i:Nat} {x:Str} (hN:X.N.Nodup) (hi:X.N[i]?=some x) (hx:Loc X.env.scope x) (hf:X.fn x=true ∨ X.env.scope.names.lookup x=some .local:=by first | exact .inl rfl | exact .inr rfl | assumption):PG X (.Name x pos) (gName i):=by
 intro pins s σ H v u Q I r h
 exact wpAny_assign_Name (store_ok I hN hi hx r (fun s' I'=>⟨_,H,I',h⟩) hf)
def gNil:TGs:=fun vs σ H Q=>vs=[]∧Q σ H
def gCons (t:TG) (u:TGs):TGs:=fun vs σ H Q=>∃ v r,vs=v :: r∧t v σ H fun σ' H'=>u r σ' H' Q
theorem pgs_nil:PGs X [] gNil:=by
 intro pins s σ H vs us Q I r h
 obtain ⟨e,h⟩:=h
 subst e
 cases r
 exact assignInOrder_nil ⟨σ,H,I,h⟩
theorem pgs_cons {e:Expr} {es:List Expr} {t:TG} {u:TGs} (h1:PG X e t) (h2:PGs X es u)
  (hs:(assignEach (e :: es) X.env).map (·.2)=assign e X.env :: (assignEach es X.env).map (·.2):=by rfl):PGs X (e :: es) (gCons t u):=by
 intro pins s σ H vs us Q I r h
 obtain ⟨v,vr,e1,h⟩:=h
 subst e1
 cases r with
 | cons r rr =>
  rw [hs]
  refine assignInOrder_cons (thn (h1 pins s σ H _ _ _ I r h) fun _ s1 ⟨σ1,H1,I1,q1⟩=>?_)
  exact h2 pins s1 σ1 H1 _ _ Q I1 rr q1
def gTup (K:PySem.W.Frag) (n:Nat) (t:TGs):TG:=fun v σ H Q=>∃ a xs,v=.ref a∧SqT K H a xs∧xs.length=n∧t xs σ H Q
theorem pg_tup {es:List Expr} {k:Nat} {t:TGs} {n:Nat} (hc:X.calm=true) (h:PGs X es t)
  (hn:(assignEach es X.env).length=n:=by rfl) (hst:(assignEach es X.env).findIdx? (·.1)=none:=by rfl):PG X (.Tuple es k pos) (gTup X.K n t):=by
 intro pins s σ H v u Q I r hw
 obtain ⟨a,xs,e1,hq,hl,hw⟩:=hw
 subst e1
 cases r
 obtain ⟨its,rv,ht,hz⟩:=I.tuple hq
 refine assign_Tuple_tuple (I.ok.hd hc) ht (by simp [hn,← hl,rv.length]) hst fun h' hx=>?_
 have I1:Inv X pins σ H { s with heap:=h' }:=I.kept (t':=s.toks) fun b o e=>hx b o (Nat.ne_of_lt (Heap.lt_size e)) e
 exact h pins _ σ H xs _ Q I1 (by simpa using rv) hw
def gSub (to ti:TE) (t:TSet):TG:=fun v σ H Q=>to σ H fun o H1=>ti σ H1 fun i H2=>t o i v H2 fun H3=>Q σ H3
theorem pg_sub {o i:Expr} {to ti:TE} {t:TSet} (ho:PE X o to) (hi:PE X i ti) (hs:PSet X t)
  (ha:∀ v,assign (.Subscript o i pos) X.env v=(do
   let ov ← holding [v] (eval o X.env)
   let iv ← holding [v,ov] (eval i X.env)
   standAt pos
   holding [v,ov,iv] (setItem ov iv v)
   release [v,ov,iv] []):=by intro _; rfl):PG X (.Subscript o i pos) (gSub to ti t):=by
 intro pins s σ H v u Q I r h
 rw [ha]
 refine wpAny_bind (wpAny_holding (thn (ho pins s σ H _ I h) fun ov s1 ⟨x,H1,I1,r1,q1⟩=>?_))
 refine wpAny_bind (wpAny_holding (thn (hi pins s1 σ H1 _ I1 q1) fun iv s2 ⟨y,H2,I2,r2,q2⟩=>?_))
 refine wpAny_bind (wpAny_standAt (wpAny_bind (wpAny_holding (thn (hs pins s2 σ H2 x y v ov iv u _ I2 r1 r2 r q2) fun _ s3 ⟨H3,I3,q3⟩=>?_))))
 exact wpAny_release ⟨σ,H3,I3,q3⟩
def tAsg (te:TE) (g:TG):TS:=fun D σ H=>te σ H fun x H1=>g x σ H1 D.nx
theorem ps_asg {tg e:Expr} {te:TE} {g:TG} (he:PE X e te) (hg:PG X tg g) (hs:swapsWithSole [tg] e pos.line X.env=pure false:=by rfl) (hw:swappedStores [tg] e X.env=pure none:=by rfl)
  (h1:(assignEach [tg] X.env).map (·.2)=[assign tg X.env]:=by rfl):PS X (.Assign [tg] e pos) (tAsg te g):=by
 intro pins s σ H D I h
 refine wpAny_Assign_stores (thn (he pins s σ H _ I h) fun v s1 ⟨x,H1,I1,r1,q1⟩=>?_) hs hw
 rw [h1]
 exact thn (hg pins s1 σ H1 x v _ I1 r1 q1) fun _ s2 q=>q
theorem ps_set {i:Nat} {x:Str} {e:Expr} {te:TE} {pos':Pos} (hN:X.N.Nodup) (hi:X.N[i]?=some x) (hx:Loc X.env.scope x) (he:PE X e te) (hs:swapsWith e (some (.Name x pos')) pos.line X.env=pure false:=by rfl) (hf:X.fn x=true ∨ X.env.scope.names.lookup x=some .local:=by first | exact .inl rfl | exact .inr rfl | assumption) :
  PS X (.Assign [.Name x pos'] e pos) (tAsg te (gName i)):=by
 intro pins s σ H D I h
 refine wpAny_Assign_Name (thn (he pins s σ H _ I h) fun v s1 ⟨y,H1,I1,r1,q1⟩=>?_) hs
 exact store_ok I1 hN hi hx r1 (fun s2 I2=>⟨_,H1,I2,q1⟩) hf
end
section
variable {X:Cx} {pos:Pos}
def tWhile (c:TT) (tb:TS):TS:=fun D σ H=>∃ W:Nat→St→Hp→Prop,(∃ m,W m σ H)∧∀ m σ H,W m σ H →
 c σ H fun b H1=>if b=true then ∃ N:St→Hp→Prop,(∀ σ' H',N σ' H'→∃ m',m' < m∧W m' σ' H')∧tb { D with nx:=N,ct:=N,bk:=D.nx } σ H1 else D.nx σ H1
theorem ps_while {c:Expr} {body:List Stmt} {tc:TT} {tb:TS} (hp:PassesOwn (model X.prog X.w) X.A X.env X.xe) (hc:PT X c tc) (hb:PSs X body tb):PS X (.While c body [] pos) (tWhile tc tb):=by
 intro pins s σ H D I h
 obtain ⟨W,⟨m0,w0⟩,turn⟩:=h
 refine wpAny_While (codeAny_whileLoop (fun n s'=>∃ σ' H',Inv X pins σ' H' s'∧W n σ' H') ?_ m0 ⟨σ,H,I,w0⟩)
 rintro n s1 ⟨σ1,H1,I1,w1⟩
 refine wpAny_passesOwn hp (thn (hc pins s1 σ1 H1 _ I1 (turn n σ1 H1 w1)) fun b s2 ⟨H2,I2,q2⟩=>?_)
 cases b with
 | true =>
  obtain ⟨N,hN,q2⟩:=q2
  rw [if_pos rfl]
  refine wpAny_passesOwn hp (thn (hb pins s2 σ1 H2 _ I2 q2) fun f s3 q3=>?_)
  cases f with
  | next =>
   obtain ⟨σ3,H3,I3,n3⟩:=q3
   obtain ⟨m',hm,w3⟩:=hN σ3 H3 n3
   exact ⟨m',hm,σ3,H3,I3,w3⟩
  | cont =>
   obtain ⟨σ3,H3,I3,n3⟩:=q3
   obtain ⟨m',hm,w3⟩:=hN σ3 H3 n3
   exact ⟨m',hm,σ3,H3,I3,w3⟩
  | brk=>exact q3
  | ret v=>exact q3
 | false =>
  rw [if_neg Bool.false_ne_true]
  exact wpAny_execs_nil ⟨σ1,H2,I2,q2⟩
end
structure It where
 go:Nat→Hp→Prop
 yld:Nat→Hp→V→Hp→Prop
 stop:Nat→Hp→Prop
def FpOk (X:Cx) (pins:List (Addr × Obj)) (H:Hp) (b:Addr):Prop :=
 H b=none∧b ≠ X.env.locals∧b ∉ X.fs∧(b ∈ X.ex ∨ X.s₀.heap.objs.size ≤ b)∧(∀ x c,X.env.cells.lookup x=some c→c ≠ b)∧∀ p ∈ X.pn ++ pins,p.1 ≠ b
theorem Inv.fpOk {X:Cx} {pins:List (Addr × Obj)} {σ:St} {H H':Hp} {s:Shared} {b:Addr} (I:Inv X pins σ H s) (hb:s.heap.objs.size ≤ b) (hn:H' b=none):FpOk X pins H' b:=by
 refine ⟨hn,Nat.ne_of_gt (Nat.lt_of_lt_of_le I.lt hb),I.nofs hb,.inr (Nat.le_trans I.sz hb),fun x c e z=>?_,fun p hp z=>?_⟩
 ·obtain ⟨v,q⟩:=I.cell x c e
  exact absurd (Nat.lt_of_lt_of_le q.lt (by rw [z]; exact hb)) (Nat.lt_irrefl _)
 ·exact absurd (Nat.lt_of_lt_of_le (Heap.lt_size (I.pin p hp).1) (by rw [z]; exact hb)) (Nat.lt_irrefl _)
structure Turn (P:Program) (w:World) (K:PySem.W.Frag) (tg:Expr) (J:It) (fp:List Addr) (it:Addr) (tn:Nat→Heap→Prop):Prop where
 mem:it ∈ fp
 obj:∀ i h,tn i h→∀ b ∈ fp,∃ o,h.get? b=some o∧∀ v,o.data ≠ .cell v
 keep:∀ i h h',tn i h→(∀ b ∈ fp,∀ o,h.get? b=some o→h'.get? b=some o)→tn i h'
 item:∀ (X:Cx),X.prog=P→X.w=w→X.K=K→X.calm=true→∀ (i:Nat) (pins:List (Addr × Obj)) (s:Shared) (σ:St) (H:Hp) (E:Value→Shared→Prop),Inv X pins σ H s→(∀ b ∈ fp,FpOk X pins H b)→tn i s.heap→J.go i H →
  wpAny (model P w) X.A (pyNext (.ref it)) (fun r s1=>∃ u,r=some u ∧
   wpAny (model P w) X.A (letOwnedTupleGo tg (.ref it) u) (fun _ s2=>∃ x H',Inv X pins σ H' s2∧RelV x u∧J.yld i H x H'∧tn (i + 1) s2.heap∧∀ b ∈ fp,H' b=none) E s1) E s
 done:∀ (X:Cx),X.prog=P→X.w=w→X.K=K→X.calm=true→∀ (i:Nat) (pins:List (Addr × Obj)) (s:Shared) (σ:St) (H:Hp) (E:Value→Shared→Prop),Inv X pins σ H s→(∀ b ∈ fp,FpOk X pins H b)→tn i s.heap→J.stop i H →
  wpAny (model P w) X.A (pyNext (.ref it)) (fun r s1=>r=none∧Inv X pins σ H s1) E s
 self:∀ (A:Around) (i:Nat) (s:Shared) (Q:Value→Shared→Prop) (E:Value→Shared→Prop),tn i s.heap→Q (.ref it) s→wpAny (model P w) A (pyIter (.ref it)) Q E s
abbrev TI:=St→Hp→(It→Hp→Prop)→Prop
def PIE (X:Cx) (pins:List (Addr × Obj)) (σ:St) (tg:Expr) (R:It→Hp→Prop) (itv:Value) (s2:Shared):Prop :=
 ∃ (it:Addr) (fp:List Addr) (tn:Nat→Heap→Prop) (J:It) (H':Hp),itv=.ref it∧Inv X pins σ H' s2∧Turn X.prog X.w X.K tg J fp it tn∧tn 0 s2.heap∧(∀ b ∈ fp,FpOk X pins H' b)∧R J H'
def PI (X:Cx) (tg iter:Expr) (wi:TI):Prop :=
 ∀ (pins:List (Addr × Obj)) (s:Shared) (σ:St) (H:Hp) (R:It→Hp→Prop),Inv X pins σ H s→wi σ H R →
  wpAny (model X.prog X.w) X.A (eval iter X.env) (fun v s1=>wpAny (model X.prog X.w) X.A (pyIter v) (PIE X pins σ tg R) X.xe s1) X.xe s
theorem go_of {M:Model} {A:Around} {E:Value→Shared→Prop} {s:Shared} {tg:Expr} {it:Addr} {u:Value} {o:Obj} {n:String} {vs:Array Value} {Q:Unit→Shared→Prop} (ho:s.heap.get? it=some o) (hc:o.cls=.type n) (hd:o.data=.fields vs)
  (hn:["enumerate","zip","dict_itemiterator","dict_reverseitemiterator","odict_iterator","itertools.zip_longest","itertools.pairwise"].contains n=false) (hQ:Q () s):wpAny M A (letOwnedTupleGo tg (.ref it) u) Q E s:=by
 unfold letOwnedTupleGo
 cases tg <;> first
  | exact wpAny_pure hQ
  | (cases u <;> first
    | exact wpAny_pure hQ
    | (refine wpAny_bind (wpAny_load ho ?_)
       rw [hc,hd]
       show wpAny M A (if (["enumerate","zip","dict_itemiterator","dict_reverseitemiterator","odict_iterator","itertools.zip_longest","itertools.pairwise"].contains n && vs[0]? == some (rawInt _))=true then _ else _) Q E s
       rw [if_neg (by intro h; rw [hn,Bool.false_and] at h; cases h)]
       exact wpAny_pure hQ))
def Itl (K:PySem.W.Frag) (a:Addr):It :=
 ⟨fun i H=>∃ xs x,SqL K H a xs∧xs[i]?=some x,fun i H x H'=>H'=H∧∀ xs,SqL K H a xs→xs[i]?=some x,fun i H=>∃ xs,SqL K H a xs∧xs.length ≤ i⟩
def Itt (K:PySem.W.Frag) (a:Addr):It :=
 ⟨fun i H=>∃ xs x,SqT K H a xs∧xs[i]?=some x,fun i H x H'=>H'=H∧∀ xs,SqT K H a xs→xs[i]?=some x,fun i H=>∃ xs,SqT K H a xs∧xs.length ≤ i⟩
def Itr (lo:Int) (n:Nat):It:=⟨fun i _=>i < n,fun i H x H'=>H'=H∧x=.int (lo + i),fun i _=>n ≤ i⟩
theorem turn_list {P:Program} {w:World} {K:PySem.W.Frag} {tg:Expr} (a it:Addr):Turn P w K tg (Itl K a) [it] it (fun i h=>h.IsListIter it a i) where
 mem:=by simp
 obj:=fun i h st b hb=>by
  have e:b=it:=by simpa using hb
  subst e
  obtain ⟨o,e,c,d⟩:=st
  exact ⟨o,e,fun v z=>by rw [d] at z; cases z⟩
 keep:=fun i h h' st k=>st.at fun o e=>k it (by simp) o e
 item:=by
  intro X hP hw hK hc i pins s σ H E I hf st hg
  subst hP hw hK
  obtain ⟨xs,x,hq,hx⟩:=hg
  obtain ⟨its,rv,p,hz⟩:=I.list hq
  obtain ⟨u,hu,ru⟩:=rv.get hx
  obtain ⟨f0,f1,f2,f3,f4,f5⟩:=hf it (by simp)
  refine wpAny_pyNext_list_item st p.isList (x:=u) (by simpa using hu) fun h' st' sb=>?_
  have I1:Inv X pins σ H { s with heap:=h' }:=I.turned (t':=s.toks) (fun b o hb e=>(sb.2 b hb).trans e) f0 f1 f3 f4 f5
  obtain ⟨o,e,c,d⟩:=id st'
  exact ⟨u,rfl,go_of (s:={ s with heap:=h' }) e c d (by decide) ⟨x,H,I1,ru,⟨rfl,fun ys hy=>by rw [I.list_inj hy hq]; exact hx⟩,st',fun b hb=>(hf b hb).1⟩⟩
 done:=by
  intro X hP hw hK hc i pins s σ H E I hf st hg
  subst hP hw hK
  obtain ⟨xs,hq,hx⟩:=hg
  obtain ⟨its,rv,p,hz⟩:=I.list hq
  obtain ⟨f0,f1,f2,f3,f4,f5⟩:=hf it (by simp)
  have hl:=rv.length
  exact wpAny_pyNext_list_end (I.ok.hd hc) st p.isList (by simp; omega) fun h' eb=>⟨rfl,I.turned (t':=s.toks) (fun b o hb e=>eb b o hb e) f0 f1 f3 f4 f5⟩
 self:=fun _ _ _ _ _ st h=>wpAny_pyIter_listiter st h
theorem turn_tuple {P:Program} {w:World} {K:PySem.W.Frag} {tg:Expr} (a it:Addr):Turn P w K tg (Itt K a) [it] it (fun i h=>h.IsTupleIter it a i) where
 mem:=by simp
 obj:=fun i h st b hb=>by
  have e:b=it:=by simpa using hb
  subst e
  obtain ⟨o,e,c,d⟩:=st
  exact ⟨o,e,fun v z=>by rw [d] at z; cases z⟩
 keep:=fun i h h' st k=>st.at fun o e=>k it (by simp) o e
 item:=by
  intro X hP hw hK hc i pins s σ H E I hf st hg
  subst hP hw hK
  obtain ⟨xs,x,hq,hx⟩:=hg
  obtain ⟨its,rv,p,hz⟩:=I.tuple hq
  obtain ⟨u,hu,ru⟩:=rv.get hx
  obtain ⟨f0,f1,f2,f3,f4,f5⟩:=hf it (by simp)
  refine wpAny_pyNext_tuple_item st (show s.heap.IsTuple a its.toArray from p) (x:=u) (by simpa using hu) fun h' st' sb=>?_
  have I1:Inv X pins σ H { s with heap:=h' }:=I.turned (t':=s.toks) (fun b o hb e=>(sb.2 b hb).trans e) f0 f1 f3 f4 f5
  obtain ⟨o,e,c,d⟩:=id st'
  exact ⟨u,rfl,go_of (s:={ s with heap:=h' }) e c d (by decide) ⟨x,H,I1,ru,⟨rfl,fun ys hy=>by rw [I.tuple_inj hy hq]; exact hx⟩,st',fun b hb=>(hf b hb).1⟩⟩
 done:=by
  intro X hP hw hK hc i pins s σ H E I hf st hg
  subst hP hw hK
  obtain ⟨xs,hq,hx⟩:=hg
  obtain ⟨its,rv,p,hz⟩:=I.tuple hq
  obtain ⟨f0,f1,f2,f3,f4,f5⟩:=hf it (by simp)
  have hl:=rv.length
  exact wpAny_pyNext_tuple_end (I.ok.hd hc) st (show s.heap.IsTuple a its.toArray from p) (by simp; omega) fun h' eb=>⟨rfl,I.turned (t':=s.toks) (fun b o hb e=>eb b o hb e) f0 f1 f3 f4 f5⟩
 self:=fun _ _ _ _ _ st h=>wpAny_pyIter_tupleiter st h
theorem turn_range {P:Program} {w:World} {K:PySem.W.Frag} {tg:Expr} (it:Addr) (lo:Int) (n:Nat):Turn P w K tg (Itr lo n) [it] it (fun i h=>IsRangeIter h it (lo + (i:Nat) * 1) ((n:Int) - (i:Nat)) 1) where
 mem:=by simp
 obj:=fun i h st b hb=>by
  have e:b=it:=by simpa using hb
  subst e
  exact ⟨_,st,fun v z=>by
   have z':Data.fields _=Data.cell v:=z
   cases z'⟩
 keep:=fun i h h' st k=>k it (by simp) _ st
 item:=by
  intro X hP hw hK hc i pins s σ H E I hf st hg
  subst hP hw hK
  obtain ⟨f0,f1,f2,f3,f4,f5⟩:=hf it (by simp)
  have W:=Walks.range (prog:=X.prog) (w:=X.w) (I.ok.hd hc) it lo 1 n
  refine W.item i s _ _ hg st fun v h' tk hv st' kk=>?_
  obtain ⟨t,rfl⟩:=hv
  have I1:Inv X pins σ H { s with heap:=h',toks:=tk }:=I.turned (fun b o hb e=>kk b o (by simpa using hb) e) f0 f1 f3 f4 f5
  refine ⟨_,rfl,go_of (s:={ s with heap:=h',toks:=tk }) (n:="range_iterator") st' rfl rfl (by decide) ⟨.int (lo + i),H,I1,⟨t,?_⟩,⟨rfl,rfl⟩,st',fun b hb=>(hf b hb).1⟩⟩
  rw [Int.mul_one]
 done:=by
  intro X hP hw hK hc i pins s σ H E I hf st hg
  subst hP hw hK
  obtain ⟨f0,f1,f2,f3,f4,f5⟩:=hf it (by simp)
  exact wpAny_pyNext_range_end (I.ok.hd hc) st (by have:n ≤ i:=hg; omega) fun h' eb=>⟨rfl,I.turned (t':=s.toks) (fun b o hb e=>eb b o hb e) f0 f1 f3 f4 f5⟩
 self:=fun _ _ _ _ _ st h=>wpAny_pyIter_rangeiter st h
end L2
namespace L2
open PySem PySem.Spec PyProof.Rows
section
variable {X:Cx} {tg:Expr}
def iList (K:PySem.W.Frag) (tl:TE):TI:=fun σ H R=>tl σ H fun x H1=>∃ a,x=.ref a∧(∃ xs,SqL K H1 a xs)∧R (Itl K a) H1
def iTup (K:PySem.W.Frag) (tl:TE):TI:=fun σ H R=>tl σ H fun x H1=>∃ a,x=.ref a∧(∃ xs,SqT K H1 a xs)∧R (Itt K a) H1
theorem pi_list {l:Expr} {tl:TE} (hl:PE X l tl):PI X tg l (iList X.K tl):=by
 intro pins s σ H R I h
 refine thn (hl pins s σ H _ I h) fun v s1 ⟨x,H1,I1,r1,q1⟩=>?_
 obtain ⟨a,e,⟨xs,hq⟩,q⟩:=q1
 subst e
 cases r1
 obtain ⟨its,rv,p,hz⟩:=I1.list hq
 refine wpAny_pyIter_list p.isList ?_
 refine ⟨s1.heap.objs.size,[s1.heap.objs.size],_,_,H1,rfl,I1.kept (t':=s1.toks) fun b o e=>Heap.get?_push_of_some _ e,turn_list a _,⟨_,Heap.get?_push_size _ rfl,rfl,rfl⟩,fun b hb=>?_,q⟩
 have e:b=s1.heap.objs.size:=by simpa using hb
 subst e
 exact I1.fpOk (Nat.le_refl _) (I1.hok.fresh (Nat.le_refl _))
theorem pi_tup {l:Expr} {tl:TE} (hl:PE X l tl):PI X tg l (iTup X.K tl):=by
 intro pins s σ H R I h
 refine thn (hl pins s σ H _ I h) fun v s1 ⟨x,H1,I1,r1,q1⟩=>?_
 obtain ⟨a,e,⟨xs,hq⟩,q⟩:=q1
 subst e
 cases r1
 obtain ⟨its,rv,p,hz⟩:=I1.tuple hq
 refine wpAny_pyIter_tuple (show s1.heap.IsTuple a its.toArray from p) ?_
 refine ⟨s1.heap.objs.size,[s1.heap.objs.size],_,_,H1,rfl,I1.kept (t':=s1.toks) fun b o e=>Heap.get?_push_of_some _ e,turn_tuple a _,⟨_,Heap.get?_push_size _ rfl,rfl,rfl⟩,fun b hb=>?_,q⟩
 have e:b=s1.heap.objs.size:=by simpa using hb
 subst e
 exact I1.fpOk (Nat.le_refl _) (I1.hok.fresh (Nat.le_refl _))
theorem range_it {pins:List (Addr × Obj)} {σ:St} {H:Hp} {s:Shared} {R:It→Hp→Prop} {E:Value→Shared→Prop} {lo hi:Int} {t u v:Tok} {tk:Nat} (I:Inv X pins σ H s) (h1:-(2 ^ 62) ≤ lo) (h2:lo < 2 ^ 62) (h3:-(2 ^ 62) ≤ hi) (h4:hi < 2 ^ 62)
  (q:R (Itr lo (hi - lo).toNat) H):wpAny (model X.prog X.w) X.A (pyIter (.ref s.heap.objs.size)) (PIE X pins σ tg R) E { s with heap:=s.heap.push { cls:=.type "range",data:=.fields #[.int lo t,.int hi u,.int 1 v] },toks:=tk }:=by
 refine wpAny_pyIter_range (IsRange.new ..) (small_one h1 h2 h3 h4) ?_
 have I1:Inv X pins σ H { s with heap:=s.heap.push { cls:=.type "range",data:=.fields #[.int lo t,.int hi u,.int 1 v] },toks:=tk }:=I.kept fun b o e=>Heap.get?_push_of_some _ e
 refine ⟨(s.heap.push { cls:=.type "range",data:=.fields #[.int lo t,.int hi u,.int 1 v] }).objs.size,[(s.heap.push { cls:=.type "range",data:=.fields #[.int lo t,.int hi u,.int 1 v] }).objs.size],_,_,H,rfl,
  I1.kept (t':=tk) fun b o e=>Heap.get?_push_of_some _ e,turn_range _ lo (hi - lo).toNat,?_,fun b hb=>?_,q⟩
 ·have e1:lo + ((0:Nat):Int) * 1=lo:=by simp
  have e2:(((hi - lo).toNat:Nat):Int) - ((0:Nat):Int)=Builtin.Range.rangeSize lo hi 1:=by rw [rangeSize_one]; split <;> omega
  show IsRangeIter _ _ (lo + ((0:Nat):Int) * 1) ((((hi - lo).toNat:Nat):Int) - ((0:Nat):Int)) 1
  rw [e1,e2]
  exact Heap.get?_push_size _ rfl
 ·have e:b=(s.heap.push { cls:=.type "range",data:=.fields #[.int lo t,.int hi u,.int 1 v] }).objs.size:=by simpa using hb
  subst e
  exact I1.fpOk (Nat.le_refl _) (I1.hok.fresh (Nat.le_refl _))
def iRng1 (ta:TA):TI:=fun σ H R=>ta σ H fun vs H1=>∃ j:Int,vs=[.int j]∧-(2 ^ 62) ≤ j∧j < 2 ^ 62∧R (Itr 0 j.toNat) H1
def iRng2 (ta:TA):TI:=fun σ H R=>ta σ H fun vs H1=>∃ i j:Int,vs=[.int i,.int j]∧(-(2 ^ 62) ≤ i∧i < 2 ^ 62∧-(2 ^ 62) ≤ j∧j < 2 ^ 62)∧R (Itr i (j - i).toNat) H1
theorem pi_range1 {a:Expr} {ta:TA} {p pos:Pos} (hg:Gl X "range") (hm:X.mg "range"=none) (ha:PA X [a] ta) (hs:starEach [a] X.env=[(false,eval a X.env)]:=by rfl):PI X tg (.Call (.Name "range" p) [a] [] pos) (iRng1 ta):=by
 intro pins s σ H R I h
 refine Call_ (ld_blt I hg hm boot_range (PyProof.Rows.callWith_type1 (thn (ha pos pins s σ H _ I h) fun us s1 ⟨vs,H1,I1,r1,q1⟩=>?_) hs rfl))
 obtain ⟨j,e,q1,q2,q⟩:=q1
 subst e
 cases r1 with
 | cons r rr =>
  cases rr
  obtain ⟨t,rfl⟩:=r
  exact call_range_1 (range_it I1 (by omega) (by omega) q1 q2 (by simpa using q))
theorem pi_range2 {a b:Expr} {ta:TA} {p pos:Pos} (hg:Gl X "range") (hm:X.mg "range"=none) (ha:PA X [a,b] ta) (hs:starEach [a,b] X.env=[(false,eval a X.env),(false,eval b X.env)]:=by rfl) (hs2:starEach [b] X.env=[(false,eval b X.env)]:=by rfl) :
  PI X tg (.Call (.Name "range" p) [a,b] [] pos) (iRng2 ta):=by
 intro pins s σ H R I h
 refine Call_ (ld_blt I hg hm boot_range (PyProof.Rows.callWith_type1 (thn (ha pos pins s σ H _ I h) fun us s1 ⟨vs,H1,I1,r1,q1⟩=>?_) (by rw [hs,hs2]) (by rw [hs2]; rfl)))
 obtain ⟨i,j,e,⟨q1,q2,q3,q4⟩,q⟩:=q1
 subst e
 cases r1 with
 | cons r rr =>
  cases rr with
  | cons r' rr =>
   cases rr
   obtain ⟨t,rfl⟩:=r
   obtain ⟨t',rfl⟩:=r'
   exact call_range_2 (range_it I1 q1 q2 q3 q4 q)
def tFor (wi:TI) (g:TG) (tb:TS):TS:=fun D σ H=>wi σ H fun J H1=>∃ W:Nat→Nat→St→Hp→Prop,(∃ m,W 0 m σ H1)∧∀ i m σ H,W i m σ H →
 (J.stop i H∧D.nx σ H) ∨ (J.go i H∧∃ N:St→Hp→Prop,(∀ σ' H',N σ' H'→∃ m',m' < m∧W (i + 1) m' σ' H')∧∀ x H',J.yld i H x H'→g x σ H' fun σ2 H2=>tb { D with nx:=N,ct:=N,bk:=D.nx } σ2 H2)
def pinsAt (fp:List Addr) (h:Heap):List (Addr × Obj):=fp.filterMap fun b=>(h.get? b).map fun o=>(b,o)
theorem mem_pinsAt {fp:List Addr} {h:Heap} {b:Addr} {o:Obj} (hb:b ∈ fp) (e:h.get? b=some o):(b,o) ∈ pinsAt fp h:=List.mem_filterMap.mpr ⟨b,hb,by rw [e]; rfl⟩
theorem of_pinsAt {fp:List Addr} {h:Heap} {p:Addr × Obj} (hp:p ∈ pinsAt fp h):p.1 ∈ fp∧h.get? p.1=some p.2:=by
 obtain ⟨b,hb,e⟩:=List.mem_filterMap.mp hp
 cases q:h.get? b with
 | none=>rw [q] at e; cases e
 | some o =>
  rw [q] at e
  have e':(b,o)=p:=Option.some.inj e
  subst e'
  exact ⟨hb,q⟩
theorem Inv.pinned {pins:List (Addr × Obj)} {σ:St} {H:Hp} {s:Shared} {fp:List Addr} (I:Inv X pins σ H s) (hf:∀ b ∈ fp,FpOk X pins H b) (ho:∀ b ∈ fp,∃ o,s.heap.get? b=some o∧∀ v,o.data ≠ .cell v):Inv X (pins ++ pinsAt fp s.heap) σ H s :=
 I.pins_of fun p hp=>(List.mem_append.mp hp).elim (fun z=>I.pin p (List.mem_append_right _ z)) fun z=>by
  obtain ⟨hb,e⟩:=of_pinsAt z
  obtain ⟨f0,f1,f2,_⟩:=hf p.1 hb
  obtain ⟨o,e',d⟩:=ho p.1 hb
  rw [e] at e'; cases e'
  exact ⟨e,f0,f1,f2,d⟩
theorem Inv.unpinned {pins pl:List (Addr × Obj)} {σ:St} {H:Hp} {s:Shared} (I:Inv X (pins ++ pl) σ H s):Inv X pins σ H s:=I.pins_of fun p hp=>I.pin p (List.mem_append_right _ (List.mem_append_left _ hp))
theorem ps_for {iter:Expr} {body:List Stmt} {wi:TI} {g:TG} {tb:TS} {pos:Pos} (hp:PassesOwn (model X.prog X.w) X.A X.env X.xe) (hc:X.calm=true) (hi:PI X tg iter wi) (hg:PG X tg g) (hb:PSs X body tb)
  (hs:∀ x,foldedSetIterable iter X.env x=pure x:=by intro _; rfl):PS X (.For tg iter body [] pos) (tFor wi g tb):=by
 intro pins s σ H D I h
 refine wpAny_For (thn (hi pins s σ H _ I h) fun v s1 h1=>thn h1 fun itv s2 h2=>?_) hs
 obtain ⟨it,fp,tn,J,H2,e,I2,T,st2,f2,W,⟨m0,w0⟩,turn⟩:=h2
 subst e
 -- what stays true of the iterator's objects through the loop
 have stat:∀ {H':Hp},(∀ b ∈ fp,H' b=none)→∀ b ∈ fp,FpOk X pins H' b:=fun hn b hb=>⟨hn b hb,(f2 b hb).2⟩
 refine codeAny_forLoop_any (fun n s'=>∃ i σ' H',Inv X pins σ' H' s'∧tn i s'.heap∧(∀ b ∈ fp,H' b=none)∧W i n σ' H') ?_ m0 ⟨0,σ,H2,I2,st2,fun b hb=>(f2 b hb).1,w0⟩
 rintro n s3 ⟨i,σ3,H3,I3,st3,fr3,w3⟩
 rcases turn i n σ3 H3 w3 with ⟨stop,qn⟩ | ⟨go,N,hN,step⟩
 ·refine wpAny_passesOwn hp (thn (T.done X rfl rfl rfl hc i pins s3 σ3 H3 X.xe I3 (stat fr3) st3 stop) fun r s4 ⟨hr,I4⟩=>?_)
  subst hr
  exact wpAny_execs_nil ⟨σ3,H3,I4,qn⟩
 ·refine wpAny_passesOwn hp (thn (T.item X rfl rfl rfl hc i pins s3 σ3 H3 X.xe I3 (stat fr3) st3 go) fun r s4 ⟨u,hr,h4⟩=>?_)
  subst hr
  refine wpAny_passesOwn hp (thn h4 fun _ s5 ⟨x,H5,I5,r5,y5,st5,fr5⟩=>?_)
  have I5':=I5.pinned (stat fr5) (T.obj _ _ st5)
  refine wpAny_passesOwn hp (thn (hg _ s5 σ3 H5 x u _ I5' r5 (step x H5 y5)) fun _ s6 ⟨σ6,H6,I6,q6⟩=>?_)
  refine wpAny_passesOwn hp (thn (hb _ s6 σ6 H6 _ I6 q6) fun f s7 q7=>?_)
  have again:∀ {σ7:St} {H7:Hp},Inv X (pins ++ pinsAt fp s5.heap) σ7 H7 s7→N σ7 H7→∃ m,m < n∧∃ i σ' H',Inv X pins σ' H' s7∧tn i s7.heap∧(∀ b ∈ fp,H' b=none)∧W i m σ' H':=fun {σ7 H7} I7 n7=>by
   obtain ⟨m',hm,w7⟩:=hN σ7 H7 n7
   refine ⟨m',hm,i + 1,σ7,H7,I7.unpinned,T.keep _ _ _ st5 fun b hb o e=>(I7.pin (b,o) (List.mem_append_right _ (List.mem_append_right _ (mem_pinsAt hb e)))).1,fun b hb=>?_,w7⟩
   obtain ⟨o,e,d⟩:=T.obj _ _ st5 b hb
   exact (I7.pin (b,o) (List.mem_append_right _ (List.mem_append_right _ (mem_pinsAt hb e)))).2.1
  cases f with
  | next=>obtain ⟨σ7,H7,I7,n7⟩:=q7; exact again I7 n7
  | cont=>obtain ⟨σ7,H7,I7,n7⟩:=q7; exact again I7 n7
  | brk=>obtain ⟨σ7,H7,I7,q7⟩:=q7; exact ⟨σ7,H7,I7.unpinned,q7⟩
  | ret v=>obtain ⟨x7,σ7,H7,I7,r7,q7⟩:=q7; exact ⟨x7,σ7,H7,I7.unpinned,r7,q7⟩
end
theorem for_list {K:PySem.W.Frag} {a:Addr} {xs:List V} {g:TG} {tb:TS} {D:Ends} {σ:St} {H:Hp} (Pv:Nat→St→Hp→Prop) (h0:Pv 0 σ H) (hl:∀ i σ H,i ≤ xs.length→Pv i σ H→SqL K H a xs)
  (hs:∀ i x σ H,xs[i]?=some x→Pv i σ H→g x σ H fun σ2 H2=>tb { D with nx:=Pv (i + 1),ct:=Pv (i + 1),bk:=D.nx } σ2 H2) (hd:∀ σ H,Pv xs.length σ H→D.nx σ H) :
  ∃ W:Nat→Nat→St→Hp→Prop,(∃ m,W 0 m σ H)∧∀ i m σ H,W i m σ H →
   ((Itl K a).stop i H∧D.nx σ H) ∨ ((Itl K a).go i H∧∃ N:St→Hp→Prop,(∀ σ' H',N σ' H'→∃ m',m' < m∧W (i + 1) m' σ' H')∧∀ x H',(Itl K a).yld i H x H'→g x σ H' fun σ2 H2=>tb { D with nx:=N,ct:=N,bk:=D.nx } σ2 H2):=by
 refine ⟨fun i m σ H=>m=xs.length - i∧i ≤ xs.length∧Pv i σ H,⟨xs.length,by simp,Nat.zero_le _,h0⟩,?_⟩
 rintro i m σ H ⟨rfl,hi,p⟩
 have q:=hl i σ H hi p
 by_cases hlt:i < xs.length
 ·refine .inr ⟨⟨xs,xs[i],q,by simp [hlt]⟩,Pv (i + 1),fun σ' H' p'=>⟨xs.length - (i + 1),by omega,rfl,hlt,p'⟩,fun x H' y=>?_⟩
  obtain ⟨e,y⟩:=y
  subst e
  exact hs i x σ _ (y xs q) p
 ·have e:i=xs.length:=by omega
  subst e
  exact .inl ⟨⟨xs,q,Nat.le_refl _⟩,hd σ H p⟩
theorem for_tup {K:PySem.W.Frag} {a:Addr} {xs:List V} {g:TG} {tb:TS} {D:Ends} {σ:St} {H:Hp} (Pv:Nat→St→Hp→Prop) (h0:Pv 0 σ H) (hl:∀ i σ H,i ≤ xs.length→Pv i σ H→SqT K H a xs)
  (hs:∀ i x σ H,xs[i]?=some x→Pv i σ H→g x σ H fun σ2 H2=>tb { D with nx:=Pv (i + 1),ct:=Pv (i + 1),bk:=D.nx } σ2 H2) (hd:∀ σ H,Pv xs.length σ H→D.nx σ H) :
  ∃ W:Nat→Nat→St→Hp→Prop,(∃ m,W 0 m σ H)∧∀ i m σ H,W i m σ H →
   ((Itt K a).stop i H∧D.nx σ H) ∨ ((Itt K a).go i H∧∃ N:St→Hp→Prop,(∀ σ' H',N σ' H'→∃ m',m' < m∧W (i + 1) m' σ' H')∧∀ x H',(Itt K a).yld i H x H'→g x σ H' fun σ2 H2=>tb { D with nx:=N,ct:=N,bk:=D.nx } σ2 H2):=by
 refine ⟨fun i m σ H=>m=xs.length - i∧i ≤ xs.length∧Pv i σ H,⟨xs.length,by simp,Nat.zero_le _,h0⟩,?_⟩
 rintro i m σ H ⟨rfl,hi,p⟩
 have q:=hl i σ H hi p
 by_cases hlt:i < xs.length
 ·refine .inr ⟨⟨xs,xs[i],q,by simp [hlt]⟩,Pv (i + 1),fun σ' H' p'=>⟨xs.length - (i + 1),by omega,rfl,hlt,p'⟩,fun x H' y=>?_⟩
  obtain ⟨e,y⟩:=y
  subst e
  exact hs i x σ _ (y xs q) p
 ·have e:i=xs.length:=by omega
  subst e
  exact .inl ⟨⟨xs,q,Nat.le_refl _⟩,hd σ H p⟩
theorem for_range {lo:Int} {n:Nat} {g:TG} {tb:TS} {D:Ends} {σ:St} {H:Hp} (Pv:Nat→St→Hp→Prop) (h0:Pv 0 σ H)
  (hs:∀ i σ H,i < n→Pv i σ H→g (.int (lo + i)) σ H fun σ2 H2=>tb { D with nx:=Pv (i + 1),ct:=Pv (i + 1),bk:=D.nx } σ2 H2) (hd:∀ σ H,Pv n σ H→D.nx σ H) :
  ∃ W:Nat→Nat→St→Hp→Prop,(∃ m,W 0 m σ H)∧∀ i m σ H,W i m σ H →
   ((Itr lo n).stop i H∧D.nx σ H) ∨ ((Itr lo n).go i H∧∃ N:St→Hp→Prop,(∀ σ' H',N σ' H'→∃ m',m' < m∧W (i + 1) m' σ' H')∧∀ x H',(Itr lo n).yld i H x H'→g x σ H' fun σ2 H2=>tb { D with nx:=N,ct:=N,bk:=D.nx } σ2 H2):=by
 refine ⟨fun i m σ H=>m=n - i∧i ≤ n∧Pv i σ H,⟨n,by simp,Nat.zero_le _,h0⟩,?_⟩
 rintro i m σ H ⟨rfl,hi,p⟩
 by_cases hlt:i < n
 ·refine .inr ⟨hlt,Pv (i + 1),fun σ' H' p'=>⟨n - (i + 1),by omega,rfl,hlt,p'⟩,fun x H' y=>?_⟩
  obtain ⟨e,y⟩:=y
  subst e y
  exact hs i σ _ hlt p
 ·have e:i=n:=by omega
  subst e
  exact .inl ⟨Nat.le_refl _,hd σ H p⟩
end L2
namespace L2
open PySem PySem.Spec PyProof.Rows
abbrev R2:=V→V→Hp→VK→Prop
def OpR (X:Cx) (f:Value→Value→Sem Value) (r:R2):Prop :=
 ∀ (pins:List (Addr × Obj)) (s:Shared) (σ:St) (H:Hp) (x y:V) (v u:Value) (Q:VK),Inv X pins σ H s→RelV x v→RelV y u→r x y H Q →
  wpAny (model X.prog X.w) X.A (f v u) (EP X pins σ Q) X.xe s
def UnR (X:Cx) (f:Value→Sem Value) (r:V→Hp→VK→Prop):Prop :=
 ∀ (pins:List (Addr × Obj)) (s:Shared) (σ:St) (H:Hp) (x:V) (v:Value) (Q:VK),Inv X pins σ H s→RelV x v→r x H Q →
  wpAny (model X.prog X.w) X.A (f v) (EP X pins σ Q) X.xe s
def CallR (X:Cx) (f:Value) (r:List V→Hp→VK→Prop):Prop :=
 ∀ (pins:List (Addr × Obj)) (s:Shared) (σ:St) (H:Hp) (xs:List V) (us:List Value) (Q:VK),Inv X pins σ H s→Vals xs us→r xs H Q →
  wpAny (model X.prog X.w) X.A (call f us) (EP X pins σ Q) X.xe s
def tOp (r:R2) (ta tb:TE):TE:=fun σ H Q=>ta σ H fun x H1=>tb σ H1 fun y H2=>r x y H2 Q
def tUn (r:V→Hp→VK→Prop) (ta:TE):TE:=fun σ H Q=>ta σ H fun x H1=>r x H1 Q
def rI (C:Int→Int→Prop) (g:Int→Int→V):R2:=fun x y H Q=>∃ i j,x=.int i∧y=.int j∧C i j∧Q (g i j) H
def rI0 (g:Int→Int→V):R2:=fun x y H Q=>∃ i j,x=.int i∧y=.int j∧Q (g i j) H
def rU (g:Int→V):V→Hp→VK→Prop:=fun x H Q=>∃ i,x=.int i∧Q (g i) H
section
variable {X:Cx} {a b c:Expr} {ta tb tc:TE} {pos:Pos}
theorem binT (ha:PE X a ta) (hb:PE X b tb) {pins:List (Addr × Obj)} {s:Shared} {σ:St} {H:Hp} {R:V→V→Hp→Prop} (I:Inv X pins σ H s)
  (h:ta σ H fun x H1=>tb σ H1 fun y H2=>R x y H2) {Q:Value→Shared→Prop} {f:Value→Value→Sem Value}
  (hf:∀ v u s2 x y H2,Inv X pins σ H2 s2→RelV x v→RelV y u→R x y H2→wpAny (model X.prog X.w) X.A (f v u) Q X.xe s2) :
  wpAny (model X.prog X.w) X.A (eval a X.env) (fun v s₁=>wpAny (model X.prog X.w) X.A (eval b X.env) (fun u s₂=>wpAny (model X.prog X.w) X.A (f v u) Q X.xe s₂) X.xe s₁) X.xe s:=by
 refine thn (ha pins s σ H _ I h) fun v s1 ⟨x,H1,I1,r1,q1⟩=>?_
 refine thn (hb pins s1 σ H1 _ I1 q1) fun u s2 ⟨y,H2,I2,r2,q2⟩=>?_
 exact hf v u s2 x y H2 I2 r1 r2 q2
theorem pe_op {op:Operator} {r:R2} (ho:OpR X (binaryOp op) r) (ha:PE X a ta) (hb:PE X b tb):PE X (.BinOp a op b pos) (tOp r ta tb):=by
 intro pins s σ H Q I h
 exact wpAny_BinOp (binT ha hb I h fun v u s2 x y H2 I2 rx ry q=>ho pins s2 σ H2 x y v u Q I2 rx ry q)
theorem pe_un {op:UnaryOp} {r:V→Hp→VK→Prop} (ho:UnR X (unaryOp op) r) (ha:PE X a ta):PE X (.UnaryOp op a pos) (tUn r ta):=by
 intro pins s σ H Q I h
 exact UnaryOp_ (thn (ha pins s σ H _ I h) fun v s1 ⟨x,H1,I1,r1,q1⟩=>ho pins s1 σ H1 x v Q I1 r1 q1)
theorem opI {f:Value→Value→Sem Value} {C:Int→Int→Prop} {g:Int→Int→Int}
  (rule:∀ (i j:Int) (t u:Tok) (s:Shared) (Q:Value→Shared→Prop) (E:Value→Shared→Prop),C i j→Q (.int (g i j) s.toks) { s with toks:=s.toks + 1 }→wpAny (model X.prog X.w) X.A (f (.int i t) (.int j u)) Q E s) :
  OpR X f (rI C fun i j=>.int (g i j)):=by
 intro pins s σ H x y v u Q I rx ry h
 obtain ⟨i,j,rfl,rfl,hc,q⟩:=h
 obtain ⟨t,rfl⟩:=rx
 obtain ⟨t',rfl⟩:=ry
 exact rule i j t t' s _ _ hc ⟨.int (g i j),H,I.tok _,⟨_,rfl⟩,q⟩
theorem opI0 {f:Value→Value→Sem Value} {g:Int→Int→Int}
  (rule:∀ (i j:Int) (t u:Tok) (s:Shared) (Q:Value→Shared→Prop) (E:Value→Shared→Prop),Q (.int (g i j) s.toks) { s with toks:=s.toks + 1 }→wpAny (model X.prog X.w) X.A (f (.int i t) (.int j u)) Q E s) :
  OpR X f (rI0 fun i j=>.int (g i j)):=by
 intro pins s σ H x y v u Q I rx ry h
 obtain ⟨i,j,rfl,rfl,q⟩:=h
 obtain ⟨t,rfl⟩:=rx
 obtain ⟨t',rfl⟩:=ry
 exact rule i j t t' s _ _ ⟨.int (g i j),H,I.tok _,⟨_,rfl⟩,q⟩
theorem opB0 {f:Value→Value→Sem Value} {g:Int→Int→Bool}
  (rule:∀ (i j:Int) (t u:Tok) (s:Shared) (Q:Value→Shared→Prop) (E:Value→Shared→Prop),Q (.bool (g i j)) s→wpAny (model X.prog X.w) X.A (f (.int i t) (.int j u)) Q E s) :
  OpR X f (rI0 fun i j=>.bl (g i j)):=by
 intro pins s σ H x y v u Q I rx ry h
 obtain ⟨i,j,rfl,rfl,q⟩:=h
 obtain ⟨t,rfl⟩:=rx
 obtain ⟨t',rfl⟩:=ry
 exact rule i j t t' s _ _ ⟨.bl (g i j),H,I,rfl,q⟩
def CDiv (i j:Int):Prop:=0 < j∧j < 1073741824
def CPow (i j:Int):Prop:=0 ≤ j∧j ≤ 1000000∧i.natAbs < 2 ^ 64
def CMul (i j:Int):Prop:=(-(2 ^ 64) < i∧i < 2 ^ 64) ∨ (-(2 ^ 64) < j∧j < 2 ^ 64)
theorem CMul.ok {i j:Int} (h:CMul i j):IntMulOk i j:=by
 rcases h with ⟨h1,h2⟩ | ⟨h1,h2⟩
 ·exact .of_left (intBits_le_64 h1 h2)
 ·exact .of_right (intBits_le_64 h1 h2)
theorem op_add:OpR X (binaryOp .Add) (rI0 fun i j=>.int (i + j)):=opI0 fun _ _ _ _ _ _ _ q=>add_int q
theorem op_sub:OpR X (binaryOp .Sub) (rI0 fun i j=>.int (i - j)):=opI0 fun _ _ _ _ _ _ _ q=>sub_int q
theorem op_mul:OpR X (binaryOp .Mult) (rI CMul fun i j=>.int (i * j)):=opI fun _ _ _ _ _ _ _ hc q=>mul_int q hc.ok
theorem op_fdiv:OpR X (binaryOp .FloorDiv) (rI CDiv fun i j=>.int (i / j)):=opI fun i j _ _ _ _ _ hc q=>by
 have h1:(0:Int) < j:=hc.1
 have h2:j < 1073741824:=hc.2
 exact floordiv_int (by omega) (by rw [Int.fdiv_eq_ediv_of_nonneg i (by omega)]; exact q) (.inl (PyProof.noPylong_small (by omega)))
theorem op_mod:OpR X (binaryOp .Mod) (rI (fun _ j=>0 < j) fun i j=>.int (i % j)):=opI fun i j _ _ _ _ _ hc q=>by
 have h1:(0:Int) < j:=hc
 exact mod_int' (by omega) (by rw [Int.fmod_eq_emod_of_nonneg i (by omega)]; exact q)
theorem op_pow:OpR X (binaryOp .Pow) (rI CPow fun i j=>.int (i ^ j.toNat)):=opI fun _ _ _ _ _ _ _ hc q=>pow_int_small hc.1 hc.2.1 hc.2.2 q
theorem unI {f:Value→Sem Value} {g:Int→Int}
  (rule:∀ (i:Int) (t:Tok) (s:Shared) (Q:Value→Shared→Prop) (E:Value→Shared→Prop),Q (.int (g i) s.toks) { s with toks:=s.toks + 1 }→wpAny (model X.prog X.w) X.A (f (.int i t)) Q E s) :
  UnR X f (rU fun i=>.int (g i)):=by
 intro pins s σ H x v Q I rx h
 obtain ⟨i,rfl,q⟩:=h
 obtain ⟨t,rfl⟩:=rx
 exact rule i t s _ _ ⟨.int (g i),H,I.tok _,⟨_,rfl⟩,q⟩
theorem un_neg:UnR X (unaryOp .USub) (rU fun i=>.int (-i)):=unI fun _ _ _ _ _ q=>neg_int q
end
def scal:V→V→Bool
 | .non,.non=>true | .non,.int _=>true | .int _,.non=>true | .non,.bl _=>true | .bl _,.non=>true | .non,.str _=>true | .str _,.non=>true
 | .int _,.int _=>true | .bl _,.bl _=>true | .str _,.str _=>true | .byt _,.byt _=>true
 | .int _,.str _=>true | .str _,.int _=>true | .bl _,.str _=>true | .str _,.bl _=>true
 | _,_=>false
def rEq:R2:=fun x y H Q=>scal x y=true∧Q (.bl (decide (x=y))) H
def rNe:R2:=fun x y H Q=>scal x y=true∧Q (.bl (!decide (x=y))) H
theorem dec_int {i j:Int}:decide (V.int i=V.int j)=(i == j):=by
 rw [Bool.eq_iff_iff]
 simp
theorem dec_bl {i j:Bool}:decide (V.bl i=V.bl j)=(i == j):=by
 rw [Bool.eq_iff_iff]
 simp
theorem dec_str {i j:Str}:decide (V.str i=V.str j)=(i == j):=by
 rw [Bool.eq_iff_iff]
 simp
theorem dec_byt {i j:Array UInt8}:decide (V.byt i=V.byt j)=(i.toList == j.toList):=by
 rw [Bool.eq_iff_iff]
 cases i
 cases j
 simp
section
variable {X:Cx} {a b c:Expr} {ta tb tc:TE} {pos:Pos}
theorem fin_bl {pins:List (Addr × Obj)} {σ:St} {H:Hp} {s:Shared} {Q:VK} {k k':Bool} (I:Inv X pins σ H s) (q:Q (.bl k) H) (e:k=k'):EP X pins σ Q (.bool k') s:=by
 subst e
 exact ⟨.bl k,H,I,rfl,q⟩
theorem op_eq:OpR X (compareOp .Eq) rEq:=by
 intro pins s σ H x y v u Q I rx ry h
 obtain ⟨hs,q⟩:=h
 cases x with
 | non =>
  cases rx
  cases y with
  | non=>cases ry; exact PySem.EqNone.eq_none_none (fin_bl I q (by simp))
  | bl j=>cases ry; exact PySem.EqNone.eq_none_bool (fin_bl I q (by simp))
  | int j=>obtain ⟨t',rfl⟩:=ry; exact PySem.EqNone.eq_none_int (fin_bl I q (by simp))
  | str j=>obtain ⟨t',rfl⟩:=ry; exact PySem.EqNone.eq_none_str (fin_bl I q (by simp))
  | _=>exact absurd (show false=true from hs) Bool.false_ne_true
 | bl i =>
  cases rx
  cases y with
  | non=>cases ry; exact PySem.EqNone.eq_bool_none (fin_bl I q (by simp))
  | bl j=>cases ry; exact eq_bool (fin_bl I q dec_bl)
  | str j=>obtain ⟨t',rfl⟩:=ry; exact PySem.EqMixed.eq_bool_str (fin_bl I q (by simp))
  | _=>exact absurd (show false=true from hs) Bool.false_ne_true
 | int i =>
  obtain ⟨t,rfl⟩:=rx
  cases y with
  | non=>cases ry; exact PySem.EqNone.eq_int_none (fin_bl I q (by simp))
  | int j=>obtain ⟨t',rfl⟩:=ry; exact eq_int (fin_bl I q dec_int)
  | str j=>obtain ⟨t',rfl⟩:=ry; exact PySem.EqMixed.eq_int_str (fin_bl I q (by simp))
  | _=>exact absurd (show false=true from hs) Bool.false_ne_true
 | str i =>
  obtain ⟨t,rfl⟩:=rx
  cases y with
  | non=>cases ry; exact PySem.EqNone.eq_str_none (fin_bl I q (by simp))
  | bl j=>cases ry; exact PySem.EqMixed.eq_str_bool (fin_bl I q (by simp))
  | int j=>obtain ⟨t',rfl⟩:=ry; exact PySem.EqMixed.eq_str_int (fin_bl I q (by simp))
  | str j=>obtain ⟨t',rfl⟩:=ry; exact eq_str (fin_bl I q dec_str)
  | _=>exact absurd (show false=true from hs) Bool.false_ne_true
 | byt i =>
  obtain ⟨t,rfl⟩:=rx
  cases y with
  | byt j=>obtain ⟨t',rfl⟩:=ry; exact PySem.W.eq_bytes (fin_bl I q dec_byt)
  | _=>exact absurd (show false=true from hs) Bool.false_ne_true
 | _=>cases y <;> exact absurd (show false=true from hs) Bool.false_ne_true
theorem op_ne:OpR X (compareOp .NotEq) rNe:=by
 intro pins s σ H x y v u Q I rx ry h
 obtain ⟨hs,q⟩:=h
 cases x with
 | non =>
  cases rx
  cases y with
  | non=>cases ry; exact PySem.EqNone.ne_none_none (fin_bl I q (by simp))
  | bl j=>cases ry; exact PySem.EqNone.ne_none_bool (fin_bl I q (by simp))
  | int j=>obtain ⟨t',rfl⟩:=ry; exact PySem.EqNone.ne_none_int (fin_bl I q (by simp))
  | str j=>obtain ⟨t',rfl⟩:=ry; exact PySem.EqNone.ne_none_str (fin_bl I q (by simp))
  | _=>exact absurd (show false=true from hs) Bool.false_ne_true
 | bl i =>
  cases rx
  cases y with
  | non=>cases ry; exact PySem.EqNone.ne_bool_none (fin_bl I q (by simp))
  | bl j=>cases ry; exact ne_bool (fin_bl I q (congrArg not dec_bl))
  | str j=>obtain ⟨t',rfl⟩:=ry; exact PySem.EqMixed.ne_bool_str (fin_bl I q (by simp))
  | _=>exact absurd (show false=true from hs) Bool.false_ne_true
 | int i =>
  obtain ⟨t,rfl⟩:=rx
  cases y with
  | non=>cases ry; exact PySem.EqNone.ne_int_none (fin_bl I q (by simp))
  | int j=>obtain ⟨t',rfl⟩:=ry; exact ne_int (fin_bl I q (congrArg not dec_int))
  | str j=>obtain ⟨t',rfl⟩:=ry; exact PySem.EqMixed.ne_int_str (fin_bl I q (by simp))
  | _=>exact absurd (show false=true from hs) Bool.false_ne_true
 | str i =>
  obtain ⟨t,rfl⟩:=rx
  cases y with
  | non=>cases ry; exact PySem.EqNone.ne_str_none (fin_bl I q (by simp))
  | bl j=>cases ry; exact PySem.EqMixed.ne_str_bool (fin_bl I q (by simp))
  | int j=>obtain ⟨t',rfl⟩:=ry; exact PySem.EqMixed.ne_str_int (fin_bl I q (by simp))
  | str j=>obtain ⟨t',rfl⟩:=ry; exact ne_str (fin_bl I q (congrArg not dec_str))
  | _=>exact absurd (show false=true from hs) Bool.false_ne_true
 | byt i =>
  obtain ⟨t,rfl⟩:=rx
  cases y with
  | byt j=>obtain ⟨t',rfl⟩:=ry; exact PySem.W.ne_bytes (fin_bl I q (congrArg not dec_byt))
  | _=>exact absurd (show false=true from hs) Bool.false_ne_true
 | _=>cases y <;> exact absurd (show false=true from hs) Bool.false_ne_true
theorem op_lt:OpR X (compareOp .Lt) (rI0 fun i j=>.bl (decide (i < j))):=opB0 fun _ _ _ _ _ _ _ q=>lt_int q
theorem op_le:OpR X (compareOp .LtE) (rI0 fun i j=>.bl (decide (i ≤ j))):=opB0 fun _ _ _ _ _ _ _ q=>le_int q
theorem op_gt:OpR X (compareOp .Gt) (rI0 fun i j=>.bl (decide (j < i))):=opB0 fun _ _ _ _ _ _ _ q=>gt_int q
theorem op_ge:OpR X (compareOp .GtE) (rI0 fun i j=>.bl (decide (j ≤ i))):=opB0 fun _ _ _ _ _ _ _ q=>ge_int q
theorem op_isN:OpR X (compareOp .Is) (fun x y H Q=>y=.non∧Q (.bl (decide (x=.non))) H):=by
 intro pins s σ H x y v u Q I rx ry h
 obtain ⟨rfl,q⟩:=h
 cases ry
 refine is_none_gen (fin_bl I q ?_)
 cases x <;> first
  | (cases rx; rfl)
  | (obtain ⟨t,rfl⟩:=rx; rfl)
theorem op_notN:OpR X (compareOp .IsNot) (fun x y H Q=>y=.non∧Q (.bl (!decide (x=.non))) H):=by
 intro pins s σ H x y v u Q I rx ry h
 obtain ⟨rfl,q⟩:=h
 cases ry
 refine isnot_none_gen (fin_bl I q ?_)
 cases x <;> first
  | (cases rx; rfl)
  | (obtain ⟨t,rfl⟩:=rx; rfl)
theorem nomark (b:Expr) {op:CmpOp} (h:op ≠ .In:=by decide) (h2:op ≠ .NotIn:=by decide):behindInMarks op b=false:=by
 have e1:(op == CmpOp.In)=false:=by cases op <;> first | rfl | exact absurd rfl h
 have e2:(op == CmpOp.NotIn)=false:=by cases op <;> first | rfl | exact absurd rfl h2
 cases b <;> simp [behindInMarks,e1,e2]
theorem pe_cmpR {op:CmpOp} {r:R2} (ho:OpR X (compareOp op) r) (ha:PE X a ta) (hb:PE X b tb) (hm:behindInMarks op b=false):PE X (.Compare a [op] [b] pos) (tOp r ta tb):=by
 intro pins s σ H Q I h
 exact wpAny_Compare1 (binT ha hb I h fun v u s2 x y H2 I2 rx ry q=>ho pins s2 σ H2 x y v u Q I2 rx ry q) hm
def tTest (t:TE):TT:=fun σ H Q=>t σ H fun x H'=>∃ k,x=.bl k∧Q k H'
theorem pt_cmpR {op:CmpOp} {r:R2} (ho:OpR X (compareOp op) r) (ha:PE X a ta) (hb:PE X b tb) (hm:behindInMarks op b=false):PT X (.Compare a [op] [b] pos) (tTest (tOp r ta tb)):=by
 intro pins s σ H Q I h
 refine wpAny_isTrue_Compare1 (thn (ha pins s σ H _ I h) fun v s1 ⟨x,H1,I1,r1,q1⟩=>thn (hb pins s1 σ H1 _ I1 q1) fun u s2 ⟨y,H2,I2,r2,q2⟩ =>
  thn (ho pins s2 σ H2 x y v u _ I2 r1 r2 q2) fun c s3 ⟨z,H3,I3,r3,k,e,q3⟩=>?_) hm
 subst e
 cases r3
 exact wpAny_truthy_bool ⟨H3,I3,q3⟩
def tChain (r r':R2) (ta tb tc:TE):TE:=fun σ H Q=>ta σ H fun x H1=>tb σ H1 fun y H2=>r x y H2 fun z H3=>∃ k,z=.bl k ∧
 (if k=true then tc σ H3 fun w' H4=>r' y w' H4 Q else Q (.bl false) H3)
theorem pt_chain {op op':CmpOp} {r r':R2} (ho:OpR X (compareOp op) r) (ho':OpR X (compareOp op') r') (ha:PE X a ta) (hb:PE X b tb) (hc:PE X c tc)
  (hm:lastMarks [op,op'] [b,c]=false:=by with_unfolding_all rfl):PT X (.Compare a [op,op'] [b,c] pos) (tTest (tChain r r' ta tb tc)):=by
 intro pins s σ H Q I h
 refine isTrue_chain (thn (ha pins s σ H _ I h) fun v s1 ⟨x,H1,I1,r1,q1⟩=>test_link (thn (hb pins s1 σ H1 _ I1 q1) fun u s2 ⟨y,H2,I2,r2,q2⟩ =>
  thn (ho pins s2 σ H2 x y v u _ I2 r1 r2 q2) fun d s3 ⟨z,H3,I3,r3,k,e,q3⟩=>?_)) hm
 subst e
 cases r3
 refine wpAny_truthy_bool ?_
 cases k with
 | false =>
  obtain ⟨k',e',q'⟩:=q3
  cases e'
  exact ite_ff ⟨H3,I3,q'⟩
 | true =>
  refine ite_tt (test_last (thn (hc pins s3 σ H3 _ I3 q3) fun w' s4 ⟨z',H4,I4,r4,q4⟩=>thn (ho' pins s4 σ H4 y z' u w' _ I4 r2 r4 q4) fun d' s5 ⟨z2,H5,I5,r5,k2,e2,q5⟩=>?_))
  subst e2
  cases r5
  exact wpAny_truthy_bool ⟨H5,I5,q5⟩
theorem line63:(sizeLine:Nat) < 2 ^ 63:=by rw [sizeLine_eq]; decide
theorem vals1 {x:V} {us:List Value} (r:Vals [x] us):∃ u,us=[u]∧RelV x u:=by
 cases r with
 | cons r1 r2=>cases r2; exact ⟨_,rfl,r1⟩
theorem vals2 {x y:V} {us:List Value} (r:Vals [x,y] us):∃ u w',us=[u,w']∧RelV x u∧RelV y w':=by
 cases r with
 | cons r1 r2 =>
  cases r2 with
  | cons r3 r4=>cases r4; exact ⟨_,_,rfl,r1,r3⟩
theorem call_min2 (hc:X.calm=true):CallR X (.builtin "min") (fun xs H Q=>∃ i j,xs=[.int i,.int j]∧Q (.int (if j < i then j else i)) H):=by
 intro pins s σ H xs us Q I r h
 obtain ⟨i,j,rfl,q⟩:=h
 obtain ⟨u,w',rfl,⟨t,rfl⟩,⟨t',rfl⟩⟩:=vals2 r
 refine min_two_ints (I.ok.hd hc) fun h' tk k=>⟨_,H,I.kept k,?_,q⟩
 by_cases hj:j < i
 ·rw [if_pos hj,if_pos hj]; exact ⟨_,rfl⟩
 ·rw [if_neg hj,if_neg hj]; exact ⟨_,rfl⟩
theorem call_int1:CallR X (.type "int") (fun xs H Q=>(∃ i,xs=[.int i]∧Q (.int i) H) ∨ ∃ k,xs=[.bl k]∧Q (.int (if k then 1 else 0)) H):=by
 intro pins s σ H xs us Q I r h
 rcases h with ⟨i,rfl,q⟩ | ⟨k,rfl,q⟩
 ·obtain ⟨u,rfl,t,rfl⟩:=vals1 r
  exact call_int_int ⟨.int i,H,I,⟨_,rfl⟩,q⟩
 ·obtain ⟨u,rfl,r1⟩:=vals1 r
  cases r1
  exact call_int_bool ⟨.int (if k then 1 else 0),H,I.tok _,⟨_,rfl⟩,q⟩
end
end L2
namespace L2
open PySem PySem.Spec PyProof.Rows
structure ObjM (h:Heap) (x dx C:Addr) (mA:Str→Option Value):Prop where
 obj:h.get? x=some (PySem.W.instObj C dx)
 ns:h.Ns1 dx mA
 ne:dx ≠ x
theorem lookIn_ns {h:Heap} {dx:Addr} {mA:Str→Option Value} (n:h.Ns1 dx mA):∃ od,h.get? dx=some od∧∀ name,PySem.W.lookIn name od=some (mA name):=by
 obtain ⟨o,es,ep,ho,hd,hk,_,hm⟩:=n
 refine ⟨o,ho,fun name=>?_⟩
 have e:=hm name
 unfold nsFind findBy at e
 rw [← Array.find?_toList] at e
 unfold PySem.W.lookIn
 rw [hd]
 dsimp only
 split
 ·rename_i y q
  rw [q] at e
  exact congrArg some e
 ·rename_i q
  rw [q] at e
  have a:es.toList.any (·.refKey)=false:=by
   rw [List.any_eq_false]
   intro y hy
   obtain ⟨z,t,hkey⟩:=hk y (Array.mem_toList_iff.mp hy)
   simp [DictEntry.refKey,hkey]
  have a':¬ es.toList.any (·.refKey)=true:=by rw [a]; exact Bool.false_ne_true
  rw [if_neg a']
  exact congrArg some e
theorem ObjM.look {h:Heap} {x dx C:Addr} {mA:Str→Option Value} (I:ObjM h x dx C mA):∃ od,PySem.W.InstAt h x (PySem.W.instObj C dx) C (some od)∧∀ name,PySem.W.lookIn name od=some (mA name) :=
 let ⟨od,ho,hl⟩:=lookIn_ns I.ns
 ⟨od,⟨I.obj,rfl,rfl,ho⟩,hl⟩
section
variable {prog:Program} {w:World} {A:Around} {E:Value→Shared→Prop} {s:Shared} {K:PySem.W.Frag} {x dx C f:Addr} {mA:Str→Option Value} {name:Str} {v:Value}
theorem get_map {expr:Bool} {Q:Value→Shared→Prop} (X:K.In s.heap) (I:ObjM s.heap x dx C mA) (hg:PySem.W.plainGet K C name=true) (hh:PySem.W.hasDictIn K C=true)
  (ha:PySem.W.findIn K (.ref C) name=some none) (hv:mA name=some v) (hv':PySem.W.handedIn v=true) (h:Q v { s with toks:=s.toks + 1 }) :
  wpAny (model prog w) A (getAttr (.ref x) name expr) Q E s:=by
 obtain ⟨od,J,hl⟩:=I.look
 exact PySem.W.get_value X J (PySem.W.plainGet_of hg).1 (PySem.W.findObj_own hh ha rfl (by rw [hl,hv])) hv' h
theorem get_meth {pl:Sem Bool} {Q:Value × List Value→Shared→Prop} (X:K.In s.heap) (I:ObjM s.heap x dx C mA) (hg:PySem.W.plainGet K C name=true)
  (hf:PySem.W.findIn K (.ref C) name=some (some (.ref f))) (ht:PySem.W.isFn K (.ref f)=true) (hv:mA name=none) (h:Q (.ref f,[.ref x]) s) :
  wpAny (model prog w) A (getMethod (.ref x) name pl) Q E s:=by
 obtain ⟨od,J,hl⟩:=I.look
 exact PySem.W.method_fn X J (PySem.W.plainGet_of hg).1 (PySem.W.plainGet_of hg).2 hf (beq_iff_eq.mp ht) (by show (PySem.W.lookIn name od).map (·.isSome)=some false; rw [hl,hv]; rfl) h
theorem set_map {ns:List Str} {Q:Unit→Shared→Prop} (X:K.In s.heap) (I:ObjM s.heap x dx C mA)
  (hs:PySem.W.findIn K (.ref C) "__setattr__"=some (some (.builtin "object.__setattr__"))) (hp:PySem.W.plainOver K C=true) (ht:PySem.W.takerIn K C name=some none) (hh:PySem.W.hasDictIn K C=true)
  (hw:PySem.Within mA ns) (hsz:ns.length ≤ sizeLine)
  (h:∀ h',ObjM h' x dx C (fun y=>if y=name then some v else mA y)→Heap.SameBut dx s.heap h'→Q () { s with heap:=h',toks:=s.toks + 2 }) :
  wpAny (model prog w) A (setAttr (.ref x) name v) Q E s:=by
 obtain ⟨od,J,hl⟩:=I.look
 refine PySem.W.set_plain X J hs (PySem.W.osa_open (s:={ s with toks:=s.toks + 1 }) (r:=none) X J hp ht fun b=>?_)
 obtain ⟨cd,hc,hd'⟩:=PySem.W.any_some hh
 have hx:s.heap.get? x=some ⟨.ref C,some dx,.plain,#[]⟩:=I.obj
 refine wpAny_bind (wpAny_pure (wpAny_bind (wpAny_bind (wpAny_loadPart hx (wpAny_bind (PySem.W.Looks.here (s:={ s with toks:=s.toks + 1 }) (PySem.W.looks_clsIn X hc) ?_))))))
 rw [hd']
 refine wpAny_pure (a:=some dx) (wpAny_bind (wpAny_pure (wpAny_bind ?_)))
 refine wpAny_nsSet1 (s:={ s with toks:=s.toks + 1 }) I.ns fun h' hn2 hs2=>?_
 obtain ⟨oD,esD,epD,hoD,hdD,hcD⟩:=hn2.count (PySem.Within.cons name v hw)
 refine wpAny_bind (wpAny_lookBehind hoD (by rw [hdD]; exact pastItsLine_dict (Nat.le_trans hcD (by rw [List.length_cons]; omega))) ?_)
 exact wpAny_pure (h _ ⟨(hs2.2 _ (Ne.symm I.ne)).trans I.obj,hn2,I.ne⟩ hs2)
theorem make_map {R:Result→Shared→Prop} {vs:List Value} {kw:List (Str × Value)} (X:K.In s.heap) (hm:PySem.W.makesIn K C=true)
  (hi:PySem.W.findIn K (.ref C) "__init__"=some (some (.ref f))) (hf:PySem.W.typeIn K (.ref f)=some (.type "function"))
  (h:codeAny (model prog w) (A.under (.builtin "type.__call__" ⟨.ref C :: vs,kw⟩)) (.call (.ref f) ⟨.ref (s.heap.objs.size + 1) :: vs,kw⟩) (PySem.W.InitBack (s.heap.objs.size + 1) R)
   { s with heap:=(s.heap.push PySem.W.emptyDict).push (PySem.W.instObj C s.heap.objs.size) }) :
  codeAny (model prog w) A (.call (.ref C) ⟨vs,kw⟩) R s:=by
 obtain ⟨hh,g,d,t,os⟩:=s
 exact PySem.W.make_core (PySem.W.makes_of X hm) (PySem.W.looks_findIn X hi) (fun self=>PySem.W.bind_fn X self hf) (.inl rfl) h
end
def putF (f:Str) (v:V):List (Str × V)→List (Str × V)
 | []=>[(f,v)]
 | (g,x) :: r=>if g=f then (g,v) :: r else (g,x) :: putF f v r
theorem lookup_putF (f g:Str) (v:V):∀ fs:List (Str × V),(putF f v fs).lookup g=if g=f then some v else fs.lookup g
 | []=>by
  show List.lookup g [(f,v)]=_
  by_cases h:g=f
  ·have hb:(g == f)=true:=beq_iff_eq.mpr h
   simp only [List.lookup,hb,if_pos h]
  ·have hb:(g == f)=false:=beq_eq_false_iff_ne.mpr h
   simp only [List.lookup,hb,if_neg h]
 | (k,x) :: r=>by
  have ih:=lookup_putF f g v r
  rw [show putF f v ((k,x) :: r)=(if k=f then (k,v) :: r else (k,x) :: putF f v r) from rfl]
  by_cases hk:k=f
  ·rw [if_pos hk]
   by_cases h:g=k
   ·have hb:(g == k)=true:=beq_iff_eq.mpr h
    simp only [List.lookup,hb,if_pos (h.trans hk)]
   ·have hb:(g == k)=false:=beq_eq_false_iff_ne.mpr h
    simp only [List.lookup,hb,if_neg (fun e:g=f=>h (e.trans hk.symm))]
  ·rw [if_neg hk]
   by_cases h:g=k
   ·have hb:(g == k)=true:=beq_iff_eq.mpr h
    simp only [List.lookup,hb,if_neg (fun e:g=f=>hk (h.symm.trans e))]
   ·have hb:(g == k)=false:=beq_eq_false_iff_ne.mpr h
    simp only [List.lookup,hb]
    exact ih
theorem keys_putF (f:Str) (v:V):∀ fs:List (Str × V),f ∈ (putF f v fs).map (·.1)∧∀ g,g ∈ fs.map (·.1)→g ∈ (putF f v fs).map (·.1)
 | []=>⟨by simp [putF],fun g h=>by simp at h⟩
 | (k,x) :: r=>by
  obtain ⟨i1,i2⟩:=keys_putF f v r
  rw [show putF f v ((k,x) :: r)=(if k=f then (k,v) :: r else (k,x) :: putF f v r) from rfl]
  by_cases hk:k=f
  ·rw [if_pos hk]
   subst hk
   exact ⟨by simp,fun g h=>by simpa using h⟩
  ·rw [if_neg hk]
   refine ⟨?_,fun g h=>?_⟩
   ·rw [List.map_cons]
    exact List.mem_cons_of_mem _ i1
   ·rw [List.map_cons] at h ⊢
    rcases List.mem_cons.mp h with e | e
    ·exact List.mem_cons.mpr (.inl e)
    ·exact List.mem_cons_of_mem _ (i2 g e)
theorem length_putF (f:Str) (v:V):∀ fs:List (Str × V),(putF f v fs).length ≤ fs.length + 1
 | []=>by simp [putF]
 | (k,x) :: r=>by
  have ih:=length_putF f v r
  rw [show putF f v ((k,x) :: r)=(if k=f then (k,v) :: r else (k,x) :: putF f v r) from rfl]
  by_cases hk:k=f
  ·rw [if_pos hk,List.length_cons,List.length_cons]; omega
  ·rw [if_neg hk,List.length_cons,List.length_cons]; omega
theorem RelO.some_of {v:V} {o:Option Value} (r:RelO (some v) o):∃ u,o=some u∧RelV v u:=by
 cases o with
 | none=>exact (show False from r).elim
 | some u=>exact ⟨u,rfl,r⟩
theorem RelO.none_of {o:Option Value} (r:RelO none o):o=none:=by
 cases o with
 | none=>rfl
 | some u=>exact (show False from r).elim
theorem handed_of {v:V} {u:Value} (r:RelV v u):PySem.W.handedIn u=true:=by
 cases v with
 | non=>cases (show u=Value.none from r); rfl
 | bl b=>cases (show u=Value.bool b from r); rfl
 | int i=>obtain ⟨t,e⟩:=(show ∃ t,u=Value.int i t from r); cases e; rfl
 | str x=>obtain ⟨t,e⟩:=(show ∃ t,u=Value.str x t from r); cases e; rfl
 | byt b=>obtain ⟨t,e⟩:=(show ∃ t,u=Value.bytes b t from r); cases e; rfl
 | flt b=>obtain ⟨t,e⟩:=(show ∃ t,u=Value.float b t from r); cases e; rfl
 | ref a=>cases (show u=Value.ref a from r); rfl
 | ty n=>cases (show u=Value.type n from r); rfl
section
variable {P:Program} {w:World} {H H':Hp} {h h':Heap} {a C dx:Addr} {fs fs':List (Str × V)}
theorem ins_get (hok:HOk P w H h) (e:H a=some (.ins C dx fs)):∃ mA,ObjM h a dx C mA∧(∀ f,RelO (fs.lookup f) (mA f))∧PySem.Within mA (fs.map (·.1))∧fs.length ≤ 1000∧H dx=some (.own a):=by
 obtain ⟨d,z,ne,ob,mA,n,r,q⟩:=(show ObjOk P w H h a (.ins C dx fs) from hok a _ e)
 exact ⟨mA,⟨ob,n,ne⟩,r,q,z,d⟩
end
structure Cls (K:PySem.W.Frag) (C:Addr):Prop where
 pg:PySem.W.plainGet K C Str.empty=true
 hd:PySem.W.hasDictIn K C=true
 po:PySem.W.plainOver K C=true
 sa:PySem.W.findIn K (.ref C) "__setattr__"=some (some (.builtin "object.__setattr__"))
theorem Cls.get {K:PySem.W.Frag} {C:Addr} (c:Cls K C) (f:Str):PySem.W.plainGet K C f=true:=c.pg
def NoAttr (K:PySem.W.Frag) (C:Addr) (f:Str):Prop:=PySem.W.findIn K (.ref C) f=some none
theorem NoAttr.taker {K:PySem.W.Frag} {C:Addr} {f:Str} (n:NoAttr K C f):PySem.W.takerIn K C f=some none:=by
 unfold PySem.W.takerIn
 rw [show PySem.W.findIn K (.ref C) f=some none from n]
 rfl
structure Meth (K:PySem.W.Frag) (C:Addr) (m:Str) (f:Addr):Prop where
 at_:PySem.W.findIn K (.ref C) m=some (some (.ref f))
 fn:PySem.W.isFn K (.ref f)=true
 kp:PySem.W.keepIn K (.ref f)=true
section
variable {X:Cx} {pins:List (Addr × Obj)} {σ:St} {H:Hp} {s:Shared} {a C dx:Addr} {fs:List (Str × V)} {f:Str} {v:V} {A:Around} {E:Value→Shared→Prop}
theorem getattr_ok {b:Bool} {Q:Value→Shared→Prop} (I:Inv X pins σ H s) (e:H a=some (.ins C dx fs)) (c:Cls X.K C) (n:NoAttr X.K C f) (l:fs.lookup f=some v)
  (h:∀ u s',Inv X pins σ H s'→RelV v u→Q u s'):wpAny (model X.prog X.w) A (getAttr (.ref a) f b) Q E s:=by
 obtain ⟨mA,O,r,_,_,_⟩:=ins_get I.hok e
 obtain ⟨u,hu,ru⟩:=RelO.some_of (v:=v) (o:=mA f) (by rw [← l]; exact r f)
 exact get_map I.kIn O (c.get f) c.hd n hu (handed_of ru) (h u _ (I.tok _) ru)
theorem getmeth_ok {m:Str} {g:Addr} {pl:Sem Bool} {Q:Value × List Value→Shared→Prop} (I:Inv X pins σ H s) (e:H a=some (.ins C dx fs)) (c:Cls X.K C) (k:Meth X.K C m g) (l:fs.lookup m=none)
  (h:Q (.ref g,[.ref a]) s):wpAny (model X.prog X.w) A (getMethod (.ref a) m pl) Q E s:=by
 obtain ⟨mA,O,r,_,_,_⟩:=ins_get I.hok e
 have hn:mA m=none:=RelO.none_of (by rw [← l]; exact r m)
 exact get_meth I.kIn O (c.get m) k.at_ k.fn hn h
theorem setattr_ok {y:V} {u:Value} {Q:Unit→Shared→Prop} (I:Inv X pins σ H s) (e:H a=some (.ins C dx fs)) (c:Cls X.K C) (n:NoAttr X.K C f) (hl:fs.length < 1000) (ry:RelV y u)
  (h:∀ s',Inv X pins σ (upd H a (.ins C dx (putF f y fs))) s'→Q () s'):wpAny (model X.prog X.w) A (setAttr (.ref a) f u) Q E s:=by
 obtain ⟨mA,O,r,wi,_,ho⟩:=ins_get I.hok e
 have hz:(fs.map (·.1)).length ≤ sizeLine:=by rw [List.length_map,sizeLine_eq]; omega
 refine set_map I.kIn O c.sa c.po n.taker c.hd wi hz fun h' O' sb=>h _ ?_
 have hd:∃ o,h'.get? dx=some o:=let ⟨o,_,_,e',_⟩:=O'.ns; ⟨o,e'⟩
 refine I.write (x:=a) (e:=dx) (by rw [e]; exact True.intro) (.inr ho) (fun b q hb z=>(sb.2 b hb).trans z) hd ?_
 refine ⟨by rw [upd_ne O.ne]; exact ho,?_,O.ne,O'.obj,_,O'.ns,fun g=>?_,fun g hg=>?_⟩
 ·have:=length_putF f y fs; omega
 ·show RelO ((putF f y fs).lookup g) (if g=f then some u else mA g)
  rw [lookup_putF]
  by_cases q:g=f
  ·rw [if_pos q,if_pos q]; exact ry
  ·rw [if_neg q,if_neg q]; exact r g
 ·by_cases q:g=f
  ·rw [q]; exact (keys_putF f y fs).1
  ·refine (keys_putF f y fs).2 g (wi g fun z=>hg ?_)
   show (if g=f then some u else mA g)=none
   rw [if_neg q]; exact z
theorem Inv.made (I:Inv X pins σ H s):Inv X pins σ (upd (upd H s.heap.objs.size (.own (s.heap.objs.size + 1))) (s.heap.objs.size + 1) (.ins C s.heap.objs.size []))
  { s with heap:=(s.heap.push PySem.W.emptyDict).push (PySem.W.instObj C s.heap.objs.size) }:=by
 have e1:(s.heap.push PySem.W.emptyDict).get? s.heap.objs.size=some PySem.W.emptyDict:=Heap.get?_push_size s.heap rfl
 have e2:((s.heap.push PySem.W.emptyDict).push (PySem.W.instObj C s.heap.objs.size)).get? (s.heap.objs.size + 1)=some (PySem.W.instObj C s.heap.objs.size):=by
  have:=Heap.get?_push_size (s.heap.push PySem.W.emptyDict) (o:=PySem.W.instObj C s.heap.objs.size) rfl
  rwa [Heap.size_push] at this
 have e3:(s.heap.push PySem.W.emptyDict).Ns s.heap.objs.size (fun _=>none):=⟨PySem.W.emptyDict,#[],_,e1,rfl,(fun e he=>absurd he (by simp)),fun _=>rfl⟩
 have I1:=I.laid (a:=s.heap.objs.size) (o:=.own (s.heap.objs.size + 1)) (h':=s.heap.push PySem.W.emptyDict) (t':=s.toks) (fun b u q=>Heap.get?_push_of_some _ q) (Nat.le_refl _) ⟨_,e1⟩
 refine I1.laid (a:=s.heap.objs.size + 1) (o:=.ins C s.heap.objs.size []) (t':=s.toks) (fun b u q=>Heap.get?_push_of_some _ q) (Nat.le_of_eq (Heap.size_push _ _)) ?_
 have ne:s.heap.objs.size ≠ s.heap.objs.size + 1:=Nat.ne_of_lt (Nat.lt_succ_self _)
 refine ⟨by rw [upd_ne ne,upd_same],Nat.zero_le _,ne,e2,fun _=>none,(Heap.Ns1.of_empty e3).at fun o q=>Heap.get?_push_of_some _ q,fun _=>True.intro,fun y hy=>absurd rfl hy⟩
theorem attr_of {prog:Program} {w:World} {env:Env} {e:Expr} {f:Str} {pos:Pos} {s:Shared} {Q:Value→Shared→Prop} (hb:attributeBase e f env (eval e env)=eval e env)
  (h:wpAny (model prog w) A (eval e env) (fun o s₁=>wpAny (model prog w) A (getAttr o f true) Q E s₁) E s):wpAny (model prog w) A (eval (.Attribute e f pos) env) Q E s :=
 Attribute_any_ h (by rw [arm_eval_Attribute,hb])
end
def tFld (K:PySem.W.Frag) (ta:TE) (f:Str):TE:=fun σ H Q=>ta σ H fun x H1=>∃ a C dx fs v,x=.ref a∧H1 a=some (.ins C dx fs)∧Cls K C∧NoAttr K C f∧fs.lookup f=some v∧Q v H1
def sFld (K:PySem.W.Frag) (ta tv:TE) (f:Str):TS:=fun D σ H=>tv σ H fun y H1=>ta σ H1 fun x H2=>∃ a C dx fs,x=.ref a∧H2 a=some (.ins C dx fs)∧Cls K C∧NoAttr K C f∧fs.length < 1000 ∧
 D.nx σ (upd H2 a (.ins C dx (putF f y fs)))
section
variable {X:Cx} {o e value:Expr} {f:Str} {pos pos' tpos:Pos} {ta tv:TE}
theorem pe_fld (he:PE X e ta) (hb:attributeBase e f X.env (eval e X.env)=eval e X.env):PE X (.Attribute e f pos) (tFld X.K ta f):=by
 intro pins s σ H Q I h
 refine attr_of hb (thn (he pins s σ H _ I h) fun u s1 ⟨x,H1,I1,rx,a,C,dx,fs,v,ex,ea,c,n,l,q⟩=>?_)
 subst ex
 obtain rfl:u=Value.ref a:=rx
 exact getattr_ok I1 ea c n l fun u' s2 I2 ru=>⟨v,H1,I2,ru,q⟩
theorem ps_fld (ha:PE X o ta) (hv:PE X value tv) (hs:swapsWith value (some (.Attribute o f pos')) pos.line X.env=pure false):PS X (.Assign [.Attribute o f pos'] value pos) (sFld X.K ta tv f):=by
 intro pins s σ H D I h
 refine plainObj_wpAny_Assign_Attribute (thn (hv pins s σ H _ I h) fun u s1 ⟨y,H1,I1,ry,q⟩=>thn (ha pins s1 σ H1 _ I1 q) fun ov s2 ⟨x,H2,I2,rx,a,C,dx,fs,ex,ea,c,n,l,q2⟩=>?_) hs
 subst ex
 obtain rfl:ov=Value.ref a:=rx
 exact setattr_ok I2 ea c n l ry fun s3 I3=>⟨σ,_,I3,q2⟩
end
section
variable {X:Cx} {pins:List (Addr × Obj)} {σ:St} {H:Hp} {s:Shared} {A:Around} {E:Value→Shared→Prop} {Q:Value→Shared→Prop} {c:Value} {b:Bool}
inductive TyOf (K:PySem.W.Frag) (H:Hp):V→Value→Prop where
 | non:TyOf K H .non (.type "NoneType")
 | bl (x:Bool):TyOf K H (.bl x) (.type "bool")
 | int (i:Int):TyOf K H (.int i) (.type "int")
 | str (x:Str):TyOf K H (.str x) (.type "str")
 | flt (x:UInt64):TyOf K H (.flt x) (.type "float")
 | lst {a:Addr} {xs:List V} (e:H a=some (.lst xs)):TyOf K H (.ref a) (.type "list")
 | frz {a:Addr} {o:Obj} {xs:List V} (e:H a=some (.frz o (.lst xs))):TyOf K H (.ref a) (.type "list")
 | tup {a:Addr} {xs:List V} (e:H a=some (.tup xs)):TyOf K H (.ref a) (.type "tuple")
 | dK {a:Addr} {kvs:List (Key × V)} (e:H a=some (.dK kvs)):TyOf K H (.ref a) (.type "dict")
 | dT {a:Addr} {kvs:List (List Key × V)} (e:H a=some (.dT kvs)):TyOf K H (.ref a) (.type "dict")
 | ins {a C dx:Addr} {fs:List (Str × V)} (e:H a=some (.ins C dx fs)) (cl:Cls K C) (ha:PySem.W.findIn K (.ref C) "__class__"=some (some (.builtin "object.__class__")))
   (hn:PySem.W.specialIn K (.builtin "object.__class__") "__get__"=some (some (.builtin "getset_descriptor.__get__"))) (htk:PySem.W.takesIn K (.builtin "object.__class__")=some true)
   (hm:PySem.W.mroIn K C (.type "object")=some true):TyOf K H (.ref a) (.ref C)
theorem isinst_ok {x:V} {u t:Value} (I:Inv X pins σ H s) (rx:RelV x u) (ty:TyOf X.K H x t) (e:PySem.W.kitOne X.K t c=some b) (h:∀ tk,Q (.bool b) { s with toks:=tk }) :
  wpAny (model X.prog X.w) A (call (.builtin "isinstance") [u,c]) Q E s:=by
 cases ty with
 | non=>cases (show u=Value.none from rx); exact PySem.W.kia_one PySem.W.kitx_none I.kIn True.intro e (fun z=>nomatch z) h
 | bl y=>cases (show u=Value.bool y from rx); exact PySem.W.kia_one PySem.W.kitx_bool I.kIn True.intro e (fun z=>nomatch z) h
 | int i=>obtain ⟨t,q⟩:=(show ∃ t,u=Value.int i t from rx); cases q; exact PySem.W.kia_one PySem.W.kitx_int I.kIn True.intro e (fun z=>nomatch z) h
 | str y=>obtain ⟨t,q⟩:=(show ∃ t,u=Value.str y t from rx); cases q; exact PySem.W.kia_one PySem.W.kitx_str I.kIn True.intro e (fun z=>nomatch z) h
 | flt y=>obtain ⟨t,q⟩:=(show ∃ t,u=Value.float y t from rx); cases q; exact PySem.W.kia_one PySem.W.kitx_float I.kIn True.intro e (fun z=>nomatch z) h
 | @lst a xs ea =>
  cases (show u=Value.ref a from rx)
  obtain ⟨_,_,n,_,h1⟩:=(show ObjOk X.prog X.w H s.heap a (.lst xs) from I.hok a _ ea)
  exact PySem.W.kia_one PySem.W.kitx_list I.kIn ⟨_,h1,rfl⟩ e (fun z=>nomatch z) h
 | @frz a ob xs ea =>
  cases (show u=Value.ref a from rx)
  obtain ⟨_,_,_,n,_,h1⟩:=(show ObjOk X.prog X.w H s.heap a (.frz ob (.lst xs)) from I.hok a _ ea)
  exact PySem.W.kia_one PySem.W.kitx_list I.kIn ⟨_,h1,rfl⟩ e (fun z=>nomatch z) h
 | @tup a xs ea =>
  cases (show u=Value.ref a from rx)
  obtain ⟨_,_,_,p⟩:=(show ObjOk X.prog X.w H s.heap a (.tup xs) from I.hok a _ ea)
  obtain ⟨o,h1,h2,_⟩:=p
  exact PySem.W.kia_one PySem.W.kitx_tuple I.kIn ⟨o,h1,h2⟩ e (fun z=>nomatch z) h
 | @dK a kvs ea =>
  cases (show u=Value.ref a from rx)
  obtain ⟨_,_,vs,_,p⟩:=(show ObjOk X.prog X.w H s.heap a (.dK kvs) from I.hok a _ ea)
  obtain ⟨o,es,ep,h1,h2,_⟩:=p
  exact PySem.W.kia_one PySem.W.kitx_dict I.kIn ⟨o,h1,h2.1⟩ e (fun z=>nomatch z) h
 | @dT a kvs ea =>
  cases (show u=Value.ref a from rx)
  obtain ⟨_,_,xs,_,o,es,ep,h1,h2,_⟩:=(show ObjOk X.prog X.w H s.heap a (.dT kvs) from I.hok a _ ea)
  exact PySem.W.kia_one PySem.W.kitx_dict I.kIn ⟨o,h1,h2.1⟩ e (fun z=>nomatch z) h
 | @ins a C dx fs ea cl ha hn htk hm =>
  cases (show u=Value.ref a from rx)
  obtain ⟨mA,O,_⟩:=ins_get I.hok ea
  obtain ⟨od,J,_⟩:=O.look
  exact PySem.W.kia_one (PySem.W.kitx_own (cl.get _) cl.hd ha hn htk hm) I.kIn J e (fun z=>nomatch z) h
end
end L2
namespace L2
open PySem PySem.Spec PyProof.Rows
structure Room (k:Nat) (A:Around):Prop where
 hd:A.handled=none
 dp:A.depth + 3 * k + 5 < recursionLimit
 un:A.units + 16 * k + 200 < cLine
theorem Room.mono {j k:Nat} {A:Around} (r:Room k A) (h:j ≤ k):Room j A:=⟨r.hd,by have:=r.dp; omega,by have:=r.un; omega⟩
theorem Room.deeper {k:Nat} {A:Around} (r:Room (k + 1) A) (env:Env):Room k (A.deeper env) :=
 ⟨r.hd,by have:=r.dp; show A.depth + 1 + 3 * k + 5 < _; omega,by have:=r.un; show A.units + 3 + 16 * k + 200 < _; omega⟩
theorem make_depth {A:Around} {C:Addr} {us:List Value} {kw:List (Str × Value)}:(A.under (.builtin "type.__call__" ⟨.ref C :: us,kw⟩)).depth=A.depth + 1:=by
 first | rfl | simp [Around.under,Code.weight,Code.isCreation,Code.isGuard,Code.isCaller,Code.frames,Code.isFrame,guardIds]
theorem make_units {A:Around} {C:Addr} {us:List Value} {kw:List (Str × Value)}:(A.under (.builtin "type.__call__" ⟨.ref C :: us,kw⟩)).units=A.units + 1:=by
 first | rfl | simp [Around.under,Code.cUnits,Code.frames,Code.isFrame]
theorem Room.make {k:Nat} {A:Around} (r:Room (k + 1) A) (C:Addr) (us:List Value) (kw:List (Str × Value)):Room k (A.under (.builtin "type.__call__" ⟨.ref C :: us,kw⟩)) :=
 ⟨r.hd,by have:=r.dp; rw [make_depth]; omega,by have:=r.un; rw [make_units]; omega⟩
theorem Room.depth {k:Nat} {A:Around} (r:Room k A):A.depth < recursionLimit:=by have:=r.dp; omega
theorem Room.units {k:Nat} {A:Around} (r:Room k A):A.units + 64 < cLine:=by have:=r.un; omega
def tNil:TA:=fun _ H Q=>Q [] H
def tCons (ta:TE) (tr:TA):TA:=fun σ H Q=>ta σ H fun x H1=>tr σ H1 fun xs H2=>Q (x :: xs) H2
section
variable {X:Cx} {e:Expr} {es:List Expr} {te:TE} {t:TA} {pos:Pos}
theorem pa_nil:PA X [] tNil:=fun _ _ _ _ H Q I h=>Calls.spliced_nil ⟨[],H,I,.nil,h⟩
theorem pa_cons (ha:PE X e te) (hr:PA X es t) (hs:starEach (e :: es) X.env=(false,eval e X.env) :: starEach es X.env:=by rfl):PA X (e :: es) (tCons te t):=by
 intro pos pins s σ H Q I h
 rw [hs]
 show wpAny _ _ (spliced ((false,eval e X.env) :: backTo pos (starEach es X.env))) _ _ s
 refine Calls.spliced_cons (thn (ha pins s σ H _ I h) fun u s1 ⟨x,H1,I1,r1,q1⟩=>?_)
 exact thn (hr pos pins s1 σ H1 _ I1 q1) fun us s2 ⟨xs,H2,I2,r2,q2⟩=>⟨x :: xs,H2,I2,.cons r1 r2,q2⟩
def tTup (t:TA):TE:=fun σ H Q=>t σ H fun xs H1=>xs.length ≤ sizeLine∧∀ p,H1 p=none→Q (.ref p) (upd H1 p (.tup xs))
def tLst (t:TA):TE:=fun σ H Q=>t σ H fun xs H1=>xs.length ≤ sizeLine∧∀ p,H1 p=none→Q (.ref p) (upd H1 p (.lst xs))
theorem pe_tup {x1} (h:PA X es t):PE X (.Tuple es x1 pos) (tTup t):=by
 intro pins s σ H Q I hq
 refine wpAny_Tuple_spliced (thn (h pos pins s σ H _ I hq) fun us s1 ⟨xs,H1,I1,r,z,q⟩=>⟨by rw [← r.length]; exact z,?_⟩)
 have hf:H1 s1.heap.objs.size=none:=I1.hok.fresh (Nat.le_refl _)
 refine ⟨.ref s1.heap.objs.size,upd H1 s1.heap.objs.size (.tup xs),I1.laid (t':=s1.toks) (fun b u e=>Heap.get?_push_of_some _ e) (Nat.le_refl _) ?_,rfl,q _ hf⟩
 exact ⟨z,us,r,⟨_,Heap.get?_push_size _ rfl,rfl,_,rfl⟩⟩
theorem pe_lst (h:PA X es t):PE X (.List es pos) (tLst t):=by
 intro pins s σ H Q I hq
 refine wpAny_List_spliced (thn (h pos pins s σ H _ I hq) fun us s1 ⟨xs,H1,I1,r,z,q⟩=>⟨by rw [← r.length]; exact z,?_⟩)
 have hf:H1 s1.heap.objs.size=none:=I1.hok.fresh (Nat.le_refl _)
 refine ⟨.ref s1.heap.objs.size,upd H1 s1.heap.objs.size (.lst xs),I1.laid (t':=s1.toks) (fun b u e=>Heap.get?_push_of_some _ e) (Nat.le_refl _) ?_,rfl,q _ hf⟩
 exact ⟨z,us,0,r,Heap.get?_push_size _ rfl⟩
end
abbrev Sp:=List V→Hp→VK→XK→Prop
abbrev CXT:=List Env→Hp→Shared→XK→Value→Shared→Prop
structure Env0 (P:Program) (w:World) (K:PySem.W.Frag) (mg:Str→Option Value) (base:Heap) (A:Around) (outer:List Env) (s:Shared) (H:Hp):Prop where
 frames:A.frames=some outer
 mod:Mod K mg base
 bs:∀ b o,base.get? b=some o→s.heap.get? b=some o∧H b=none
 bsz:base.objs.size ≤ s.heap.objs.size
 funs:s.heap.FunFrames base outer
 frf:∀ b ∈ frs outer,H b=none
 hok:HOk P w H s.heap
 bare:AllBare s.gens
def CE (outer:List Env) (P:Program) (w:World) (H:Hp) (s:Shared) (Q:VK) (u:Value) (s':Shared):Prop :=
 ∃ v H',s'.os=s.os∧AllBare s'.gens∧Un (frs outer) [] H H' s.heap s'.heap∧HOk P w H' s'.heap∧RelV v u∧Q v H'
def CR (CX:CXT) (outer:List Env) (P:Program) (w:World) (H:Hp) (s:Shared) (Q:VK) (E:XK) (r:Result) (s':Shared):Prop :=
 match r with
 | .ok (.ret u)=>CE outer P w H s Q u s'
 | .ok _=>False
 | .error e=>CX outer H s E e s'
structure FnOk (P:Program) (w:World) (K:PySem.W.Frag) (mg:Str→Option Value) (base:Heap) (CX:CXT) (k:Nat) (f:Addr) (fd:FuncData) (ps:List Str) (sp:Sp):Prop where
 len:∀ vs H Q E,sp vs H Q E→vs.length=ps.length
 run:∀ (A:Around) (outer:List Env) (s:Shared) (H:Hp) (args:Args) (us:List Value) (vs:List V) (Q:VK) (E:XK),Room k A→Env0 P w K mg base A outer s H→BindsTo s fd args (ps.zip us)→Vals vs us→sp vs H Q E →
  codeAny (model P w) A (.call (.ref f) args) (CR CX outer P w H s Q E) s
theorem Env0.make {P:Program} {w:World} {K:PySem.W.Frag} {mg:Str→Option Value} {base:Heap} {A:Around} {outer:List Env} {s:Shared} {H:Hp} (e:Env0 P w K mg base A outer s H) (C:Addr) (us:List Value) (kw:List (Str × Value)) :
  Env0 P w K mg base (A.under (.builtin "type.__call__" ⟨.ref C :: us,kw⟩)) outer s H:=⟨by first | exact e.frames | (simpa [Around.under,Code.envs,Code.isFrame,pushEnvs] using e.frames),e.mod,e.bs,e.bsz,e.funs,e.frf,e.hok,e.bare⟩
section
variable {X:Cx} {pins:List (Addr × Obj)} {σ:St} {H:Hp} {s s':Shared}
theorem Inv.env0 (I:Inv X pins σ H s):Env0 X.prog X.w X.K X.mg X.base X.A X.stack s H :=
 ⟨I.ok.frames,I.ok.mod,I.bs,Nat.le_trans I.ok.bsz I.sz,I.stack,I.stkFree,I.hok,I.bare⟩
theorem Inv.after {Q:VK} {u:Value} (I:Inv X pins σ H s) (h:CE X.stack X.prog X.w H s Q u s'):EP X pins σ Q u s':=by
 obtain ⟨v,H',os,bare,un,hok,r,q⟩:=h
 obtain ⟨hh,g,d,t,os'⟩:=s'
 obtain rfl:os'=s.os:=os
 exact ⟨v,H',I.call (h':=hh) (g':=g) (d':=d) (t':=t) (ch:=[]) un hok bare (fun b z=>absurd z (by simp)),r,q⟩
end
def tCall (sp:Sp) (dvs:List V) (E:XK) (t:TA):TE:=fun σ H Q=>t σ H fun vs H1=>sp (vs ++ dvs) H1 Q E
def tMeth (C:Addr) (m:Str) (sp:Sp) (dvs:List V) (E:XK) (ta:TE) (t:TA):TE:=fun σ H Q=>ta σ H fun x H1=>∃ a dx fs,x=.ref a∧H1 a=some (.ins C dx fs)∧fs.lookup m=none ∧
 t σ H1 fun vs H2=>sp (x :: (vs ++ dvs)) H2 Q E
def tMake (C:Addr) (sp:Sp) (dvs:List V) (E:XK) (t:TA):TE:=fun σ H Q=>t σ H fun vs H1=>∀ x dx,H1 x=none→H1 dx=none→dx ≠ x →
 sp (.ref x :: (vs ++ dvs)) (upd (upd H1 dx (.own x)) x (.ins C dx [])) (fun v H2=>v=.non∧Q (.ref x) H2) E
def Binds (K:PySem.W.Frag) (fd:FuncData) (ps:List Str) (ds:List Value):Prop :=
 ∀ (s:Shared) (us:List Value),K.In s.heap→(us ++ ds).length=ps.length→BindsTo s fd ⟨us,[]⟩ (ps.zip (us ++ ds))
theorem Binds.all {K:PySem.W.Frag} {fd:FuncData} {ps:List Str} (h:∀ us:List Value,us.length=ps.length→bindArgs fd ⟨us,[]⟩=pure (ps.zip us)):Binds K fd ps []:=fun s us _ hl=>by
 rw [List.append_nil] at hl ⊢
 exact .of_eq (h us hl)
def Passes (CX:CXT) (X:Cx) (E:XK):Prop:=∀ (pins:List (Addr × Obj)) (σ:St) (H:Hp) (s:Shared) (e:Value) (s':Shared),Inv X pins σ H s→CX X.stack H s E e s'→X.xe e s'
section
variable {X:Cx} {CX:CXT} {k:Nat} {f C:Addr} {fd:FuncData} {ps:List Str} {sp:Sp} {dvs:List V} {ds:List Value} {E:XK} {x m:Str} {p pos apos:Pos} {e o:Expr} {es:List Expr} {ta:TE} {t:TA}
theorem run_fn {pins:List (Addr × Obj)} {σ:St} {H:Hp} {s:Shared} {Q:VK} {us:List Value} {vs:List V} (F:FnOk X.prog X.w X.K X.mg X.base CX k f fd ps sp) (hr:Room k X.A) (hb:Binds X.K fd ps ds) (hd:Vals dvs ds) (hx:Passes CX X E)
  (I:Inv X pins σ H s) (r:Vals vs us) (h:sp (vs ++ dvs) H Q E):wpAny (model X.prog X.w) X.A (call (.ref f) us) (EP X pins σ Q) X.xe s:=by
 have r2:Vals (vs ++ dvs) (us ++ ds):=r.append hd
 have hl:(us ++ ds).length=ps.length:=by rw [← r2.length]; exact F.len _ _ _ _ h
 refine wpAny_call (codeAny_mono (F.run X.A X.stack s H ⟨us,[]⟩ (us ++ ds) (vs ++ dvs) Q E hr I.env0 (hb s us I.kIn hl) r2 h) fun r s' hq=>?_)
 cases r with
 | error e=>exact hx pins σ H s e s' I hq
 | ok fl =>
  cases fl with
  | ret u=>exact I.after hq
  | next=>exact False.elim hq
  | brk=>exact False.elim hq
  | cont=>exact False.elim hq
theorem pe_call (F:FnOk X.prog X.w X.K X.mg X.base CX k f fd ps sp) (hr:Room k X.A) (hg:Gl X x) (hm:X.mg x=some (.ref f)) (hk:PySem.W.keepIn X.K (.ref f)=true) (hb:Binds X.K fd ps ds) (hd:Vals dvs ds) (hx:Passes CX X E)
  (ha:PA X (e :: es) t) (hdb:(x == ("__debug__":Str))=false:=by decide) (he:starEach (e :: es) X.env=(false,eval e X.env) :: starEach es X.env:=by rfl) (hpl:(backTo pos (starEach es X.env)).any (·.1)=false:=by rfl) :
  PE X (.Call (.Name x p) (e :: es) [] pos) (tCall sp dvs E t):=by
 intro pins s σ H Q I h
 refine wpAny_Call_Name_kw (ld_glob I hg hm ?_ hdb)
 refine PySem.W.callWith_K (h₀:=X.base) I.ok.mod.kin hk (thn (ha pos pins s σ H _ I h) fun us s1 ⟨vs,H1,I1,r,q⟩=>⟨I1.kIn,?_⟩) he hpl
 exact run_fn F hr hb hd hx I1 r q
theorem pe_meth {pl:Sem Bool} (he:PE X o ta) (c:Cls X.K C) (hm:Meth X.K C m f) (F:FnOk X.prog X.w X.K X.mg X.base CX k f fd ps sp) (hr:Room k X.A) (hb:Binds X.K fd ps ds) (hd:Vals dvs ds) (hx:Passes CX X E) (ha:PA X (e :: es) t)
  (hst:starEach (e :: es) X.env=(false,eval e X.env) :: starEach es X.env:=by rfl) (hpl:(backTo pos (starEach es X.env)).any (·.1)=false:=by rfl)
  (ht:eval (.Call (.Attribute o m apos) (e :: es) [] pos) X.env=(do
   let ov ← eval o X.env
   standAt apos.atName
   let (f,first) ← holding [ov] (getMethod ov m pl)
   callWith pos f first (backTo pos (starEach (e :: es) X.env)) (backToKw pos (keywordEach [] X.env))):=by rfl) :
  PE X (.Call (.Attribute o m apos) (e :: es) [] pos) (tMeth C m sp dvs E ta t):=by
 intro pins s σ H Q I h
 refine PySem.W.methodCall_KW (pl:=pl) (thn (he pins s σ H _ I h) fun u s1 ⟨x,H1,I1,rx,a,dx,fs,ex,ea,l,q⟩=>?_) ht
 subst ex
 obtain rfl:u=Value.ref a:=rx
 refine getmeth_ok I1 ea c hm l ?_
 refine PySem.W.callWith_K (first:=[.ref a]) (h₀:=X.base) I.ok.mod.kin hm.kp (thn (ha pos pins s1 σ H1 _ I1 q) fun us s2 ⟨vs,H2,I2,r,q2⟩=>⟨I2.kIn,?_⟩) hst hpl
 exact run_fn (us:=.ref a :: us) (vs:=.ref a :: vs) F hr hb hd hx I2 (.cons rfl r) q2
structure Mk (K:PySem.W.Frag) (C f:Addr):Prop where
 makes:PySem.W.makesIn K C=true
 init:PySem.W.findIn K (.ref C) "__init__"=some (some (.ref f))
 fn:PySem.W.isFn K (.ref f)=true
 kp:PySem.W.keepIn K (.ref C)=true
theorem run_make {pins:List (Addr × Obj)} {σ:St} {H:Hp} {s:Shared} {Q:VK} {us:List Value} {vs:List V} (M:Mk X.K C f) (F:FnOk X.prog X.w X.K X.mg X.base CX k f fd ps sp) (hr:Room (k + 1) X.A) (hb:Binds X.K fd ps ds) (hd:Vals dvs ds)
  (hx:Passes CX X E) (I:Inv X pins σ H s) (r:Vals vs us)
  (h:∀ x dx,H x=none→H dx=none→dx ≠ x→sp (.ref x :: (vs ++ dvs)) (upd (upd H dx (.own x)) x (.ins C dx [])) (fun v H2=>v=.non∧Q (.ref x) H2) E) :
  wpAny (model X.prog X.w) X.A (call (.ref C) us) (EP X pins σ Q) X.xe s:=by
 have hq:=h (s.heap.objs.size + 1) s.heap.objs.size (I.hok.fresh (Nat.le_succ _)) (I.hok.fresh (Nat.le_refl _)) (Nat.ne_of_lt (Nat.lt_succ_self _))
 have I2:=Inv.made (C:=C) I
 have r2:Vals (V.ref (s.heap.objs.size + 1) :: (vs ++ dvs)) (Value.ref (s.heap.objs.size + 1) :: (us ++ ds)):=.cons rfl (r.append hd)
 have hl:(Value.ref (s.heap.objs.size + 1) :: us ++ ds).length=ps.length:=by
  have e:=r2.length
  rw [F.len _ _ _ _ hq] at e
  exact e.symm
 refine wpAny_call (make_map (f:=f) I.kIn M.makes M.init (beq_iff_eq.mp M.fn) (codeAny_mono (F.run _ X.stack _ _ ⟨Value.ref (s.heap.objs.size + 1) :: us,[]⟩ (Value.ref (s.heap.objs.size + 1) :: (us ++ ds)) _ _ E (hr.make C us [])
  (I2.env0.make C us []) (hb _ (Value.ref (s.heap.objs.size + 1) :: us) I2.kIn hl) r2 hq) fun r s' hq'=>?_))
 cases r with
 | error e=>exact hx pins σ _ _ e s' I2 hq'
 | ok fl =>
  cases fl with
  | ret u =>
   obtain ⟨v,H',I3,rv,ev,q3⟩:=I2.after hq'
   subst ev
   exact ⟨rv,⟨V.ref (s.heap.objs.size + 1),H',I3,rfl,q3⟩⟩
  | next=>exact False.elim hq'
  | brk=>exact False.elim hq'
  | cont=>exact False.elim hq'
theorem pe_make (M:Mk X.K C f) (F:FnOk X.prog X.w X.K X.mg X.base CX k f fd ps sp) (hr:Room (k + 1) X.A) (hg:Gl X x) (hm:X.mg x=some (.ref C)) (hb:Binds X.K fd ps ds) (hd:Vals dvs ds) (hx:Passes CX X E)
  (ha:PA X (e :: es) t) (hdb:(x == ("__debug__":Str))=false:=by decide) (he:starEach (e :: es) X.env=(false,eval e X.env) :: starEach es X.env:=by rfl) (hpl:(backTo pos (starEach es X.env)).any (·.1)=false:=by rfl) :
  PE X (.Call (.Name x p) (e :: es) [] pos) (tMake C sp dvs E t):=by
 intro pins s σ H Q I h
 refine wpAny_Call_Name_kw (ld_glob I hg hm ?_ hdb)
 refine PySem.W.callWith_K (h₀:=X.base) I.ok.mod.kin M.kp (thn (ha pos pins s σ H _ I h) fun us s1 ⟨vs,H1,I1,r,q⟩=>⟨I1.kIn,?_⟩) he hpl
 exact run_make M F hr hb hd hx I1 r q
end
def PK (X:Cx) (kws:List Keyword) (t:TA):Prop :=
 ∀ (pos:Pos) (pins:List (Addr × Obj)) (s:Shared) (σ:St) (H:Hp) (Q:List V→Hp→Prop),Inv X pins σ H s→t σ H Q→wpAny (model X.prog X.w) X.A (evalAll ((backToKw pos (keywordEach kws X.env)).map (·.2))) (AP X pins σ Q) X.xe s
section
variable {X:Cx} {CX:CXT} {k:Nat} {f C:Addr} {fd:FuncData} {ps ks:List Str} {sp:Sp} {E:XK} {x m:Str} {p pos apos kpos:Pos} {e o:Expr} {es:List Expr} {kws:List Keyword} {te ta:TE} {t tk:TA} {nm:Option Str}
theorem pk_nil:PK X [] tNil:=fun _ _ _ _ H Q I h=>wpAny_evalAll_nil ⟨[],H,I,.nil,h⟩
theorem pk_cons (ha:PE X e te) (hr:PK X kws t):PK X (⟨nm,e,kpos⟩ :: kws) (tCons te t):=by
 intro pos pins s σ H Q I h
 show wpAny _ _ (evalAll ((do let v ← eval e X.env; standAt pos; pure v) :: (backToKw pos (keywordEach kws X.env)).map (·.2))) _ _ s
 refine wpAny_evalAll_cons (wpAny_bind (thn (ha pins s σ H _ I h) fun u s1 ⟨x,H1,I1,r1,q1⟩=>wpAny_bind (wpAny_standAt (wpAny_pure ?_))))
 exact thn (hr pos pins s1 σ H1 _ I1 q1) fun us s2 ⟨xs,H2,I2,r2,q2⟩=>⟨x :: xs,H2,I2,.cons r1 r2,q2⟩
variable {g:List Value→List Value→List Value} {gV:List V→List V→List V}
end
structure FnScope (N P:List Str) (sc:Scope):Prop where
 kind:sc.kind=.function
 co:sc.isCoroutine=false
 gen:sc.isGenerator=false
 nd:N.Nodup
 pre:N.take P.length=P
 par:∀ x ∈ P,sc.names.lookup x=some .local ∨ sc.names.lookup x=some .cell
 nofree:∀ y ∈ sc.names,y.2 ≠ .free
theorem bindL_out {kindOf:Str→Option NameKind} {x:Str}:∀ {binds:List (Str × Value)} {m:Str→Option Value},(∀ v,(x,v) ∉ binds)→bindL kindOf binds m x=m x
 | [],_,_=>rfl
 | (n,v) :: r,m,h=>by
  unfold bindL
  rw [bindL_out fun w hw=>h w (List.mem_cons_of_mem _ hw)]
  split
  ·have:x ≠ n:=by rintro rfl; exact h v List.mem_cons_self
   simp [this]
  ·rfl
theorem bindC_out {kindOf:Str→Option NameKind} {x:Str}:∀ {binds:List (Str × Value)} {m:Str→Option Value},(∀ v,(x,v) ∉ binds)→bindC kindOf binds m x=m x
 | [],_,_=>rfl
 | (n,v) :: r,m,h=>by
  unfold bindC
  rw [bindC_out fun w hw=>h w (List.mem_cons_of_mem _ hw)]
  split
  ·rfl
  ·have:x ≠ n:=by rintro rfl; exact h v List.mem_cons_self
   simp [this]
theorem bindL_get {kindOf:Str→Option NameKind} {x:Str} {v:Value}:∀ {P:List Str} {vs:List Value} {i:Nat} {m:Str→Option Value},P.Nodup→P[i]?=some x→vs[i]?=some v→kindOf x=some .local →
  bindL kindOf (P.zip vs) m x=some v
 | [],_,_,_,_,h,_,_=>by simp at h
 | _ :: _,[],_,_,_,_,h,_=>by simp at h
 | p :: P,w :: vs,0,m,nd,h1,h2,hk=>by
  simp at h1 h2; subst h1; subst h2
  show bindL kindOf ((p,w) :: P.zip vs) m p=_
  unfold bindL
  rw [bindL_out fun v hv=>(List.nodup_cons.mp nd).1 (List.of_mem_zip hv).1,if_pos hk]
  simp
 | p :: P,w :: vs,i + 1,m,nd,h1,h2,hk=>by
  show bindL kindOf ((p,w) :: P.zip vs) m x=_
  unfold bindL
  exact bindL_get (i:=i) (List.nodup_cons.mp nd).2 (by simpa using h1) (by simpa using h2) hk
theorem bindC_get {kindOf:Str→Option NameKind} {x:Str} {v:Value}:∀ {P:List Str} {vs:List Value} {i:Nat} {m:Str→Option Value},P.Nodup→P[i]?=some x→vs[i]?=some v→kindOf x ≠ some .local →
  bindC kindOf (P.zip vs) m x=some v
 | [],_,_,_,_,h,_,_=>by simp at h
 | _ :: _,[],_,_,_,_,h,_=>by simp at h
 | p :: P,w :: vs,0,m,nd,h1,h2,hk=>by
  simp at h1 h2; subst h1; subst h2
  show bindC kindOf ((p,w) :: P.zip vs) m p=_
  unfold bindC
  rw [bindC_out fun v hv=>(List.nodup_cons.mp nd).1 (List.of_mem_zip hv).1,if_neg hk]
  simp
 | p :: P,w :: vs,i + 1,m,nd,h1,h2,hk=>by
  show bindC kindOf ((p,w) :: P.zip vs) m x=_
  unfold bindC
  exact bindC_get (i:=i) (List.nodup_cons.mp nd).2 (by simpa using h1) (by simpa using h2) hk
def start (N:List Str) (vs:List V):St:=vs.map some ++ List.replicate (N.length - vs.length) none
def cxOf (CX:CXT) (P:Program) (w:World) (K:PySem.W.Frag) (mg:Str→Option Value) (base:Heap) (N:List Str) (qual:Str) (scope:Scope) (f:Addr) (cd:Value) (A:Around) (outer:List Env) (s:Shared) (H:Hp) (E:XK):Cx where
 prog:=P
 w:=w
 K:=K
 mg:=mg
 base:=base
 A:=A.deeper (envOfC qual scope s.heap.objs.size f cd)
 N:=N
 s₀:=s
 H₀:=H
 env:=envOfC qual scope s.heap.objs.size f cd
 outer:=outer
 stack:=envOfC qual scope s.heap.objs.size f cd :: outer
 ex:=[]
 calm:=true
 fn:=fun _=>true
 pn:=[]
 xe:=fun e s'=>wpAny (model P w) (A.deeper (envOfC qual scope s.heap.objs.size f cd)) (leaving (envOfC qual scope s.heap.objs.size f cd) e) (fun _ s''=>CX outer H s E e s'') (fun e' s''=>CX outer H s E e' s'') s'
theorem cell_has {sc:Scope} {n:Nat} {x:Str} (h:sc.names.lookup x=some .cell):∃ c,(cellsFrom n sc.names []).lookup x=some c:=by
 have q:=PySem.W.cellsFrom_some sc.names n [] (.inl h)
 exact Option.isSome_iff_exists.mp q
theorem inv_start {CX:CXT} {P:Program} {w:World} {K:PySem.W.Frag} {mg:Str→Option Value} {base:Heap} {N ps:List Str} {qual:Str} {scope:Scope} {f:Addr} {cd:Value} {A:Around} {outer:List Env} {s s1:Shared} {H:Hp} {E:XK} {us:List Value} {vs:List V}
  (S:FnScope N ps scope) (hd:A.handled=none) (e0:Env0 P w K mg base A outer s H) (hl:vs.length=ps.length) (r:Vals vs us)
  (x:InCallC s s.heap.objs.size (bindL (envOfC qual scope s.heap.objs.size f cd).kindOf (ps.zip us) fun _=>none) (cellsFrom (s.heap.objs.size + 1) scope.names []) (bindC (envOfC qual scope s.heap.objs.size f cd).kindOf (ps.zip us) fun _=>none) s1) :
  Inv (cxOf CX P w K mg base N qual scope f cd A outer s H E) [] (start N vs) H s1:=by
 have hpl:ps.length ≤ N.length:=by have:=congrArg List.length S.pre; rw [List.length_take] at this; omega
 obtain ⟨h1,tk,rfl,hk⟩:=x.done
 have noA:∀ b:Addr,b ∉ (cxOf CX P w K mg base N qual scope f cd A outer s H E).ex:=fun b z=>absurd (show b ∈ ([]:List Addr) from z) (by simp)
 refine ⟨⟨e0.mod,S.kind,rfl,rfl,Nat.le_refl _,fun y z c h1 h2=>?_,fun y hy=>?_,fun y c _ h=>?_,fun _=>hd,Around.frames_deeper e0.frames,.inr ⟨rfl,rfl⟩,fun b z=>absurd z (noA b),e0.bs,e0.bsz,fun b _ _=>noA b,fun b z=>absurd z (noA b),e0.funs,e0.frf⟩,
  rfl,e0.bare,Un.kept hk,⟨_,x.toInCall.ns,fun i y v h1 h2 h3=>?_⟩,fun y c h=>⟨_,x.cell y c h⟩,e0.hok.fresh (Nat.le_refl _),fun y c h=>?_,fun p hp=>absurd (show p ∈ ([]:List (Addr × Obj)) from hp) (by simp),e0.hok.kept hk,?_⟩
 ·exact name_of_addr x.apart (PySem.mem_of_lookup h1) (PySem.mem_of_lookup h2)
 ·have hy:scope.names.lookup y=some .cell ∨ scope.names.lookup y=some .free:=hy
  rcases hy with hy | hy
  ·exact cell_has hy
  ·exact absurd rfl (S.nofree _ (PySem.mem_of_lookup hy))
 ·exact Nat.le_of_lt (x.above y c (PySem.mem_of_lookup h))
 ·have hi:i < vs.length:=by
   unfold start at h2
   by_cases hi:i < vs.length
   ·exact hi
   ·rw [List.getElem?_append_right (by simpa using hi)] at h2
    rw [List.getElem?_replicate] at h2
    split at h2 <;> cases h2
  have ha:vs[i]?=some v:=by
   unfold start at h2
   rw [List.getElem?_append_left (by simpa using hi),List.getElem?_map] at h2
   cases e:vs[i]? with
   | none=>rw [e] at h2; cases h2
   | some a=>rw [e] at h2; cases h2; rfl
  obtain ⟨u,hu,rv⟩:=r.get ha
  have hp:ps[i]?=some y:=by
   rw [← S.pre,List.getElem?_take_of_lt (by omega)]; exact h1
  have ndP:ps.Nodup:=by rw [← S.pre]; exact S.nd.sublist (List.take_sublist _ _)
  refine ⟨u,rv,?_⟩
  rcases S.par y (List.mem_of_getElem? hp) with k | k
  ·exact .inl ⟨k,bindL_get ndP hp hu k⟩
  ·obtain ⟨c,e⟩:=cell_has (n:=s.heap.objs.size + 1) k
   refine .inr ⟨.inl k,c,e,?_⟩
   have q:=x.cell y c e
   rw [bindC_get ndP hp hu (by show scope.names.lookup y ≠ _; rw [k]; decide)] at q
   exact q
 ·exact e0.hok.fresh (Nat.le_of_lt (x.above y c (PySem.mem_of_lookup h)))
 ·unfold start
  show _=N.length
  rw [List.length_append,List.length_map,List.length_replicate]
  omega
theorem fn_of {CX:CXT} {P:Program} {w:World} {K:PySem.W.Frag} {mg:Str→Option Value} {base:Heap} {k:Nat} {f:Addr} {name qual:Str} {params:Arguments} {body:List Stmt} {scope:Scope} {dV kV doc pm cdv ct oc:Value} {an od:Option Addr}
  {osl:Array (Option Value)} {N ps:List Str} {sp:Sp} (lk:K.lookup f=some ⟨oc,od,.func (PySem.W.fnOf name qual params body scope dV kV doc pm an cdv ct),osl⟩) (hcd:PySem.W.codeIn K cdv qual=true) (S:FnScope N ps scope)
  (len:∀ vs H Q E,sp vs H Q E→vs.length=ps.length)
  (hbody:∀ (A:Around) (outer:List Env) (s:Shared) (H:Hp) (vs:List V) (Q:VK) (E:XK),Room k (A.deeper (envOfC qual scope s.heap.objs.size f cdv))→sp vs H Q E →
   ∃ t,PSs (cxOf CX P w K mg base N qual scope f cdv A outer s H E) body t∧t { nx:=fun _ H'=>Q .non H',rt:=Q } (start N vs) H) :
  FnOk P w K mg base CX (k + 1) f (PySem.W.fnOf name qual params body scope dV kV doc pm an cdv ct) ps sp:=by
 refine ⟨len,fun A outer s H args us vs Q E hr e0 hb r hsp=>?_⟩
 have hl:=len _ _ _ _ hsp
 have KX:K.In s.heap:=e0.mod.kin.keeps fun b o e=>(e0.bs b o e).1
 have lim:s.heap.NoLimit:=e0.mod.nolimit.keeps fun b o e=>(e0.bs b o e).1
 have hkind:∀ y ∈ ps.zip us,scope.names.lookup y.1=some .local ∨ (scope.names.lookup y.1=some .cell∧((cellsFrom (s.heap.objs.size + 1) scope.names []).lookup y.1).isSome=true):=fun ⟨n,v⟩ hy=>by
  rcases S.par n (List.of_mem_zip hy).1 with q | q
  ·exact .inl q
  ·exact .inr ⟨q,PySem.W.cellsFrom_some _ _ _ (.inl q)⟩
 refine codeAny_call_function hr.depth (KX _ _ lk) rfl S.co S.gen rfl (PySem.W.codeRec_of KX hcd) (hb _ _ _ _ ?_)
 refine wpAny_newFunctionEnv_cells S.kind hkind fun env he s1 x=>?_
 subst he
 refine ⟨lim.keeps x.toInCall.keep,codeAny_func ?_⟩
 obtain ⟨t,ht,hq⟩:=hbody A outer s H vs Q E (hr.deeper _) hsp
 have I:Inv (cxOf CX P w K mg base N qual scope f cdv A outer s H E) [] (start N vs) H s1:=inv_start S hr.hd e0 hl r x
 refine wpAny_mono (ht [] s1 (start N vs) H _ I hq) (fun fl s' hs=>?_) fun e s' hs=>hs
 have fin:∀ {σ':St} {H':Hp} {v:V} {u:Value},Inv (cxOf CX P w K mg base N qual scope f cdv A outer s H E) [] σ' H' s'→RelV v u→Q v H'→CE outer P w H s Q u s' :=
  fun {σ' H' v u} J rv q=>⟨v,H',J.os,J.bare,J.base,J.hok,rv,q⟩
 cases fl with
 | ret u =>
  obtain ⟨v,σ',H',J,rv,q⟩:=hs
  exact fin J rv q
 | next =>
  obtain ⟨σ',H',J,q⟩:=hs
  exact fin (v:=V.non) (u:=Value.none) J rfl q
 | brk =>
  obtain ⟨_,_,_,q⟩:=hs
  exact False.elim q
 | cont =>
  obtain ⟨_,_,_,q⟩:=hs
  exact False.elim q
end L2
namespace L2
open PySem PySem.Spec PyProof.Rows
section
variable {X:Cx} {x:Str} {p pos:Pos} {e:Expr} {es:List Expr} {t:TA} {id T:String} {r:List V→Hp→VK→Prop}
def tCB (r:List V→Hp→VK→Prop) (t:TA):TE:=fun σ H Q=>t σ H fun vs H1=>r vs H1 Q
theorem pe_callB (hc:CallR X (.builtin id) r) (hg:Gl X x) (hm:X.mg x=none) (hv:bootBuiltins x=some (.builtin id)) (ha:PA X (e :: es) t) (hn:x ≠ "__name__":=by decide) (hdb:(x == ("__debug__":Str))=false:=by decide)
  (he:starEach (e :: es) X.env=(false,eval e X.env) :: starEach es X.env:=by rfl) (hpl:(backTo pos (starEach es X.env)).any (·.1)=false:=by rfl):PE X (.Call (.Name x p) (e :: es) [] pos) (tCB r t):=by
 intro pins s σ H Q I h
 refine wpAny_Call_Name_kw (ld_blt I hg hm hv ?_ hn hdb)
 exact PyProof.Rows.callWith_builtin1 (thn (ha pos pins s σ H _ I h) fun us s1 ⟨vs,H1,I1,r1,q1⟩=>hc pins s1 σ H1 vs us Q I1 r1 q1) he hpl
theorem pe_callTy (hc:CallR X (.type T) r) (hg:Gl X x) (hm:X.mg x=none) (hv:bootBuiltins x=some (.type T)) (ha:PA X (e :: es) t) (hn:x ≠ "__name__":=by decide) (hdb:(x == ("__debug__":Str))=false:=by decide)
  (he:starEach (e :: es) X.env=(false,eval e X.env) :: starEach es X.env:=by rfl) (hpl:(backTo pos (starEach es X.env)).any (·.1)=false:=by rfl):PE X (.Call (.Name x p) (e :: es) [] pos) (tCB r t):=by
 intro pins s σ H Q I h
 refine wpAny_Call_Name_kw (ld_blt I hg hm hv ?_ hn hdb)
 exact PyProof.Rows.callWith_type1 (thn (ha pos pins s σ H _ I h) fun us s1 ⟨vs,H1,I1,r1,q1⟩=>hc pins s1 σ H1 vs us Q I1 r1 q1) he hpl
end
end L2
namespace HT
open PySem PyProof.Rows
def lexLt:List Int→List Int→Bool
 | [],[]=>false
 | [],_ :: _=>true
 | _ :: _,[]=>false
 | x :: xs,y :: ys=>if x=y then lexLt xs ys else decide (x < y)
theorem lexLt_cons (x y:Int) (xs ys:List Int):lexLt (x :: xs) (y :: ys)=if x=y then lexLt xs ys else decide (x < y):=rfl
theorem lexLt_nil_nil:lexLt [] []=false:=rfl
theorem lexLt_nil_cons (y:Int) (ys:List Int):lexLt [] (y :: ys)=true:=rfl
theorem lexLt_cons_nil (x:Int) (xs:List Int):lexLt (x :: xs) []=false:=rfl
theorem eqAt_int (A:Around) (s:Shared) (a:Int) (t:Tok) (c:Int) (u:Tok):∃ e,SeqAt.EqAt A s (.int a t) (.int c u) e∧(e=true ↔ a=c) :=
 ⟨(a == c),SeqAt.EqAt.int_int a t c u,by simp⟩
theorem rcLt_int (A:Around) (s:Shared) (a:Int) (t:Tok) (c:Int) (u:Tok) (prog:Program) (w:World) (E:Value→Shared→Prop) (Q:Value→Shared→Prop) (h:Q (.bool (decide (a < c))) s) :
  wpAny (model prog w) A (richCompare .Lt (.int a t) (.int c u)) Q E s :=
 (PyProof.Rows.lt_int h:wpAny (model prog w) A (compareOp .Lt (.int a t) (.int c u)) Q E s)
section
open PySem.SeqAt
open PySem.AutoSeq1 (wpAny_loadPart')
open PySem.MeetsSeq PySem.MeetsSeq2 PySem.MeetsSeq3
theorem tuple_lt_ints (l b:Addr) (items items2:Array Value) (n n2:Nat) (dd dd2:Option Addr) (sl sl2:Array (Option Value)) (ns ms:List Int) (hi:IntsAre items.toList ns) (hj:IntsAre items2.toList ms) :
  Meets (Builtin.«tuple.__lt__» ⟨[.ref l,.ref b],[]⟩)
   (fun _ R s=>s.heap.get? l=some { cls:=.type "tuple",dict:=dd,data:=.seq items n,slots:=sl }∧s.heap.get? b=some { cls:=.type "tuple",dict:=dd2,data:=.seq items2 n2,slots:=sl2 } ∧
    R (.ok (.ret (.bool (lexLt ns ms)))) s) :=
 .of_wp fun prog w A R s h=>by
  obtain ⟨hp,g,d,tk,os⟩:=s; obtain ⟨hl,hb,h⟩:=h
  have f2:=AutoSeq1.sub_tuple_tuple
  have z1:items.size=ns.length:=by rw [← hi.length]; simp
  have z2:items2.size=ms.length:=by rw [← hj.length]; simp
  wp_walk using wpAny_loadPart' hl,wpAny_loadPart' hb,wpAny_forIn_list _ (fun rest b s'=>b.1=none∧s'=⟨hp,g,d,tk,os⟩∧∃ (vs ws:List Value) (ns' ms':List Int),rest=vs.zip ws ∧
   IntsAre vs ns'∧IntsAre ws ms'∧ns'.length + items2.size=ms'.length + items.size∧R (.ok (.ret (.bool (lexLt ns' ms')))) ⟨hp,g,d,tk,os⟩) _
  case turn =>
   rintro ⟨y,x⟩ rest b s' ⟨hb',rfl,vs,ws,ns',ms',hz,hvi,hwi,hlen,hR⟩
   cases hvi with
   | nil=>rw [List.zip_nil_left] at hz; cases hz
   | cons a t hvi' =>
    cases hwi with
    | nil=>rw [List.zip_nil_right] at hz; cases hz
    | cons c u hwi' =>
     rw [List.zip_cons_cons] at hz
     injection hz with hyx hrest
     injection hyx with hy hx
     subst hy hx
     rw [lexLt_cons] at hR
     simp only [List.length_cons] at hlen
     obtain ⟨e,he,hiff⟩:=eqAt_int A.in1 ⟨hp,g,d,tk,os⟩ a t c u
     refine wpAny_bind (he prog w _ _ ?_)
     cases e with
     | true =>
      rw [if_pos (hiff.mp rfl)] at hR
      wp_walk
      exact ⟨rfl,rfl,_,_,_,_,hrest,hvi',hwi',by omega,hR⟩
     | false =>
      rw [if_neg (fun q=>absurd (hiff.mpr q) Bool.false_ne_true)] at hR
      have hri:=rcLt_int A.in1 ⟨hp,g,d,tk,os⟩ a t c u prog w
      wp_walk using hri
      exact ⟨_,rfl,by simpa using hR⟩
  case fin =>
   rintro ⟨b1,b2⟩ s' ⟨hb',rfl,vs,ws,ns',ms',hz,hvi,hwi,hlen,hR⟩
   simp only at hb'
   subst hb'
   have hv:lexLt ns' ms'=decide (items.size < items2.size):=by
    cases hvi with
    | nil =>
     cases hwi with
     | nil =>
      simp only [List.length_nil] at hlen
      rw [lexLt_nil_nil]
      exact (decide_eq_false (by omega)).symm
     | cons c u hw =>
      simp only [List.length_nil,List.length_cons] at hlen
      rw [lexLt_nil_cons]
      exact (decide_eq_true (by omega)).symm
    | cons a t hv =>
     cases hwi with
     | nil =>
      simp only [List.length_nil,List.length_cons] at hlen
      rw [lexLt_cons_nil]
      exact (decide_eq_false (by omega)).symm
     | cons c u hw =>
      rw [List.zip_cons_cons] at hz
      cases hz
   rw [hv] at hR
   wp_walk
   exact ⟨_,rfl,by simpa [Builtin.Tuple.tupleCompareSizes] using hR⟩
  case h =>
   exact ⟨rfl,rfl,items.toList,items2.toList,ns,ms,rfl,hi,hj,by omega,h⟩
end
section
variable {prog:Program} {w:World} {A:Around} {E:Value→Shared→Prop} {s:Shared}
theorem lt_tupInts {l b:Addr} {items items2:Array Value} {ns ms:List Int} {Q:Value→Shared→Prop} (hl:IsTup s.heap l items) (hb:IsTup s.heap b items2) (hi:IntsAre items.toList ns) (hj:IntsAre items2.toList ms)
  (hu:A.units < cLine) (h:Q (.bool (lexLt ns ms)) s):wpAny (model prog w) A (compareOp .Lt (.ref l) (.ref b)) Q E s:=by
 obtain ⟨⟨cls,dd,data,sl⟩,ho,hc,n,hd⟩:=id hl
 obtain ⟨⟨cls2,dd2,data2,sl2⟩,ho2,hc2,n2,hd2⟩:=id hb
 simp only at hc hd hc2 hd2
 subst hc hd hc2 hd2
 exact richCompare_meets_room (op:=.Lt) ⟨_,ho,rfl⟩ ⟨_,ho2,rfl⟩ PySem.F.slot_tuple_lt PySem.F.entry_tuple_lt (PySem.F.args_tuple_lt_2 _ _) (tuple_lt_ints l b items items2 n n2 dd dd2 sl sl2 ns ms hi hj)
  ⟨ho,ho2,show Value.bool (lexLt ns ms) ≠ Value.notImplemented∧Q (.bool (lexLt ns ms)) s from ⟨(fun x=>nomatch x),h⟩⟩ hu
def sIx (n d:Nat):Option Int→Nat
 | none=>d
 | some v=>if v < 0 then (v + (n:Int)).toNat else min v.toNat n
theorem sIx_none (n d:Nat):sIx n d none=d:=rfl
theorem sIx_nat (n d k:Nat):sIx n d (some (k:Int))=min k n:=by
 show (if (k:Int) < 0 then ((k:Int) + (n:Int)).toNat else min (k:Int).toNat n)=min k n
 rw [if_neg (by omega),Int.toNat_natCast]
end
end HT
namespace L2
open PySem PySem.Spec PyProof.Rows
abbrev TO:=St→Hp→(Option Int→Hp→Prop)→Prop
def PO (X:Cx) (e:Option Expr) (t:TO):Prop :=
 ∀ (pins:List (Addr × Obj)) (s:Shared) (σ:St) (H:Hp) (Q:Option Int→Hp→Prop),Inv X pins σ H s→t σ H Q →
  wpAny (model X.prog X.w) X.A (evalPart e X.env) (fun u s'=>∃ o H',Inv X pins σ H' s'∧IsPart u o∧Q o H') X.xe s
def tNoPart:TO:=fun _ H Q=>Q none H
def tPart (t:TE):TO:=fun σ H Q=>t σ H fun x H1=>∃ i,x=.int i∧Q (some i) H1
theorem intsAre_of {ns:List Int}:∀ {us:List Value},Vals (ns.map V.int) us→IntsAre us ns:=by
 induction ns with
 | nil=>intro us r; rw [List.map_nil] at r; cases r; exact .nil
 | cons n ns ih =>
  intro us r
  rw [List.map_cons] at r
  cases r with
  | cons r1 r2 =>
   obtain ⟨t,e⟩:=r1
   subst e
   exact .cons n t (ih r2)
section
variable {X:Cx} {e:Expr} {te:TE} {lo hi:Option Expr} {tl th:TO} {pos p2:Pos}
theorem po_none:PO X none tNoPart:=by
 intro pins s σ H Q I h
 rw [evalPart_none]
 exact wpAny_pure ⟨none,H,I,.none,h⟩
theorem po_some (h:PE X e te):PO X (some e) (tPart te):=by
 intro pins s σ H Q I hw
 rw [evalPart_some]
 refine thn (h pins s σ H _ I hw) fun u s1 ⟨x,H1,I1,r1,q1⟩=>?_
 obtain ⟨i,rfl,q⟩:=q1
 obtain ⟨t,rfl⟩:=r1
 exact ⟨some i,H1,I1,.int i t,q⟩
def SlR (X:Cx) (r:V→Option Int→Option Int→Hp→VK→Prop):Prop :=
 ∀ (pins:List (Addr × Obj)) (s:Shared) (σ:St) (H:Hp) (x:V) (v vl vu:Value) (lo hi:Option Int) (sl:Addr) (Q:VK),Inv X pins σ H s→RelV x v→s.heap.IsSliceOf sl vl vu .none→IsPart vl lo→IsPart vu hi→r x lo hi H Q →
  ∃ T id,typeLookup (.type T) "__getitem__"=pure (some (.builtin id))∧s.TypeIs v T∧wpAny (model X.prog X.w) X.A (getItem v (.ref sl)) (EP X pins σ Q) X.xe s
def tSl (r:V→Option Int→Option Int→Hp→VK→Prop) (te:TE) (tl th:TO):TE:=fun σ H Q=>te σ H fun x H1=>tl σ H1 fun l H2=>th σ H2 fun u H3=>r x l u H3 Q
theorem pe_slice {r:V→Option Int→Option Int→Hp→VK→Prop} (hr:SlR X r) (he:PE X e te) (hl:PO X lo tl) (hu:PO X hi th):PE X (.Subscript e (.Slice lo hi none p2) pos) (tSl r te tl th):=by
 intro pins s σ H Q I h
 refine Subscript_ (thn (he pins s σ H _ I h) fun v s1 ⟨x,H1,I1,r1,q1⟩=>?_)
 refine wpAny_Slice (thn (hl pins s1 σ H1 _ I1 q1) fun vl s2 ⟨l,H2,I2,pl,q2⟩=>thn (hu pins s2 σ H2 _ I2 q2) fun vu s3 ⟨u,H3,I3,pu,q3⟩=>?_)
 rw [evalPart_none]
 refine wpAny_pure ?_
 have I4:Inv X pins σ H3 { s3 with heap:=s3.heap.push { cls:=.type "slice",data:=.fields #[vl,vu,.none] } }:=I3.kept (t':=s3.toks) fun b ob q=>Heap.get?_push_of_some _ q
 obtain ⟨T,id,hT,ht,hg⟩:=hr pins { s3 with heap:=s3.heap.push { cls:=.type "slice",data:=.fields #[vl,vu,.none] } } σ H3 x v vl vu l u s3.heap.objs.size Q I4 r1 (Heap.IsSliceOf.new ..) pl pu q3
 show wpAny (model X.prog X.w) X.A (subscriptTail e (.Slice lo hi none p2) v (.ref s3.heap.objs.size)) (EP X pins σ Q) X.xe { s3 with heap:=s3.heap.push { cls:=.type "slice",data:=.fields #[vl,vu,.none] } }
 exact tail_any (ops:=[.ref s3.heap.objs.size,v]) ht hT hg (by with_unfolding_all rfl)
def cutV (xs:List V) (lo hi:Option Int):List V:=(xs.drop (HT.sIx xs.length 0 lo)).take (HT.sIx xs.length xs.length hi - HT.sIx xs.length 0 lo)
theorem cutV_length (xs:List V) (lo hi:Option Int):(cutV xs lo hi).length ≤ xs.length:=by
 unfold cutV
 rw [List.length_take,List.length_drop]
 omega
end
end L2
namespace L2
open PySem PySem.Spec PyProof.Rows
def ixN (n:Nat) (i:Int):Option Nat:=if 0 ≤ i then (if i < n then some i.toNat else none) else if -(n:Int) ≤ i then some (i + n).toNat else none
def atI {α:Type} (xs:List α) (i:Int):Option α:=(ixN xs.length i).bind fun j=>xs[j]?
theorem ixN_seq {n:Nat} {i:Int} {j:Nat} (h:ixN n i=some j):seqIndex? i n=some j∧j < n∧-(n:Int) ≤ i∧i < n:=by
 unfold ixN at h
 by_cases h0:0 ≤ i
 ·rw [if_pos h0] at h
  by_cases h1:i < n
  ·rw [if_pos h1] at h
   have e:i.toNat=j:=Option.some.inj h
   exact ⟨by rw [seqIndex_of h0 h1,e],by omega,by omega,h1⟩
  ·rw [if_neg h1] at h; cases h
 ·rw [if_neg h0] at h
  by_cases h1:-(n:Int) ≤ i
  ·rw [if_pos h1] at h
   have e:(i + n).toNat=j:=Option.some.inj h
   exact ⟨by rw [seqIndex_neg (by omega) h1,e],by omega,h1,by omega⟩
  ·rw [if_neg h1] at h; cases h
theorem atI_get {α:Type} {xs:List α} {i:Int} {v:α} (h:atI xs i=some v):∃ j,seqIndex? i xs.length=some j∧xs[j]?=some v∧j < xs.length∧-(xs.length:Int) ≤ i∧i < xs.length:=by
 unfold atI at h
 cases e:ixN xs.length i with
 | none=>rw [e] at h; cases h
 | some j =>
  rw [e] at h
  obtain ⟨h1,h2,h3,h4⟩:=ixN_seq e
  exact ⟨j,h1,h,h2,h3,h4⟩
theorem atI_nat {α:Type} {xs:List α} {j:Nat} {v:α} (h:xs[j]?=some v):atI xs (j:Int)=some v:=by
 have hj:j < xs.length:=(List.getElem?_eq_some_iff.mp h).1
 have e:ixN xs.length (j:Int)=some j:=by
  unfold ixN
  rw [if_pos (by omega),if_pos (by omega)]; simp
 unfold atI; rw [e]; exact h
theorem atI_last {α:Type} (xs:List α) (v:α):atI (xs ++ [v]) (-1)=some v:=by
 have hl:(xs ++ [v]).length=xs.length + 1:=by simp
 have e:ixN (xs ++ [v]).length (-1)=some xs.length:=by
  unfold ixN
  rw [hl,if_neg (by decide),if_pos (by omega)]
  congr 1
  omega
 unfold atI
 rw [e]
 show (xs ++ [v])[xs.length]?=some v
 simp
def PlainIx (b:Expr):Prop:=∀ o i,subscripted b false o i=operate [o,i] (getItem o i)
def IxR (X:Cx) (r:R2):Prop :=
 ∀ (value slice:Expr) (pins:List (Addr × Obj)) (s:Shared) (σ:St) (H:Hp) (x y:V) (v u:Value) (Q:VK),Inv X pins σ H s→RelV x v→RelV y u→r x y H Q →
  subscripted slice false v u=operate [v,u] (getItem v u)→wpAny (model X.prog X.w) X.A (subscriptTail value slice v u) (EP X pins σ Q) X.xe s
def MtR (X:Cx) (id:String) (r:V→List V→Hp→VK→Prop):Prop :=
 ∀ (pins:List (Addr × Obj)) (s:Shared) (σ:St) (H:Hp) (x:V) (xs:List V) (v:Value) (us:List Value) (Q:VK),Inv X pins σ H s→RelV x v→Vals xs us→r x xs H Q →
  wpAny (model X.prog X.w) X.A (call (.builtin id) (v :: us)) (EP X pins σ Q) X.xe s
section
variable {X:Cx} {a b:Expr} {ta tb:TE} {pos:Pos}
theorem pe_ix {r:R2} (hr:IxR X r) (ha:PE X a ta) (hb:PE X b tb) (hs:PlainIx b):PE X (.Subscript a b pos) (tOp r ta tb):=by
 intro pins s σ H Q I h
 exact Subscript_ (binT ha hb I h fun v u s2 x y H2 I2 rx ry q=>hr a b pins s2 σ H2 x y v u Q I2 rx ry q (hs _ _))
def rIxL (K:PySem.W.Frag):R2:=fun x y H Q=>∃ p xs i v,x=.ref p∧y=.int i∧SqL K H p xs∧atI xs i=some v∧Q v H
def rIxT (K:PySem.W.Frag):R2:=fun x y H Q=>∃ p xs i v,x=.ref p∧y=.int i∧SqT K H p xs∧atI xs i=some v∧Q v H
theorem ix_list:IxR X (rIxL X.K):=by
 intro value slice pins s σ H x y v u Q I rx ry h hs
 obtain ⟨p,xs,i,z,rfl,rfl,hq,he,q⟩:=h
 cases rx
 obtain ⟨t,rfl⟩:=ry
 obtain ⟨its,r,pl,hz⟩:=I.list hq
 obtain ⟨j,h1,h2,h3,h4,h5⟩:=atI_get he
 obtain ⟨w,ew,rw'⟩:=r.get h2
 have hl:=r.length
 have hn:=line63
 have fin:EP X pins σ Q w s:=⟨z,H,I,rw',q⟩
 by_cases h0:0 ≤ i
 ·have hj:i.toNat=j:=by
   rw [seqIndex_of h0 h5] at h1
   exact Option.some.inj h1
  exact item_listR pl.isList h0 (by omega) (by rw [hj]; simpa using ew) fin hs
 ·have hj:(i + (its.toArray.size:Int)).toNat=j:=by
   rw [seqIndex_neg (by omega) h4] at h1
   rw [List.size_toArray,← hl]
   exact Option.some.inj h1
  exact subscriptTail_builtinR (x:=w) pl.isList.typeIs slot_list_getitem.lookup
   (wpAny_getItem_list_neg (Q:=fun r s'=>r=w∧EP X pins σ Q r s') pl.isList (by omega) (by rw [List.size_toArray] <;> omega) (by omega) (by rw [hj]; simpa using ew) ⟨rfl,fin⟩) hs
theorem ix_tup:IxR X (rIxT X.K):=by
 intro value slice pins s σ H x y v u Q I rx ry h hs
 obtain ⟨p,xs,i,z,rfl,rfl,hq,he,q⟩:=h
 cases rx
 obtain ⟨t,rfl⟩:=ry
 obtain ⟨its,r,pl,hz⟩:=I.tuple hq
 obtain ⟨j,h1,h2,h3,h4,h5⟩:=atI_get he
 obtain ⟨w,ew,rw'⟩:=r.get h2
 have hl:=r.length
 have hn:=line63
 have fin:EP X pins σ Q w s:=⟨z,H,I,rw',q⟩
 exact subscriptTail_builtinR (x:=w) pl.typeIs slot_tuple_getitem.lookup
  (getItem_tuple (j:=j) (Q:=fun r s'=>r=w∧EP X pins σ Q r s') pl (by omega) (by omega) (by rw [List.size_toArray,← hl]; exact h1) (by simpa using ew) ⟨rfl,fin⟩) hs
theorem mapSeq_set (its:List Value) (n j:Nat) (u:Value):Obj.mapSeq (·.setIfInBounds j u) { cls:=.type "list",data:=.seq its.toArray n }={ cls:=.type "list",data:=.seq (its.set j u).toArray n }:=by
 simp [Obj.mapSeq]
theorem Inv.lst {pins:List (Addr × Obj)} {σ:St} {H:Hp} {s:Shared} {p:Addr} {xs:List V} (I:Inv X pins σ H s) (h:H p=some (.lst xs)) :
  ∃ (its:List Value) (n:Nat),Vals xs its∧s.heap.get? p=some { cls:=.type "list",data:=.seq its.toArray n }∧xs.length ≤ sizeLine:=by
 obtain ⟨z,its,n,r,e⟩:=I.hok p _ h
 exact ⟨its,n,r,e,z⟩
theorem Inv.lstUpd {pins:List (Addr × Obj)} {σ:St} {H:Hp} {s:Shared} {p:Addr} {xs ys:List V} {its its':List Value} {n n':Nat} {f:Obj→Obj} (I:Inv X pins σ H s) (h:H p=some (.lst xs))
  (ho:s.heap.get? p=some { cls:=.type "list",data:=.seq its.toArray n }) (hf:f { cls:=.type "list",data:=.seq its.toArray n }={ cls:=.type "list",data:=.seq its'.toArray n' }) (r:Vals ys its') (hz:ys.length ≤ sizeLine) (t:Nat) :
  Inv X pins σ (upd H p (.lst ys)) { s with heap:=s.heap.update p f,toks:=t }:=by
 have e:(s.heap.update p f).get? p=some { cls:=.type "list",data:=.seq its'.toArray n' }:=by
  rw [Heap.get?_update_self f ho (by rw [hf] <;> rfl),hf]
 refine I.write (x:=p) (e:=p) (by rw [h]; trivial) (.inl rfl) (fun b u hb q=>(Heap.get?_update_other _ _ (Ne.symm hb)).trans q) ⟨_,e⟩ ?_
 exact ⟨hz,its',n',r,e⟩
def rSetL:V→V→V→Hp→(Hp→Prop)→Prop:=fun o i v H Q=>∃ p xs k j,o=.ref p∧i=.int k∧H p=some (.lst xs)∧ixN xs.length k=some j∧Q (upd H p (.lst (xs.set j v)))
theorem set_list:PSet X rSetL:=by
 intro pins s σ H o i v ov iv u Q I ro ri rv h
 obtain ⟨p,xs,k,j,rfl,rfl,hp,hj,q⟩:=h
 cases ro
 obtain ⟨t,rfl⟩:=ri
 obtain ⟨its,n,r,ho,hz⟩:=I.lst hp
 obtain ⟨h1,h2,h3,h4⟩:=ixN_seq hj
 have hl:=r.length
 have hn:=line63
 have I':Inv X pins σ (upd H p (.lst (xs.set j v))) { s with heap:=s.heap.update p (Obj.mapSeq (·.setIfInBounds j u)) } :=
  I.lstUpd hp ho (mapSeq_set its n j u) (r.set rv j) (by rw [List.length_set]; exact hz) s.toks
 by_cases h0:0 ≤ k
 ·have hk:k.toNat=j:=by
   rw [seqIndex_of h0 h4] at h1
   exact Option.some.inj h1
  exact PySem.W.ki_setAt ho h0 (by omega) (by rw [List.size_toArray,← hl]; exact h4) (by rw [hk]; exact ⟨_,I',q⟩)
 ·have hk:(k + (its.toArray.size:Int)).toNat=j:=by
   rw [seqIndex_neg (by omega) h3] at h1
   rw [List.size_toArray,← hl]
   exact Option.some.inj h1
  exact PySem.W.ki_setBack ho (by omega) (by rw [List.size_toArray,← hl]; exact h3) (by omega) (by rw [hk]; exact ⟨_,I',q⟩)
theorem slice_bounds (lo hi:Option Int) (n:Nat):(sliceBounds lo hi none n).1=((HT.sIx n 0 lo:Nat):Int)∧(sliceBounds lo hi none n).2.1=((HT.sIx n n hi:Nat):Int)∧(sliceBounds lo hi none n).2.2=1:=by
 refine ⟨?_,?_,rfl⟩
 ·cases lo with
  | none=>simp [sliceBounds,HT.sIx]
  | some i =>
   simp only [sliceBounds,HT.sIx,Option.getD_none,show (1:Int) > 0 by decide,if_true]
   by_cases h:i < 0
   ·simp only [h,if_true] <;> omega
   ·simp only [h,if_false] <;> omega
 ·cases hi with
  | none=>simp [sliceBounds,HT.sIx]
  | some i =>
   simp only [sliceBounds,HT.sIx,Option.getD_none,show (1:Int) > 0 by decide,if_true]
   by_cases h:i < 0
   ·simp only [h,if_true] <;> omega
   ·simp only [h,if_false] <;> omega
theorem slicePick_cut (its:List Value) (lo hi:Option Int):slicePick its.toArray lo hi none=((its.drop (HT.sIx its.length 0 lo)).take (HT.sIx its.length its.length hi - HT.sIx its.length 0 lo)).toArray:=by
 obtain ⟨h1,h2,h3⟩:=slice_bounds lo hi its.toArray.size
 unfold slicePick
 rw [h1,h2,h3]
 simp only [sliceRange_one,pick_run,List.size_toArray] <;> rfl
def rSlL (K:PySem.W.Frag):V→Option Int→Option Int→Hp→VK→Prop:=fun x lo hi H Q=>∃ a xs,x=.ref a∧SqL K H a xs∧∀ p,H p=none→Q (.ref p) (upd H p (.lst (cutV xs lo hi)))
theorem sl_list:SlR X (rSlL X.K):=by
 intro pins s σ H x v vl vu lo hi sl Q I rx hs pl pu h
 obtain ⟨a,xs,rfl,hx,q⟩:=h
 cases rx
 obtain ⟨its,r,ht,hz⟩:=I.list hx
 have hlen:=r.length
 refine ⟨"list",_,slot_list_getitem.lookup,ht.isList.typeIs,?_⟩
 refine wpAny_getItem_list_slice ht.isList hs pl pu .none (by simp) ?_ (by rw [List.size_toArray] <;> omega)
 rw [slicePick_cut,← hlen]
 refine ⟨.ref s.heap.objs.size,_,I.laid (t':=s.toks) (o:=.lst (cutV xs lo hi)) (fun b ob q=>Heap.get?_push_of_some _ q) (Nat.le_refl _) ?_,rfl,q _ (I.hok.fresh (Nat.le_refl _))⟩
 exact ⟨Nat.le_trans (cutV_length xs lo hi) hz,_,0,(r.drop (HT.sIx xs.length 0 lo)).take (HT.sIx xs.length xs.length hi - HT.sIx xs.length 0 lo),Heap.get?_push_size _ rfl⟩
def flatV:V→Bool
 | .non=>true
 | .bl _=>true
 | .int _=>true
 | .str _=>true
 | _=>false
def eqV:V→V→Bool
 | .non,.non=>true
 | .bl a,.bl b=>a == b
 | .bl a,.int b=>(if a then 1 else 0) == b
 | .int a,.bl b=>a == (if b then 1 else 0)
 | .int a,.int b=>a == b
 | .str a,.str b=>a == b
 | _,_=>false
theorem eqAt_V {A:Around} {s:Shared} {y x:V} {u v:Value} (ry:RelV y u) (rx:RelV x v) (fy:flatV y=true) (fx:flatV x=true):SeqAt.EqAt A s u v (eqV y x):=by
 cases y with
 | non =>
  cases ry
  cases x with
  | non=>cases rx; exact SeqAt.EqAt.same _
  | bl b=>cases rx; exact SeqAt.EqAt.none_bool b
  | int b=>obtain ⟨t,rfl⟩:=rx; exact SeqAt.EqAt.none_int b t
  | str b=>obtain ⟨t,rfl⟩:=rx; exact SeqAt.EqAt.none_str b t
  | _=>exact absurd (show false=true from fx) Bool.false_ne_true
 | bl a =>
  cases ry
  cases x with
  | non=>cases rx; exact SeqAt.EqAt.bool_none a
  | bl b=>cases rx; exact SeqAt.EqAt.bool_bool a b
  | int b=>obtain ⟨t,rfl⟩:=rx; exact SeqAt.EqAt.bool_int a b t
  | str b=>obtain ⟨t,rfl⟩:=rx; exact SeqAt.EqAt.bool_str a b t
  | _=>exact absurd (show false=true from fx) Bool.false_ne_true
 | int a =>
  obtain ⟨t',rfl⟩:=ry
  cases x with
  | non=>cases rx; exact SeqAt.EqAt.int_none a t'
  | bl b=>cases rx; exact SeqAt.EqAt.int_bool a t' b
  | int b=>obtain ⟨t,rfl⟩:=rx; exact SeqAt.EqAt.int_int a t' b t
  | str b=>obtain ⟨t,rfl⟩:=rx; exact SeqAt.EqAt.int_str a t' b t
  | _=>exact absurd (show false=true from fx) Bool.false_ne_true
 | str a =>
  obtain ⟨t',rfl⟩:=ry
  cases x with
  | non=>cases rx; exact SeqAt.EqAt.str_none a t'
  | bl b=>cases rx; exact SeqAt.EqAt.str_bool a t' b
  | int b=>obtain ⟨t,rfl⟩:=rx; exact SeqAt.EqAt.str_int a t' b t
  | str b=>obtain ⟨t,rfl⟩:=rx; exact SeqAt.EqAt.str_str a t' b t
  | _=>exact absurd (show false=true from fx) Bool.false_ne_true
 | _=>exact absurd (show false=true from fy) Bool.false_ne_true
def eqU (x:V) (u:Value):Bool:=match u with
 | .none=>eqV .non x
 | .bool b=>eqV (.bl b) x
 | .int i _=>eqV (.int i) x
 | .str z _=>eqV (.str z) x
 | _=>false
theorem eqU_of {x y:V} {u:Value} (r:RelV y u) (f:flatV y=true):eqU x u=eqV y x:=by
 cases y with
 | non=>cases r; rfl
 | bl b=>cases r; rfl
 | int i=>obtain ⟨t,rfl⟩:=r; rfl
 | str z=>obtain ⟨t,rfl⟩:=r; rfl
 | _=>exact absurd (show false=true from f) Bool.false_ne_true
theorem any_eqU {x:V}:∀ {xs:List V} {us:List Value},Vals xs us→xs.all flatV=true→us.any (eqU x)=xs.any fun y=>eqV y x
 | _,_,.nil,_=>rfl
 | y :: xs,u :: us,.cons r t,f=>by
  rw [List.all_cons,Bool.and_eq_true] at f
  rw [List.any_cons,List.any_cons,eqU_of r f.1,any_eqU t f.2]
theorem mem_eqAt {A:Around} {s:Shared} {x:V} {v:Value} (rx:RelV x v) (fx:flatV x=true):∀ {xs:List V} {us:List Value},Vals xs us→xs.all flatV=true→∀ u ∈ us,SeqAt.EqAt A s u v (eqU x u)
 | _,_,.nil,_=>fun u hu=>by cases hu
 | y :: xs,u :: us,.cons r t,f=>fun u' hu=>by
  rw [List.all_cons,Bool.and_eq_true] at f
  rcases List.mem_cons.mp hu with rfl | hu
  ·rw [eqU_of r f.1]; exact eqAt_V r rx f.1 fx
  ·exact mem_eqAt rx fx t f.2 u' hu
def inV (x:V) (xs:List V):Bool:=xs.any fun y=>eqV y x
def rIn (K:PySem.W.Frag) (neg:Bool):R2:=fun x y H Q=>∃ p xs,y=.ref p∧(SqL K H p xs ∨ SqT K H p xs)∧flatV x=true∧xs.all flatV=true∧Q (.bl (if neg then !inV x xs else inV x xs)) H
theorem op_in_seq:OpR X (compareOp .In) (rIn X.K false):=by
 intro pins s σ H x y v u Q I rx ry h
 obtain ⟨p,xs,rfl,hq,fx,fs,q⟩:=h
 cases ry
 rcases hq with hq | hq
 ·obtain ⟨its,r,pl,hz⟩:=I.list hq
  refine SeqAt.in_listAt (eqU x) pl.isList (fun w hw=>mem_eqAt rx fx r fs w (by simpa using hw)) ⟨.bl _,H,I,rfl,?_⟩
  rw [show its.toArray.any (eqU x)=its.any (eqU x) by simp,any_eqU r fs]
  exact q
 ·obtain ⟨its,r,pl,hz⟩:=I.tuple hq
  refine SeqAt.in_tupleAt (eqU x) pl (fun w hw=>mem_eqAt rx fx r fs w (by simpa using hw)) ⟨.bl _,H,I,rfl,?_⟩
  rw [show its.toArray.any (eqU x)=its.any (eqU x) by simp,any_eqU r fs]
  exact q
theorem call_len_seq:CallR X (.builtin "len") (fun xs H Q=>∃ p ys,xs=[.ref p]∧(SqL X.K H p ys ∨ SqT X.K H p ys)∧Q (.int ys.length) H):=by
 intro pins s σ H xs us Q I r h
 obtain ⟨p,ys,rfl,hq,q⟩:=h
 obtain ⟨u,rfl,rx⟩:=vals1 r
 cases rx
 have hn:=line63
 rcases hq with hq | hq
 ·obtain ⟨its,r',pl,hz⟩:=I.list hq
  have hlen:=r'.length
  exact Calls.call_len_list pl.isList (by simp only [List.size_toArray] <;> omega) ⟨.int ys.length,H,I.tok _,⟨s.toks + 1,by rw [List.size_toArray,hlen]⟩,q⟩
 ·obtain ⟨its,r',pl,hz⟩:=I.tuple hq
  have hlen:=r'.length
  exact len_tuple pl (by simp only [List.size_toArray] <;> omega) ⟨.int ys.length,H,I.tok _,⟨s.toks + 1,by rw [List.size_toArray,hlen]⟩,q⟩
theorem call_len_str:CallR X (.builtin "len") (fun xs H Q=>∃ z,xs=[.str z]∧z.length ≤ sizeLine∧Q (.int z.length) H):=by
 intro pins s σ H xs us Q I r h
 obtain ⟨z,rfl,hz,q⟩:=h
 obtain ⟨u,rfl,t,rfl⟩:=vals1 r
 have hn:=line63
 exact len_str (by omega) ⟨.int z.length,H,I.tok _,⟨_,rfl⟩,q⟩
theorem call_list_of:CallR X (.type "list") (fun xs H Q=>∃ p ys,xs=[.ref p]∧(SqL X.K H p ys ∨ SqT X.K H p ys)∧∀ l,H l=none→Q (.ref l) (upd H l (.lst ys))):=by
 intro pins s σ H xs us Q I r h
 obtain ⟨p,ys,rfl,hq,q⟩:=h
 obtain ⟨u,rfl,rx⟩:=vals1 r
 cases rx
 have fin:∀ (its:List Value),Vals ys its→ys.length ≤ sizeLine→∀ (h':Heap) (c':Nat),(∀ b o',s.heap.get? b=some o'→h'.get? b=some o') →
   h'.get? s.heap.objs.size=some { cls:=.type "list",dict:=none,data:=.seq its.toArray c',slots:=#[] }→EP X pins σ Q (.ref s.heap.objs.size) { s with heap:=h' }:=fun its r' hz h' c' kp e =>
  ⟨.ref s.heap.objs.size,_,I.laid (t':=s.toks) kp (Nat.le_refl _) (show ObjOk X.prog X.w _ h' _ (.lst ys) from ⟨hz,its,c',r',e⟩),rfl,q _ (I.hok.fresh (Nat.le_refl _))⟩
 rcases hq with hq | hq
 ·obtain ⟨its,r',pl,hz⟩:=I.list hq
  have hlen:=r'.length
  obtain ⟨o,ho,hc,n,hd⟩:=pl.isList
  exact call_list_seq p (.inl rfl) ho hc hd (fun h' c' kp e=>fin its r' hz h' c' kp e) (by simp only [List.size_toArray] <;> omega)
 ·obtain ⟨its,r',pl,hz⟩:=I.tuple hq
  have hlen:=r'.length
  obtain ⟨o,ho,hc,n,hd⟩:=pl
  exact call_list_seq p (.inr rfl) ho hc hd (fun h' c' kp e=>fin its r' hz h' c' kp e) (by simp only [List.size_toArray] <;> omega)
theorem call_tuple_of:CallR X (.type "tuple") (fun xs H Q=>∃ p ys,xs=[.ref p]∧((SqL X.K H p ys∧∀ l,H l=none→Q (.ref l) (upd H l (.tup ys))) ∨ (SqT X.K H p ys∧Q (.ref p) H))):=by
 intro pins s σ H xs us Q I r h
 obtain ⟨p,ys,rfl,h⟩:=h
 obtain ⟨u,rfl,rx⟩:=vals1 r
 cases rx
 rcases h with ⟨hq,q⟩ | ⟨hq,q⟩
 ·obtain ⟨its,r',pl,hz⟩:=I.list hq
  have hlen:=r'.length
  refine call_tuple_list pl.isList (fun h' kp=>?_) (by simp only [List.size_toArray] <;> omega)
  have I1:Inv X pins σ H { s with heap:=h' }:=I.kept (t':=s.toks) kp
  have I2:Inv X pins σ (upd H h'.objs.size (.tup ys)) { s with heap:=h'.push { cls:=.type "tuple",data:=.seq its.toArray } } :=
   I1.laid (t':=s.toks) (fun b o e=>Heap.get?_push_of_some _ e) (Nat.le_refl _) (show ObjOk X.prog X.w _ _ _ (.tup ys) from ⟨hz,its,r',IsTup.new _ _⟩)
  exact ⟨.ref h'.objs.size,_,I2,rfl,q _ (I1.hok.fresh (Nat.le_refl _))⟩
 ·obtain ⟨its,r',pl,hz⟩:=I.tuple hq
  exact call_tuple_same pl ⟨.ref p,H,I,rfl,q⟩
def tyV (K:PySem.W.Frag) (T:String) (x:V) (H:Hp):Prop:=match x with
 | .str _=>T="str"
 | .int _=>T="int"
 | .ref p=>(T="list"∧∃ xs,SqL K H p xs) ∨ (T="tuple"∧∃ o,K.lookup p=some o∧o.cls=.type "tuple"∧o.dict=none) ∨
   (T="dict"∧((∃ kvs,H p=some (.dK kvs)) ∨ ∃ kvs,H p=some (.dT kvs))) ∨ (T="set"∧∃ S n,H p=some (.set S n))
 | _=>False
theorem tyV_is {pins:List (Addr × Obj)} {σ:St} {H:Hp} {s:Shared} {T:String} {x:V} {v:Value} (I:Inv X pins σ H s) (r:RelV x v) (ty:tyV X.K T x H) :
  s.TypeIs v T∧∀ a,v=.ref a→∃ ob,s.heap.get? a=some ob∧ob.dict=none:=by
 cases x with
 | str z =>
  obtain ⟨t,rfl⟩:=r
  cases (show T="str" from ty)
  exact ⟨typeIs_str s z t,fun _ e=>nomatch e⟩
 | int i =>
  obtain ⟨t,rfl⟩:=r
  cases (show T="int" from ty)
  exact ⟨typeIs_int s i t,fun _ e=>nomatch e⟩
 | ref p =>
  cases r
  rcases ty with ⟨rfl,xs,hq⟩ | ⟨rfl,o,hk,hc,hd⟩ | ⟨rfl,hk⟩ | ⟨rfl,S,n,hk⟩
  ·obtain ⟨its,_,pl,_⟩:=I.list hq
   refine ⟨pl.isList.typeIs,fun a e=>?_⟩
   cases e
   obtain ⟨o,n,e,c,hd,_⟩:=pl
   exact ⟨o,e,hd⟩
  ·refine ⟨⟨o,I.kIn p o hk,hc⟩,fun a e=>?_⟩
   cases e
   exact ⟨o,I.kIn _ o hk,hd⟩
  ·have z:∃ o,s.heap.get? p=some o∧o.ExactDict:=by
    rcases hk with ⟨kvs,hk⟩ | ⟨kvs,hk⟩
    ·obtain ⟨_,_,_,_,o,_,_,e,ex,_⟩:=I.hok p _ hk
     exact ⟨o,e,ex⟩
    ·obtain ⟨_,_,_,_,o,_,_,e,ex,_⟩:=I.hok p _ hk
     exact ⟨o,e,ex⟩
   obtain ⟨o,e,ex⟩:=z
   refine ⟨⟨o,e,ex.1⟩,fun a e2=>?_⟩
   cases e2
   exact ⟨o,e,ex.2.1⟩
  ·obtain ⟨o,_,_,_,e,ex,_⟩:=I.hok p _ hk
   refine ⟨⟨o,e,ex.1⟩,fun a e2=>?_⟩
   cases e2
   exact ⟨o,e,ex.2.1⟩
 | _=>exact False.elim ty
def tBM0 (K:PySem.W.Frag) (T:String) (r:V→List V→Hp→VK→Prop) (to:TE):TE:=fun σ H Q=>to σ H fun x H1=>tyV K T x H1∧r x [] H1 Q
def tBM (K:PySem.W.Frag) (T:String) (r:V→List V→Hp→VK→Prop) (to:TE) (t:TA):TE:=fun σ H Q=>to σ H fun x H1=>tyV K T x H1∧t σ H1 fun xs H2=>r x xs H2 Q
variable {o e:Expr} {es:List Expr} {to:TE} {t:TA} {name:Str} {apos cpos:Pos} {T id:String} {r:V→List V→Hp→VK→Prop}
theorem pe_bm0 (pa:PlainAttrs T) (slot:Slot T name id) (hty:typeOf (.builtin id)=pure (.type "method_descriptor")) (hm:MtR X id r) (ho:PE X o to)
  (hbase:attributeBase o name X.env (eval o X.env)=eval o X.env:=by rfl) (hline:(apos.endLine == cpos.line)=true:=by rfl):PE X (.Call (.Attribute o name apos) [] [] cpos) (tBM0 X.K T r to):=by
 intro pins s σ H Q I h
 refine wpAny_Call_method0_late hbase hline (thn (ho pins s σ H _ I h) fun v s1 ⟨x,H1,I1,r1,ty,q1⟩=>?_)
 obtain ⟨h1,h2⟩:=tyV_is I1 r1 ty
 exact ⟨T,id,pa,slot,hty,h1,h2,Calls.callWith_builtin rfl (PySem.evalArgs_none (hm pins s1 σ H1 x [] v [] Q I1 r1 .nil q1))⟩
theorem pe_bm (pa:PlainAttrs T) (slot:Slot T name id) (hty:typeOf (.builtin id)=pure (.type "method_descriptor")) (hm:MtR X id r) (ho:PE X o to) (ha:PA X (e :: es) t)
  (hbase:attributeBase o name X.env (eval o X.env)=eval o X.env:=by rfl)
  (hfew:((backTo cpos (starEach (e :: es) X.env)).all (fun x=>!x.1) && (backToKw cpos (keywordEach [] X.env)).all (fun x=>x.1.isSome)
   && decide ((e :: es).length + ([]:List Keyword).length + (if ([]:List Keyword).isEmpty then 0 else 1) < 30))=true:=by rfl)
  (hline:(apos.endLine == cpos.line)=true:=by rfl) (hs:starEach (e :: es) X.env=(false,eval e X.env) :: starEach es X.env:=by rfl) (hplain:(backTo cpos (starEach es X.env)).any (·.1)=false:=by rfl) :
  PE X (.Call (.Attribute o name apos) (e :: es) [] cpos) (tBM X.K T r to t):=by
 intro pins s σ H Q I h
 refine wpAny_Call_method_late hbase hfew hline rfl (thn (ho pins s σ H _ I h) fun v s1 ⟨x,H1,I1,r1,ty,q1⟩=>?_)
 obtain ⟨h1,h2⟩:=tyV_is I1 r1 ty
 refine ⟨T,id,pa,slot,hty,h1,h2,?_⟩
 have hA:=ha cpos pins s1 σ H1 _ I1 q1
 rw [hs] at hA ⊢
 refine Calls.callWith_builtin (by show (false || (backTo cpos (starEach es X.env)).any (·.1))=false; rw [hplain] <;> rfl) (Calls.evalArgs_plain ?_)
 exact thn hA fun us s2 ⟨vs,H2,I2,r2,q2⟩=>hm pins s2 σ H2 x vs v us Q I2 r1 r2 q2
end
end L2
namespace L2
open PySem PySem.Spec PyProof.Rows
def MtM (X:Cx) (id:String) (r:V→List V→Hp→VK→Prop):Prop :=
 ∀ (pins:List (Addr × Obj)) (s:Shared) (σ:St) (H:Hp) (x:V) (xs:List V) (v:Value) (us:List Value) (Q:VK),Inv X pins σ H s→RelV x v→Vals xs us→r x xs H Q →
  wpAny (model X.prog X.w) X.A (call (.builtin id) (v :: us)) (EP X pins σ Q) X.xe s
theorem Vals.one:∀ {x:V} {us:List Value},Vals [x] us→∃ u,us=[u]∧RelV x u
 | _,_,.cons r .nil=>⟨_,rfl,r⟩
theorem Vals.zero:∀ {us:List Value},Vals [] us→us=[]
 | _,.nil=>rfl
theorem Vals.reverse {xs:List V} {us:List Value} (h:Vals xs us):Vals xs.reverse us.reverse:=by
 induction h with
 | nil=>exact .nil
 | cons r t ih=>rw [List.reverse_cons,List.reverse_cons]; exact Vals.append ih (.cons r .nil)
theorem Vals.rep {xs:List V} {us:List Value} (h:Vals xs us):∀ k:Nat,Vals (List.replicate k xs).flatten (List.replicate k us).flatten
 | 0=>.nil
 | k + 1=>by
  rw [List.replicate_succ,List.replicate_succ,List.flatten_cons,List.flatten_cons]
  exact Vals.append h (Vals.rep h k)
theorem foldl_rep (its:List Value):∀ (k:Nat) (acc:List Value),
  List.foldl (fun x1 x2=>x1 ++ x2) acc.toArray (List.replicate k its.toArray)=(acc ++ (List.replicate k its).flatten).toArray
 | 0,acc=>by simp
 | k + 1,acc=>by
  have e:acc.toArray ++ its.toArray=(acc ++ its).toArray:=by simp
  have e2:(acc ++ its) ++ (List.replicate k its).flatten=acc ++ (List.replicate (k + 1) its).flatten:=by
   rw [List.replicate_succ,List.flatten_cons,List.append_assoc]
  rw [← e2,← foldl_rep its k (acc ++ its),← e,List.replicate_succ,List.foldl_cons]
section
variable {X:Cx} {pins:List (Addr × Obj)} {σ:St} {H:Hp} {s:Shared} {l b:Addr} {xs ys zs:List V}
theorem Inv.lset {its its':List Value} {n:Nat} {f:Array Value→Array Value} {t':Nat} (I:Inv X pins σ H s) (hH:H l=some (.lst xs))
  (e:s.heap.get? l=some { cls:=.type "list",data:=.seq its.toArray n }) (hf:f its.toArray=its'.toArray) (hv:Vals ys its') (hz:ys.length ≤ sizeLine) :
  Inv X pins σ (upd H l (.lst ys)) { s with heap:=s.heap.update l (Obj.mapSeq f),toks:=t' }:=by
 have q:=PySem.IsL.update e f
 rw [hf] at q
 refine I.write (x:=l) (e:=l) (by rw [hH]; exact trivial) (.inl rfl) (fun b' u hb hu=>(Heap.get?_update_other s.heap (Obj.mapSeq f) (Ne.symm hb)).trans hu) ⟨_,q⟩ ?_
 exact ⟨hz,its',_,hv,q⟩
theorem Inv.lnew {its:List Value} {t':Nat} (I:Inv X pins σ H s) (hv:Vals ys its) (hz:ys.length ≤ sizeLine) :
  Inv X pins σ (upd H s.heap.objs.size (.lst ys)) { s with heap:=s.heap.push { cls:=.type "list",data:=.seq its.toArray },toks:=t' } :=
 I.laid (fun _ _ q=>Heap.get?_push_of_some _ q) (Nat.le_refl _) ⟨hz,its,0,hv,Heap.get?_push_size _ rfl⟩
theorem Inv.fresh (I:Inv X pins σ H s):H s.heap.objs.size=none:=I.hok.fresh (Nat.le_refl _)
theorem Inv.lstM (I:Inv X pins σ H s) (hH:H l=some (.lst xs)):xs.length ≤ sizeLine∧∃ (its:List Value) (n:Nat),Vals xs its∧xs.length=its.length∧s.heap.get? l=some { cls:=.type "list",data:=.seq its.toArray n }:=by
 obtain ⟨z,its,n,r,e⟩:=I.hok l _ hH
 exact ⟨z,its,n,r,r.length,e⟩
theorem notLongL {n:Nat} (h:n ≤ sizeLine):Builtin.List.listTooLong n=false:=by
 unfold Builtin.List.listTooLong
 exact decide_eq_false (by omega)
end
section
variable {X:Cx}
def rAppend:V→List V→Hp→VK→Prop:=fun x vs H Q=>∃ l xs y,x=.ref l∧vs=[y]∧H l=some (.lst xs)∧xs.length < sizeLine∧Q .non (upd H l (.lst (xs ++ [y])))
theorem mt_append:MtM X "list.append" rAppend:=by
 intro pins s σ H x vs v us Q I rx rv h
 obtain ⟨l,xs,y,rfl,rfl,hH,hz,q⟩:=h
 cases rx
 obtain ⟨u,rfl,ru⟩:=rv.one
 obtain ⟨z,its,n,r,hl,e⟩:=I.lstM hH
 refine call_meets F.slot_list_append ⟨_,e,rfl⟩ F.entry_list_append (F.args_list_append_2 _ _) (PySem.list_append l its.toArray n u (by rw [List.size_toArray]; omega)) ⟨e,?_⟩
 refine ⟨.non,_,I.lset (its':=its ++ [u]) hH e (by simp) (r.append (.cons ru .nil)) ?_,rfl,q⟩
 rw [List.length_append,List.length_singleton]
 omega
def rExtend:V→List V→Hp→VK→Prop:=fun x vs H Q=>∃ l b xs zs,x=.ref l∧vs=[.ref b]∧H l=some (.lst xs)∧H b=some (.lst zs)∧xs.length + zs.length ≤ sizeLine∧Q .non (upd H l (.lst (xs ++ zs)))
theorem mt_extend:MtM X "list.extend" rExtend:=by
 intro pins s σ H x vs v us Q I rx rv h
 obtain ⟨l,b,xs,zs,rfl,rfl,hH,hB,hz,q⟩:=h
 cases rx
 obtain ⟨u,rfl,ru⟩:=rv.one
 cases ru
 obtain ⟨z,its,n,r,hl,e⟩:=I.lstM hH
 obtain ⟨z2,its2,n2,r2,hl2,e2⟩:=I.lstM hB
 have hsz:its.toArray.size + its2.toArray.size ≤ sizeLine:=by rw [List.size_toArray,List.size_toArray]; omega
 have hlong:¬ (!its.toArray.isEmpty && Builtin.List.listTooLong (its.toArray.size + its2.toArray.size))=true:=by
  rw [notLongL hsz,Bool.and_false]
  exact Bool.false_ne_true
 refine call_meets F.slot_list_extend ⟨_,e,rfl⟩ F.entry_list_extend (F.args_list_extend_2 _ _)
  (AutoSeq1.list_extend_list_list_0 l its.toArray n b its2.toArray n2 hlong (by rw [List.size_toArray]; omega) (by omega)) ⟨e,e2,?_⟩
 refine ⟨.non,_,I.lset (its':=its ++ its2) hH e (by simp) (r.append r2) ?_,rfl,q⟩
 rw [List.length_append]
 omega
def rReverse:V→List V→Hp→VK→Prop:=fun x vs H Q=>∃ l xs,x=.ref l∧vs=[]∧H l=some (.lst xs)∧Q .non (upd H l (.lst xs.reverse))
theorem mt_reverse:MtM X "list.reverse" rReverse:=by
 intro pins s σ H x vs v us Q I rx rv h
 obtain ⟨l,xs,rfl,rfl,hH,q⟩:=h
 cases rx
 have hus:=rv.zero
 subst hus
 obtain ⟨z,its,n,r,hl,e⟩:=I.lstM hH
 refine call_meets F.slot_list_reverse ⟨_,e,rfl⟩ F.entry_list_reverse (F.args_list_reverse_1 _) (AutoSeq1.list_reverse_list_0 l its.toArray n (by rw [List.size_toArray]; omega)) ⟨e,?_⟩
 refine ⟨.non,_,I.lset (its':=its.reverse) hH e (by simp) r.reverse ?_,rfl,q⟩
 rw [List.length_reverse]
 omega
def rCat:R2:=fun x y H Q=>∃ l b xs zs,x=.ref l∧y=.ref b∧H l=some (.lst xs)∧H b=some (.lst zs)∧xs.length + zs.length ≤ sizeLine∧∀ p,H p=none→Q (.ref p) (upd H p (.lst (xs ++ zs)))
theorem op_cat:OpR X (binaryOp .Add) rCat:=by
 intro pins s σ H x y v u Q I rx ry h
 obtain ⟨l,b,xs,zs,rfl,rfl,hH,hB,hz,q⟩:=h
 cases rx
 cases ry
 obtain ⟨z,its,n,r,hl,e⟩:=I.lstM hH
 obtain ⟨z2,its2,n2,r2,hl2,e2⟩:=I.lstM hB
 refine PySem.P.add_list e e2 ?_ (by rw [List.size_toArray,List.size_toArray]; omega)
 have ea:its.toArray ++ its2.toArray=(its ++ its2).toArray:=by simp
 rw [ea]
 exact ⟨.ref _,_,I.lnew (t':=s.toks) (r.append r2) (by rw [List.length_append]; omega),rfl,q _ I.fresh⟩
def rRep:R2:=fun x y H Q=>∃ l k xs,x=.ref l∧y=.int k∧H l=some (.lst xs)∧-(2 ^ 63) ≤ k∧k < 2 ^ 63∧xs.length * k.toNat ≤ sizeLine ∧
 ∀ p,H p=none→Q (.ref p) (upd H p (.lst (List.replicate k.toNat xs).flatten))
theorem len_rep {α:Type} (xs:List α) (k:Nat):(List.replicate k xs).flatten.length=k * xs.length:=by
 induction k with
 | zero=>simp
 | succ k ih=>rw [List.replicate_succ,List.flatten_cons,List.length_append,ih,Nat.succ_mul,Nat.add_comm]
theorem op_rep:OpR X (binaryOp .Mult) rRep:=by
 intro pins s σ H x y v u Q I rx ry h
 obtain ⟨l,k,xs,rfl,rfl,hH,h1,h2,hz,q⟩:=h
 cases rx
 obtain ⟨t,rfl⟩:=ry
 obtain ⟨z,its,n,r,hl,e⟩:=I.lstM hH
 have hlen:its.toArray.size * k.toNat ≤ sizeLine:=by rw [List.size_toArray,← hl]; exact hz
 have hcap:¬ its.toArray.size * k.toNat > (2 ^ 63 - 1) / 8:=by
  have:(sizeLine:Nat) ≤ (2 ^ 63 - 1) / 8:=by decide
  omega
 have hfit:¬ (!Builtin.List.listFitsIndex k)=true:=by
  rw [fitsIndex_both h1 h2]
  exact Bool.false_ne_true
 have hlong:¬ Builtin.List.listTooLong (its.toArray.size * k.toNat)=true:=by
  rw [notLongL hlen]
  exact Bool.false_ne_true
 have hnew:List.foldl (fun x1 x2=>x1 ++ x2) #[] (List.replicate (if its.toArray.isEmpty=true then 0 else k.toNat) its.toArray)=(List.replicate k.toNat its).flatten.toArray:=by
  have f0:∀ m:Nat,List.foldl (fun x1 x2=>x1 ++ x2) #[] (List.replicate m its.toArray)=(List.replicate m its).flatten.toArray:=fun m=>by
   have:=foldl_rep its m []
   rw [List.nil_append] at this
   exact this
  rw [f0]
  cases its with
  | nil=>simp
  | cons a r'=>rw [if_neg (by simp)]
 refine wpAny_binaryOp_repeat_ref (T:="list") (U:="int") (by decide) ⟨_,e,rfl⟩ (fun s'=>typeIs_int s' k t) noFill_list_mul F.fills_int_mul F.slot_int_rmul repeat_list F.slot_int_index.lookup
  (call_meets F.slot_int_rmul (typeIs_int s k t) F.entry_int_rmul (F.args_int_rmul_2 _ _) (int___rmul___int_list k t l its.toArray n)
   ⟨e,rfl,⟨_,e,rfl⟩,call_meets F.slot_list_mul ⟨_,e,rfl⟩ F.entry_list_mul (F.args_list_mul_2 _ _) (AutoListH.list___mul___list_int_3 l its.toArray n k t hfit hcap hlong) ⟨e,?_⟩⟩)
 rw [hnew]
 exact ⟨.ref _,_,I.lnew (t':=s.toks) (r.rep k.toNat) (by rw [len_rep,Nat.mul_comm]; exact hz),rfl,q _ I.fresh⟩
end
section
variable {prog:Program} {w:World} {A:Around} {E:Value→Shared→Prop} {s:Shared}
end
section
variable {X:Cx}
end
end L2
namespace Att
open PySem PySem.W PySem.Calls PyProof.Rows
theorem ints_of_wellAll {P:Params} {h:Heap}:∀ (ns:List Int) (vs:List Value),WellAll P h vs (ns.map WData.int)→IntsAre vs ns:=by
 intro ns
 induction ns with
 | nil =>
  intro vs w
  rw [List.map_nil] at w
  cases w
  exact .nil
 | cons n ns ih =>
  intro vs w
  rw [List.map_cons] at w
  cases w with
  | cons a b =>
   cases a
   exact .cons _ _ (ih _ b)
theorem script_of {l:OpenLaw} {n:Nat} (hn:l.most=some n) {P:Params} {h:Heap} {args:List WData} {vals:List Value}
  (hpre:l.row.toRowW.claim.pre args=true) (hwl:WellAll P h vals args) :
  ∃ a vs ns,vals=[Value.ref a]∧args=[WData.list (ns.map WData.int)]∧h.get? a=some { cls:=.type "list",data:=.seq vs.toArray }∧IntsAre vs ns∧ns.length ≤ n:=by
 have hsh:WShape.hasAll [] args [.list .int]=true:=(pre_splitW hpre).1
 have hc:l.pre.holds [] { args:=args }=true:=(pre_splitW hpre).2
 obtain ⟨d,r,rfl,h1,h2⟩:=hasAllW_cons hsh
 obtain rfl:=hasAllW_nil h2
 obtain ⟨xs,rfl,h3⟩:=hasW_list h1
 obtain ⟨ns,rfl⟩:=items_int h3
 have hlen:ns.length ≤ n:=by
  unfold OpenLaw.pre at hc
  have h4:(WTm.not (.lt (.lit (.int (n:Int))) (.len (.arg 0)))).holds [] { args:=[.list (ns.map .int)] }=true:=by
   have h4:=(holds_andW hc).1
   rw [hn] at h4
   exact h4
  have h5:=condW_of h4 (w_not (w_lt w_lit (w_len_list (w_arg rfl))))
  rw [List.length_map] at h5
  refine Nat.le_of_not_lt fun q=>?_
  have q':(n:Int) < ((ns.length:Nat):Int):=by omega
  first
   | (rw [decide_eq_true q'] at h5; exact absurd h5 (by decide))
   | (simp at h5; omega)
 cases hwl with
 | cons w1 w2 =>
  cases w2
  cases w1 with
  | list ho hall=>exact ⟨_,_,ns,rfl,rfl,ho,ints_of_wellAll ns _ hall,hlen⟩
theorem post_true (l:OpenLaw) (args:List WData):l.row.toRowW.claim.post args (.bool true) args=true :=
 postW_of (r:=l.row.toRowW) (X:=(true == true))
  (show WShape.has [] (.bool true) .bool=true by first | rfl | decide | simp [WShape.has,WShape.arms,WShape.armsAll])
  (show (WTm.eq .res (.lit (.bool true))).value [] { args:=args,res:=some (.bool true),after:=args }=some (.bool (true == true)) from w_eq_bool (w_res rfl) w_lit) rfl
theorem attach_call {l:OpenLaw} {n:Nat} {q:Program} {loose:List Str} {XP:(Str→Option Value)→Heap→Prop} {YP:World→Heap→Prop} {d:DefRec}
  (hn:l.most=some n) (hdf:d.params.defaults=[])
  (call:∀ (w:World) (s₀ s₁:Shared) (mg mb:Str→Option Value) (fa:Addr) (o:Obj) (pm cd doc:Value) (a:Addr) (vs:List Value) (ns:List Int),
   Ground q loose [] XP w s₀ mg mb s₁.heap→YP w s₁.heap →
   s₁.heap.get? fa=some o→o.data=.func (docDef d.name d.params d.body d.scope pm cd doc)→s₁.heap.CodeRec cd d.name→mg d.name=some (.ref fa) →
   s₁.heap.get? a=some { cls:=.type "list",data:=.seq vs.toArray }→IntsAre vs ns→ns.length ≤ n→s₁.gens=#[] →
   codeAny (model l.prog w) callerA (.call (.ref fa) ⟨[.ref a],[]⟩) (fun r s'=>r=.ok (.ret (.bool true))∧OldK s₁.heap s'.heap∧s'.os=s₁.os∧AllBare s'.gens) s₁) :
  WalkO q loose XP YP l.row.toRowW d [] (fun f vs=>PySem.call f vs):=by
 intro w s₀ s₁ mg mb G Y fa o pm cd doc dV kV ho hd hcd hD hmg hg args vals as hpre hlay hrd hwl hlo
 obtain rfl:dV=.none:=Dflts.none hD hdf
 obtain rfl:kV=.none:=Dflts.noKw hD
 obtain ⟨a,vs,ns,rfl,rfl,hobj,hints,hlen⟩:=script_of hn hpre hwl
 refine enter_call (codeAny_mono (call w s₀ s₁ mg mb fa o pm cd doc a vs ns G Y ho (fd_plain hd) hcd hmg hobj hints hlen hg) fun r s' hq=>?_)
 obtain ⟨rfl,h2,h3,h4⟩:=hq
 exact ⟨.inl ⟨.bool true,.bool true,[],rfl,fun _=>rfl,.bool true,post_true l _,fun _=>⟨List.Pairwise.nil,fun _ hm=>(nomatch hm)⟩⟩,h2,h3,h4⟩
section
variable {prog:Program} {w:World} {A:Around} {E:Value→Shared→Prop} {s:Shared} {K:Frag}
end
end Att
namespace L2
open PySem PySem.Spec PyProof.Rows
theorem vals_ints:∀ {vs:List Value} {ns:List Int},IntsAre vs ns→Vals (ns.map V.int) vs
 | _,_,.nil=>.nil
 | _,_,.cons n t h=>.cons ⟨t,rfl⟩ (vals_ints h)
def Only (H:Hp):Prop:=∀ b,H b=none ∨ ∃ o xs,H b=some (.frz o (.lst xs))
theorem law_call {P:Program} {w:World} {K:PySem.W.Frag} {mg mb:Str→Option Value} {CX:CXT} {k:Nat} {fa a:Addr} {fd:FuncData} {x:Str} {sp:Sp} {s₁:Shared} {vs:List Value} {ns:List Int}
  (KX:K.In s₁.heap) (hns:s₁.heap.Ns mainGlobals mg) (hb:s₁.heap.Ns builtinsNs mb) (hbb:∀ x:Str,x ≠ "__name__"→mb x=bootBuiltins x) (hlim:s₁.heap.NoLimit) (hg:s₁.gens=#[])
  (ha:s₁.heap.get? a=some { cls:=.type "list",data:=.seq vs.toArray }) (hi:IntsAre vs ns) (hl:ns.length ≤ sizeLine) (hr:Room k callerA)
  (F:∀ base:Heap,K.In base→base.Ns mainGlobals mg→FnOk P w K mg base CX k fa fd [x] sp) (hbind:∀ (s:Shared) (u:Value),BindsTo s fd ⟨[u],[]⟩ [(x,u)])
  (hsp:∀ H:Hp,Only H→SqL K H a (ns.map V.int)→sp [.ref a] H (fun v _=>v=.bl true) fun _ _ _=>False)
  (hCX:∀ H e s',CX [] H s₁ (fun _ _ _=>False) e s'→False) :
  codeAny (model P w) callerA (.call (.ref fa) ⟨[.ref a],[]⟩) (fun r s'=>r=.ok (.ret (.bool true))∧OldK s₁.heap s'.heap∧s'.os=s₁.os∧AllBare s'.gens) s₁:=by
 have rv:=vals_ints hi
 have lenV:=hi.length
 -- from an abstract heap in which nothing but the script may be tracked
 have core:∀ H:Hp,Only H→SqL K H a (ns.map V.int)→HOk P w H s₁.heap→(∀ b,H b ≠ none→b=a)→(H a ≠ none→K.lookup a=none) →
   codeAny (model P w) callerA (.call (.ref fa) ⟨[.ref a],[]⟩) (fun r s'=>r=.ok (.ret (.bool true))∧OldK s₁.heap s'.heap∧s'.os=s₁.os∧AllBare s'.gens) s₁:=by
  intro H hO hS hok hA hK
  have base_of:∀ {b:Addr} {o:Obj},s₁.heap.get? b=some o→H b=none→(hidT s₁.heap H).get? b=some o:=fun e n=>hidT_get e n
  have noA:∀ {b:Addr} {o:Obj} {es:Array DictEntry} {ep:Nat},s₁.heap.get? b=some o→o.data=.dict es ep→H b=none:=fun {b o es ep} e d=>by
   cases q:H b with
   | none=>rfl
   | some u =>
    have e':b=a:=hA b (by rw [q]; simp)
    subst e'
    rw [ha] at e; cases e
    have d':Data.seq vs.toArray _=Data.dict es ep:=d
    cases d'
  have nsK:∀ {b:Addr} {m:Str→Option Value},s₁.heap.Ns b m→(hidT s₁.heap H).Ns b m:=fun {b m} ⟨o,es,ep,e,d,r⟩=>⟨o,es,ep,base_of e (noA e d),d,r⟩
  have hKb:K.In (hidT s₁.heap H):=fun b o e=>base_of (KX b o e) (by
   cases q:H b with
   | none=>rfl
   | some u =>
    have e':b=a:=hA b (by rw [q]; simp)
    subst e'
    rw [hK (by rw [q]; simp)] at e; cases e)
  have hM:Mod K mg (hidT s₁.heap H):=⟨hKb,nsK hns,⟨mb,nsK hb,hbb⟩,let ⟨mc,h1,h2⟩:=hlim; ⟨mc,nsK h1,h2⟩⟩
  have e0:Env0 P w K mg (hidT s₁.heap H) callerA [] s₁ H:=⟨rfl,hM,fun b o e=>of_hidT e,Nat.le_of_eq (hidT_size _ _),trivial,fun b hb=>absurd (show b ∈ ([]:List Addr) from hb) (by simp),hok,.of_eq hg⟩
  refine codeAny_mono ((F _ hKb (nsK hns)).run callerA [] s₁ H ⟨[.ref a],[]⟩ [.ref a] [.ref a] _ _ hr e0 (hbind s₁ (.ref a)) (.cons rfl .nil) (hsp H hO hS)) fun r s' h=>?_
  cases r with
  | error e=>exact (hCX H e s' h).elim
  | ok fl =>
   cases fl with
   | next=>exact False.elim h
   | brk=>exact False.elim h
   | cont=>exact False.elim h
   | ret u =>
    obtain ⟨v,H',os,bare,un,hok',r',q⟩:=h
    have q':v=.bl true:=q
    subst q'
    obtain rfl:u=Value.bool true:=r'
    refine ⟨rfl,OldK.of_keep fun b o e=>?_,os,bare⟩
    cases q:H b with
    | none=>exact un.keep b o e q (by intro z; exact absurd (show b ∈ ([]:List Addr) from z) (by simp)) (by simp)
    | some u =>
     rcases hO b with z | ⟨ob,xs,z⟩
     ·rw [q] at z; cases z
     ·have z2:=un.frzs b ob _ z
      obtain ⟨e1,_⟩:=hok b _ z
      obtain ⟨e2,_⟩:=hok' b _ z2
      rw [e] at e1; cases e1
      exact e2
 cases hk:K.lookup a with
 | some o =>
  -- the script is one of the module's own objects
  have e:=KX a o hk
  rw [ha] at e
  cases e
  refine core (fun _=>none) (fun _=>.inl rfl) (.inr ⟨_,vs.toArray,_,hk,rfl,rfl,rfl,by rw [List.size_toArray,lenV]; exact hl,by simpa using rv⟩) (fun b u z=>by have z':(none:Option HO)=some u:=z; cases z') (fun b z=>absurd rfl z) fun z=>absurd rfl z
 | none =>
  refine core (fun b=>if b=a then some (.frz { cls:=.type "list",data:=.seq vs.toArray } (.lst (ns.map V.int))) else none) (fun b=>?_) (.inl (.inr ⟨{ cls:=.type "list",data:=.seq vs.toArray },if_pos rfl⟩)) (fun b u z=>?_) (fun b z=>?_) fun _=>hk
  ·by_cases hb:b=a
   ·exact .inr ⟨_,_,if_pos hb⟩
   ·exact .inl (if_neg hb)
  ·by_cases hb:b=a
   ·have z':=(if_pos hb).symm.trans z
    cases z'
    subst hb
    exact ⟨ha,by rw [List.length_map]; exact hl,vs,_,rv,ha⟩
   ·have z':=(if_neg hb).symm.trans z
    cases z'
  ·by_cases hb:b=a
   ·exact hb
   ·exact absurd (if_neg hb) z
end L2
namespace L2
open PySem PySem.Spec PyProof.Rows
theorem walk_of {l:PySem.W.OpenLaw} {n k:Nat} {q:Program} {loose:List Str} {XP:(Str→Option Value)→Heap→Prop} {YP:World→Heap→Prop} {d:DefRec} {K:Params→PySem.W.Frag} {CX:World→CXT} {sp:World→Sp} {x:Str}
  (hn:l.most=some n) (hn2:n ≤ sizeLine) (hdf:d.params.defaults=[]) (hr:Room k callerA)
  (hY:∀ (w:World) (h:Heap),YP w h→(K w.params).In h)
  (F:∀ (w:World) (mg:Str→Option Value) (fa:Addr) (h:Heap),(K w.params).In h→h.Ns mainGlobals mg→mg d.name=some (.ref fa) →
   ∃ fd:FuncData,(∀ (s:Shared) (u:Value),BindsTo s fd ⟨[u],[]⟩ [(x,u)]) ∧
    ∀ base:Heap,(K w.params).In base→base.Ns mainGlobals mg→FnOk l.prog w (K w.params) mg base (CX w) k fa fd [x] (sp w))
  (hsp:∀ (w:World) (H:Hp) (a:Addr) (ns:List Int),ns.length ≤ n→Only H→SqL (K w.params) H a (ns.map V.int)→sp w [.ref a] H (fun v _=>v=.bl true) fun _ _ _=>False)
  (hCX:∀ (w:World) (H:Hp) (s:Shared) (e:Value) (s':Shared),CX w [] H s (fun _ _ _=>False) e s'→False) :
  PySem.W.WalkO q loose XP YP l.row.toRowW d [] (fun f vs=>PySem.call f vs):=by
 refine Att.attach_call hn hdf fun w s₀ s₁ mg mb fa o pm cd doc a vs ns G Y ho hd hcd hmg hobj hints hlen hg=>?_
 have KX:=hY w _ Y
 obtain ⟨fd,hb,hF⟩:=F w mg fa _ KX G.T.g hmg
 exact law_call KX G.T.g G.T.b G.T.builtins G.T.nolimit hg hobj hints (Nat.le_trans hlen hn2) hr hF hb (fun H hO hS=>hsp w H a ns hlen hO hS) fun H e s'=>hCX w H s₁ e s'
end L2
namespace L2
open PySem PySem.Spec PyProof.Rows
def inClass (s:Stmt) (j:Nat):Stmt:=match s with
 | .ClassDef _ _ _ body _ _ _ _ _ _ _=>body.getD j (.Pass ⟨0,0,0,0⟩)
 | _=>.Pass ⟨0,0,0,0⟩
def defArgs (s:Stmt):Arguments:=match s with
 | .FunctionDef _ a _ _ _ _ _ _ _ _=>a
 | _=>{ posonlyargs:=[],args:=[],vararg:=none,kwonlyargs:=[],kw_defaults:=[],kwarg:=none,defaults:=[] }
def defBody (s:Stmt):List Stmt:=match s with
 | .FunctionDef _ _ b _ _ _ _ _ _ _=>b
 | _=>[]
def defScope (s:Stmt):Scope:=match s with
 | .FunctionDef _ _ _ _ _ _ sc _ _ _=>sc
 | _=>{ kind:=.function,names:=[],isGenerator:=false,isCoroutine:=false }
abbrev CX0:CXT:=fun _ _ _ _ _ _=>False
abbrev E0:XK:=fun _ _ _=>False
theorem pass0 {X:Cx}:Passes CX0 X E0:=fun _ _ _ _ _ _ _ h=>h.elim
structure Fun (K:PySem.W.Frag) (x qual:Str) (st:Stmt) (f:Addr) (fd:FuncData):Prop where
 ex:∃ (oc:Value) (od:Option Addr) (kV doc pm:Value) (an:Option Addr) (cdv ct:Value) (osl:Array (Option Value)),
  fd=PySem.W.fnOf x qual (defArgs st) (defBody st) (defScope st) .none kV doc pm an cdv ct∧K.lookup f=some ⟨oc,od,.func fd,osl⟩∧PySem.W.codeIn K cdv qual=true
 kp:PySem.W.keepIn K (.ref f)=true
section
variable {P:Program} {w:World} {K:PySem.W.Frag} {mg:Str→Option Value} {base:Heap}
theorem Fun.ok {x qual:Str} {st:Stmt} {f:Addr} {fd:FuncData} {N ps:List Str} {k:Nat} {sp:Sp} (F:Fun K x qual st f fd) (S:FnScope N ps (defScope st)) (len:∀ vs H Q E,sp vs H Q E→vs.length=ps.length)
  (hbody:∀ (cdv:Value) (A:Around) (outer:List Env) (s:Shared) (H:Hp) (vs:List V) (Q:VK) (E:XK),Room k (A.deeper (envOfC qual (defScope st) s.heap.objs.size f cdv))→sp vs H Q E →
   ∃ t,PSs (cxOf CX0 P w K mg base N qual (defScope st) f cdv A outer s H E).nox (defBody st) t∧t { nx:=fun _ H'=>Q .non H',rt:=Q } (start N vs) H):FnOk P w K mg base CX0 (k + 1) f fd ps sp:=by
 obtain ⟨oc,od,kV,doc,pm,an,cdv,ct,osl,rfl,lk,hcd⟩:=F.ex
 refine fn_of lk hcd S len fun A outer s H vs Q E hr hsp=>?_
 obtain ⟨t,h,q⟩:=hbody cdv A outer s H vs Q E hr hsp
 exact ⟨t,h.nox,q⟩
theorem Fun.binds {x qual:Str} {st:Stmt} {f:Addr} {fd:FuncData} {ps:List Str} (F:Fun K x qual st f fd)
  (h:∀ (kV doc pm:Value) (an:Option Addr) (cdv ct:Value) (us:List Value),us.length=ps.length→bindArgs (PySem.W.fnOf x qual (defArgs st) (defBody st) (defScope st) .none kV doc pm an cdv ct) ⟨us,[]⟩=pure (ps.zip us)):Binds K fd ps []:=by
 obtain ⟨oc,od,kV,doc,pm,an,cdv,ct,osl,rfl,lk,hcd⟩:=F.ex
 exact .all (h kV doc pm an cdv ct)
theorem fun_mk {x qual:Str} {st:Stmt} {f:Addr} {oc:Value} {od an:Option Addr} {osl:Array (Option Value)} {kV doc pm cdv ct:Value} (l:K.lookup f=some ⟨oc,od,.func (PySem.W.fnOf x qual (defArgs st) (defBody st) (defScope st) .none kV doc pm an cdv ct),osl⟩)
  (c:PySem.W.codeIn K cdv qual=true) (k:PySem.W.keepIn K (.ref f)=true):Fun K x qual st f (PySem.W.fnOf x qual (defArgs st) (defBody st) (defScope st) .none kV doc pm an cdv ct):=⟨⟨oc,od,kV,doc,pm,an,cdv,ct,osl,rfl,l,c⟩,k⟩
end
theorem hu_of {A:Around} {k:Nat} (hr:Room k A):A.units + 1 < cLine:=Nat.lt_of_le_of_lt (Nat.add_le_add_left (by decide:1 ≤ 64) _) hr.units
section
variable {X:Cx}
theorem pv (i:Nat) {x:Str} {pos:Pos} (hN:X.N[i]?=some x:=by rfl) (hv:Vis X.env.scope x:=by first | exact Or.inl rfl | exact Or.inr (Or.inl rfl) | exact Or.inr (Or.inr rfl)) (hd:(x == ("__debug__":Str))=false:=by decide)
  (hcd:(x == ("__classdict__":Str))=false:=by decide):PE X (.Name x pos) (tVar i):=pe_var hN hv hd hcd
end
theorem iteF {A B:Prop} (h:B):if false=true then A else B:=by
 rw [if_neg Bool.false_ne_true]
 exact h
theorem iteT {A B:Prop} (h:A):if true=true then A else B:=by
 rw [if_pos rfl]
 exact h
theorem ite2 {c A B:Prop} [Decidable c] (h1:c→A) (h2:¬ c→B):if c then A else B:=by
 by_cases h:c
 ·rw [if_pos h]
  exact h1 h
 ·rw [if_neg h]
  exact h2 h
theorem iteNS {c A B:Prop} [Decidable c] (hc:c) (h:B):if (!decide c)=true then A else B:=by
 rw [decide_eq_true hc]
 exact iteF h
def Same (H H':Hp):Prop:=∀ b o,H b=some o→H' b=some o
theorem Same.refl (H:Hp):Same H H:=fun _ _ h=>h
theorem Same.trans {H H1 H2:Hp} (a:Same H H1) (b:Same H1 H2):Same H H2:=fun c o h=>b c o (a c o h)
theorem Same.free {H H':Hp} (e:Same H H') {l:Addr} (h:H' l=Option.none):H l=Option.none:=by
 cases q:H l with
 | none=>rfl
 | some o =>
  rw [e l o q] at h
  cases h
theorem Same.seq {K:PySem.W.Frag} {H H':Hp} {a:Addr} {xs:List V} (e:Same H H') (h:SqL K H a xs):SqL K H' a xs:=by
 rcases h with (h | ⟨o,h⟩) | h
 ·exact .inl (.inl (e _ _ h))
 ·exact .inl (.inr ⟨o,e _ _ h⟩)
 ·exact .inr h
end L2
namespace L2
open PySem PySem.Spec PyProof.Rows
theorem rel_look {env:Env} {y:Str} {k:NameKind}:∀ {names:List (Str × NameKind)},
  (names.map fun (n,k)=>if (k == NameKind.free && env.scope.kind == .function && env.kindOf n == some .cell) then (n,NameKind.cell) else (n,k)).lookup y=some k →
   ∃ k0,names.lookup y=some k0∧(k=k0 ∨ (k0=.free∧k=.cell))
 | [],h=>by simp at h
 | (n,q) :: r,h=>by
  have ih:=@rel_look env y k r
  rw [List.map_cons] at h
  dsimp only at h
  cases hx:y == n with
  | true =>
   refine ⟨q,by simp [List.lookup_cons,hx],?_⟩
   by_cases hc:(q == NameKind.free && env.scope.kind == .function && env.kindOf n == some .cell)=true
   ·rw [if_pos hc] at h
    simp only [List.lookup_cons,hx] at h
    cases h
    have hq:(q == NameKind.free)=true:=by
     cases e:q == NameKind.free with
     | true=>rfl
     | false=>rw [e] at hc; simp at hc
    exact .inr ⟨by simpa using hq,rfl⟩
   ·rw [if_neg hc] at h
    simp only [List.lookup_cons,hx] at h
    cases h
    exact .inl rfl
  | false =>
   have h2:(r.map fun (n,k)=>if (k == NameKind.free && env.scope.kind == .function && env.kindOf n == some .cell) then (n,NameKind.cell) else (n,k)).lookup y=some k:=by
    by_cases hc:(q == NameKind.free && env.scope.kind == .function && env.kindOf n == some .cell)=true
    ·rw [if_pos hc] at h
     simpa only [List.lookup_cons,hx] using h
    ·rw [if_neg hc] at h
     simpa only [List.lookup_cons,hx] using h
   obtain ⟨k0,e,r'⟩:=ih h2
   exact ⟨k0,by simpa only [List.lookup_cons,hx] using e,r'⟩
theorem clos_go {env:Env}:∀ (names:List (Str × NameKind)) (acc:List (Str × Addr)),(∀ y ∈ names,y.2=.free→∃ c,env.cells.lookup y.1=some c)→(∀ y c,acc.lookup y=some c→env.cells.lookup y=some c) →
  ∃ cl,(forIn names acc fun (x:Str × NameKind) (r:List (Str × Addr))=>(if (x.2 == NameKind.free)=true then (do let c ← cellOf env x.1; pure (ForInStep.yield ((x.1,c) :: r))) else pure (ForInStep.yield r):Sem (ForInStep (List (Str × Addr)))))=(pure cl:Sem (List (Str × Addr))) ∧
   (∀ y c,cl.lookup y=some c→env.cells.lookup y=some c)∧(∀ y ∈ names,y.2=.free→∃ c,cl.lookup y.1=some c)∧∀ y c,acc.lookup y=some c→∃ c',cl.lookup y=some c'
 | [],acc,_,ha=>⟨acc,rfl,ha,(fun y hy=>absurd hy (by simp)),fun y c h=>⟨c,h⟩⟩
 | (n,k) :: r,acc,hn,ha=>by
  by_cases hk:k=NameKind.free
  ·obtain ⟨c,hc⟩:=hn (n,k) List.mem_cons_self hk
   have hacc:∀ y d,((n,c) :: acc).lookup y=some d→env.cells.lookup y=some d:=fun y d e=>by
    cases hx:y == n with
    | true =>
     simp only [List.lookup_cons,hx] at e
     cases e
     have:y=n:=by simpa using hx
     rw [this]
     exact hc
    | false =>
     simp only [List.lookup_cons,hx] at e
     exact ha y d e
   obtain ⟨cl,e,h1,h2,h3⟩:=clos_go r ((n,c) :: acc) (fun y hy=>hn y (List.mem_cons_of_mem _ hy)) hacc
   have hn3:∃ c',cl.lookup n=some c':=h3 n c (by simp)
   refine ⟨cl,?_,h1,fun y hy hf=>?_,fun y d hd=>?_⟩
   ·rw [List.forIn_cons]
    dsimp only
    rw [if_pos (by simp [hk])]
    have ec:cellOf env n=pure c:=by
     unfold cellOf
     rw [hc]
    rw [ec]
    simp only [pure_bind]
    exact e
   ·rcases List.mem_cons.mp hy with z | z
    ·subst z
     exact hn3
    ·exact h2 y z hf
   ·cases hx:y == n with
    | true =>
     have:y=n:=by simpa using hx
     rw [this]
     exact hn3
    | false=>exact h3 y d (by simpa only [List.lookup_cons,hx] using hd)
  ·obtain ⟨cl,e,h1,h2,h3⟩:=clos_go r acc (fun y hy=>hn y (List.mem_cons_of_mem _ hy)) ha
   refine ⟨cl,?_,h1,fun y hy hf=>?_,h3⟩
   ·rw [List.forIn_cons]
    dsimp only
    rw [if_neg (by simpa using hk),pure_bind]
    exact e
   ·rcases List.mem_cons.mp hy with z | z
    ·subst z
     exact absurd hf hk
    ·exact h2 y z hf
theorem clos_ok {env:Env} {scope:Scope} (hn:∀ y ∈ scope.names,y.2=.free→∃ c,env.cells.lookup y.1=some c) :
  ∃ cl,closureFor scope env=pure cl∧(∀ y c,cl.lookup y=some c→env.cells.lookup y=some c)∧∀ y ∈ scope.names,y.2=.free→∃ c,cl.lookup y.1=some c:=by
 obtain ⟨cl,e,h1,h2,_⟩:=clos_go (env:=env) scope.names [] hn (fun y c h=>by simp at h)
 refine ⟨cl,?_,h1,h2⟩
 unfold closureFor
 dsimp only
 have e2:∀ (f g:Str × NameKind→List (Str × Addr)→Sem (ForInStep (List (Str × Addr)))),(∀ x r,f x r=g x r)→(forIn scope.names [] f:Sem (List (Str × Addr)))=forIn scope.names [] g:=fun f g h=>by
  have:f=g:=by funext x r; exact h x r
  rw [this]
 rw [e2 _ _ (fun x r=>?_),e]
 ·rfl
 ·obtain ⟨n,k⟩:=x
  dsimp only
theorem comp_loop_go {prog:Program} {w:World} {A:Around} {R:Result→Shared→Prop} {s:Shared} {elt target iter:Expr} {ifs:List Expr} {scope:Scope} {pos:Pos} {it acc:Value} {env:Env} (J:Nat→Shared→Prop)
  (turn:∀ n s,J n s→wpAny (model prog w) A (pyNext it) (fun r s1=>match r with
   | none=>R (.ok .next) s1
   | some v=>wpAny (model prog w) A (letOwnedTupleGo target it v) (fun _ s1'=>wpAny (model prog w) A (assign target env v) (fun _ s2 =>
     wpAny (model prog w) A (forIn ifs true fun c r=>if r=true then do let ok ← isTrue c env (eval c env); pure (ForInStep.yield ok) else pure (ForInStep.yield r)) (fun ok s3 =>
      if ok=true then wpAny (model prog w) A (eval elt env) (fun x s4 =>
       wpAny (model prog w) A (call (.builtin "list.append") [acc,x]) (fun _ s5=>∃ m,m < n∧J m s5) (fun _ _=>False) s4) (fun _ _=>False) s3
      else ∃ m,m < n∧J m s3) (fun _ _=>False) s2) (fun _ _=>False) s1') (fun _ _=>False) s1) (fun _ _=>False) s)
  (n:Nat) (h:J n s):codeAny (model prog w) A (.compLoop (.ListComp elt [⟨target,iter,ifs,0⟩] scope pos) 0 it acc env) R s:=by
 have no:∀ {E:Value→Shared→Prop} (e:Value) (s:Shared),(fun (_:Value) (_:Shared)=>False) e s→E e s:=fun _ _ f=>f.elim
 refine codeAny_loop rfl J (fun n s hJ=>?_) n h
 show wpAny _ A ((compTurn (.ListComp elt [⟨target,iter,ifs,0⟩] scope pos) 0 it acc env).onRaise _) _ _ s
 refine wpAny_noted ?_
 rw [compTurn_list]
 refine wpAny_bind (wpAny_standAt (wpAny_bind (wpAny_mono (turn n s hJ) (fun r s1 h1=>?_) no)))
 cases r with
 | none=>exact wpAny_pure h1
 | some v =>
  refine wpAny_bind (wpAny_mono h1 (fun _ s1' h1'=>wpAny_bind (wpAny_mono h1' (fun _ s2 h2=>wpAny_bind (wpAny_mono h2 (fun ok s3 h3=>?_) no)) no)) no)
  cases ok with
  | false=>exact wpAny_pure ⟨rfl,h3⟩
  | true=>exact wpAny_bind (wpAny_bind (wpAny_mono h3 (fun x s4 h4=>wpAny_bind (wpAny_mono h4 (fun _ s5 h5=>wpAny_pure (wpAny_pure ⟨rfl,h5⟩)) no)) no))
abbrev Cx.comp (X:Cx) (x:Str) (scope:Scope) (cl:List (Str × Addr)) (C:Addr) (fp:List Addr) (s:Shared) (H:Hp):Cx :=
 { X with N:=x :: X.N,s₀:=s,H₀:=H,env:=compEnvC scope cl C X.env,outer:=X.stack,ex:=fp,fn:=fun _=>false,pn:=[],xe:=fun _ _=>False }
def capOk (scope:Scope) (env:Env) (y:Str):Bool:=match scope.names.lookup y with
 | none=>true
 | some .free=>env.kindOf y == some .cell || env.kindOf y == some .free
 | some _=>false
structure CompSc (X:Cx) (x:Str) (scope:Scope):Prop where
 kind:scope.kind=.function
 cell:∀ y ∈ scope.names,y.2 ≠ .cell
 names:∀ y ∈ scope.names,y.2=.local→scope.names.lookup y.1=some .local
 hx:scope.names.lookup x=some .local
 free:∀ y ∈ scope.names,y.2=.free→X.env.kindOf y.1=some .cell ∨ X.env.kindOf y.1=some .free
 cap:∀ y ∈ X.N,capOk scope X.env y=true
 nd:(x :: X.N).Nodup
theorem free_mem {scope:Scope} {y:Str} (h:scope.names.lookup y=some .free):(y,NameKind.free) ∈ scope.names:=PySem.mem_of_lookup h
theorem comp_inv {X:Cx} {x:Str} {scope:Scope} {cl:List (Str × Addr)} {fp:List Addr} {pins:List (Addr × Obj)} {σ:St} {H:Hp} {s:Shared} {h':Heap} {tk:Nat} {m:Str→Option Value} (S:CompSc X x scope) (I:Inv X pins σ H s)
  (hns:h'.Ns s.heap.objs.size m) (hk:∀ b o,s.heap.get? b=some o→h'.get? b=some o) (hf:∀ b ∈ fp,FpOk X pins H b) (ho:∀ b ∈ fp,∃ o,s.heap.get? b=some o)
  (hsub:∀ y c,cl.lookup y=some c→X.env.cells.lookup y=some c) (hall:∀ y ∈ scope.names,y.2=.free→∃ c,cl.lookup y.1=some c) :
  Inv (X.comp x scope cl s.heap.objs.size fp s H) (X.pn ++ pins) (none :: σ) H { s with heap:=h',toks:=tk }:=by
 refine ⟨⟨I.ok.mod,S.kind,I.ok.glob,I.ok.blt,Nat.le_refl _,fun y z c h1 h2=>I.ok.inj y z c (hsub y c h1) (hsub z c h2),fun y hy=>?_,fun y c hfn=>absurd hfn Bool.false_ne_true,I.ok.hd,I.ok.frames,.inl rfl,fun b hb=>⟨?_,fun y c e=>(hf b hb).2.2.2.2.1 y c (hsub y c e)⟩,
  I.bs,Nat.le_trans I.ok.bsz I.sz,fun b o e hb=>?_,fun b hb hs=>?_,I.stack,I.stkFree⟩,rfl,I.bare,Un.kept hk,⟨m,hns,fun i y v e1 e2 e3=>?_⟩,fun y c e=>?_,I.fresh,fun y c e=>I.freeC y c (hsub y c e),fun p hp=>?_,I.hok.kept hk,?_⟩
 ·have hy':∃ k,(k=NameKind.cell ∨ k=NameKind.free)∧(relabel scope X.env).names.lookup y=some k:=by
   rcases hy with z | z
   ·exact ⟨_,.inl rfl,z⟩
   ·exact ⟨_,.inr rfl,z⟩
  obtain ⟨k,hk',e⟩:=hy'
  obtain ⟨k0,e0,r⟩:=rel_look e
  have kf:k0=.free:=by
   rcases r with r | r
   ·subst r
    rcases hk' with z | z
    ·subst z
     exact absurd rfl (S.cell _ (PySem.mem_of_lookup e0))
    ·exact z
   ·exact r.1
  subst kf
  exact hall (y,.free) (free_mem e0) rfl
 ·obtain ⟨o,e⟩:=ho b hb
  exact Nat.ne_of_lt (Heap.lt_size e)
 ·rcases (hf b hb).2.2.2.1 with z | z
  ·exact I.ok.noex b o e z
  ·exact absurd (Nat.lt_of_lt_of_le (Heap.lt_size e) (Nat.le_trans I.ok.bsz z)) (Nat.lt_irrefl _)
 ·rcases List.mem_cons.mp (I.stkSub b hs) with z | z
  ·exact (hf b hb).2.1 z
  ·exact (hf b hb).2.2.1 z
 ·cases i with
  | zero=>simp at e2
  | succ i =>
   have e1':X.N[i]?=some y:=by simpa using e1
   have e2':σ[i]?=some (some v):=by simpa using e2
   have hc:=S.cap y (List.mem_of_getElem? e1')
   have hvis:∃ k,(relabel scope X.env).names.lookup y=some k:=by
    rcases e3 with z | z | z
    ·exact ⟨_,z⟩
    ·exact ⟨_,z⟩
    ·exact ⟨_,z⟩
   obtain ⟨k,ek⟩:=hvis
   obtain ⟨k0,e0,r⟩:=rel_look ek
   unfold capOk at hc
   rw [e0] at hc
   have kf:k0=.free:=by cases k0 <;> simp_all
   subst kf
   have hkk:X.env.kindOf y=some .cell ∨ X.env.kindOf y=some .free:=by simpa using hc
   obtain ⟨m0,hn0,hl0⟩:=I.loc
   obtain ⟨u,ru,l⟩:=hl0 i y v e1' e2' (.inr hkk)
   refine ⟨u,ru,.inr ?_⟩
   obtain ⟨c',hc'⟩:=hall (y,.free) (free_mem e0) rfl
   rcases l with ⟨z,_⟩ | ⟨_,c,ec,⟨o,ho',hd'⟩⟩
   ·rcases hkk with q | q <;> rw [z] at q <;> cases q
   ·have e4:=hsub y c' hc'
    rw [ec] at e4
    have e5:c=c':=Option.some.inj e4
    subst e5
    refine ⟨?_,c,hc',o,hk _ _ ho',hd'⟩
    rcases r with r | r
    ·subst r
     exact .inr ek
    ·obtain ⟨_,r⟩:=r
     subst r
     exact .inl ek
 ·obtain ⟨v,o,ho',hd'⟩:=I.cell y c (hsub y c e)
  exact ⟨v,o,hk _ _ ho',hd'⟩
 ·have hp':p ∈ X.pn ++ pins:=by simpa using hp
  obtain ⟨e,n,ne,nf,d⟩:=I.pin p hp'
  refine ⟨hk _ _ e,n,Nat.ne_of_lt (Heap.lt_size e),fun z=>?_,d⟩
  rcases List.mem_cons.mp (I.stkSub p.1 z) with q | q
  ·exact ne q
  ·exact nf q
 ·show σ.length + 1=X.N.length + 1
  rw [I.len]
def PTs (X:Cx) (ifs:List Expr) (t:TT):Prop :=
 ∀ (pins:List (Addr × Obj)) (s:Shared) (σ:St) (H:Hp) (Q:Bool→Hp→Prop),Inv X pins σ H s→t σ H Q →
  wpAny (model X.prog X.w) X.A (forIn ifs true fun c r=>if r=true then do let ok ← isTrue c X.env (eval c X.env); pure (ForInStep.yield ok) else pure (ForInStep.yield r)) (TP X pins σ Q) X.xe s
def ttAll:TT:=fun _ H Q=>Q true H
theorem pts_nil {X:Cx}:PTs X [] ttAll:=fun pins s σ H Q I h=>by
 rw [List.forIn_nil]
 exact wpAny_pure ⟨H,I,h⟩
theorem pts_one {X:Cx} {c:Expr} {t:TT} (hc:PT X c t):PTs X [c] t:=fun pins s σ H Q I h=>by
 rw [List.forIn_cons,if_pos rfl]
 refine wpAny_bind (wpAny_bind (thn (hc pins s σ H Q I h) fun ok s1 q=>wpAny_pure ?_))
 try dsimp only
 rw [List.forIn_nil]
 exact wpAny_pure q
def CompGo (J:It) (H1:Hp) (σ:St) (tt:TT) (te:TE) (Q:VK):Prop:=∀ D,H1 D=none→∃ W:Nat→Nat→Hp→Prop,(∃ m,W 0 m (upd H1 D (.lst [])))∧∀ i m H,W i m H →
 (J.stop i H∧Q (.ref D) H) ∨ (J.go i H∧∀ x H',J.yld i H x H'→tt (some x :: σ) H' fun b H2=>if b=true then te (some x :: σ) H2 fun y H3=>∃ ys,H3 D=some (.lst ys)∧ys.length < sizeLine∧∃ m',m' < m∧W (i + 1) m' (upd H3 D (.lst (ys ++ [y])))
  else ∃ m',m' < m∧W (i + 1) m' H2)
def tComp (wi:TI) (tt:TT) (te:TE):TE:=fun σ H Q=>wi σ H fun J H1=>CompGo J H1 σ tt te Q
section
variable {X:Cx} {x:Str} {px pos:Pos} {elt iter:Expr} {ifs:List Expr} {scope:Scope} {wi:TI} {tt:TT} {te:TE}
theorem comp_core {pins:List (Addr × Obj)} {σ:St} {H2:Hp} {s2:Shared} {it:Addr} {fp:List Addr} {tn:Nat→Heap→Prop} {J:It} {Q:VK} {cl:List (Str × Addr)} {E:Value→Shared→Prop} {RR:Value→Addr→Result→Shared→Prop}
  (S:CompSc X x scope) (hcal:X.calm=true) (hclos:(∀ y c,cl.lookup y=some c→X.env.cells.lookup y=some c)∧∀ y ∈ scope.names,y.2=.free→∃ c,cl.lookup y.1=some c)
  (ht:∀ cl C fp s H,PTs (X.comp x scope cl C fp s H) ifs tt) (he:∀ cl C fp s H,PE (X.comp x scope cl C fp s H) elt te)
  (I2:Inv X pins σ H2 s2) (T:Turn X.prog X.w X.K (.Name x px) J fp it tn) (st2:tn 0 s2.heap) (f2:∀ b ∈ fp,FpOk X pins H2 b)
  (q:CompGo J H2 σ tt te Q)
  (hRR:∀ D C s' H' m',Inv X pins σ H' s'→s'.heap.Ns C m'→FpOk X pins H' C→Q (.ref D) H'→RR (.ref D) C (.ok .next) s') :
  wpAny (model X.prog X.w) X.A (newList []) (fun acc s3=>wpAny (model X.prog X.w) X.A (newFunctionEnv scope X.env.globals cl [] X.env.qual none .none (some X.env)) (fun cenv s4 =>
   codeAny (model X.prog X.w) X.A (.compStart (.ListComp elt [⟨.Name x px,iter,ifs,0⟩] scope pos) 0 (.ref it) acc { cenv with scope:=relabel scope X.env }) (RR acc cenv.locals) s4) E s3) E s2:=by
 obtain ⟨hsub,hall⟩:=hclos
 refine wpAny_newObj_type (wpAny_newFunctionEnv S.cell (by intro y hy; simp at hy) (fun h1 hns hsb=>?_) S.kind)
 have I3:Inv X pins σ (upd H2 s2.heap.objs.size (.lst [])) { s2 with heap:=s2.heap.push { cls:=.type "list",data:=.seq ([]:List Value).toArray } }:=I2.lnew (t':=s2.toks) .nil (by simp)
 have hD:H2 s2.heap.objs.size=none:=I2.fresh
 obtain ⟨W,⟨m0,w0⟩,turn⟩:=q _ hD
 generalize hs3:({ s2 with heap:=s2.heap.push { cls:=.type "list",data:=.seq ([]:List Value).toArray } }:Shared)=s3 at I3
 have hs3':({ s2 with heap:=s2.heap.push { cls:=.type "list",dict:=none,data:=.seq ([]:List Value).toArray } }:Shared)=s3:=hs3
 dsimp only at hns hsb ⊢
 generalize hDD:s2.heap.objs.size=D at *
 have eh:s2.heap.push { cls:=.type "list",dict:=none,data:=.seq ([]:List Value).toArray }=s3.heap:=by rw [← hs3]
 rw [eh] at hns hsb
 have keep:∀ b o,s3.heap.get? b=some o→h1.get? b=some o:=fun b o e=>hsb.extBut b o (Nat.ne_of_lt (Heap.lt_size e)) (Heap.get?_push_of_some _ e)
 have objs:∀ b ∈ fp,∃ o,s3.heap.get? b=some o:=fun b hb=>by
  obtain ⟨o,e,_⟩:=T.obj _ _ st2 b hb
  rw [← eh]
  exact ⟨o,Heap.get?_push_of_some _ e⟩
 have f3:∀ b ∈ fp,FpOk X pins (upd H2 D (.lst [])) b:=fun b hb=>by
  obtain ⟨o,e,_⟩:=T.obj _ _ st2 b hb
  have ne:b ≠ D:=by rw [← hDD]; exact Nat.ne_of_lt (Heap.lt_size e)
  exact ⟨by rw [upd_ne ne]; exact (f2 b hb).1,(f2 b hb).2⟩
 have I4:Inv (X.comp x scope cl s3.heap.objs.size fp s3 (upd H2 D (.lst []))) (X.pn ++ pins) (none :: σ) (upd H2 D (.lst [])) { s3 with heap:=h1,toks:=s3.toks + ([]:List (Str × Value)).length }:=comp_inv S I3 hns keep f3 objs hsub hall
 have st4:tn 0 h1:=T.keep _ _ _ st2 fun b hb o e=>keep b o (by rw [← eh]; exact Heap.get?_push_of_some _ e)
 -- what stays true of the iterator's objects
 have stat:∀ {H':Hp},(∀ b ∈ fp,H' b=none)→∀ b ∈ fp,FpOk (X.comp x scope cl s3.heap.objs.size fp s3 (upd H2 D (.lst []))) (X.pn ++ pins) H' b:=fun hn b hb=>by
  refine ⟨hn b hb,(I4.ok.exf b hb).1,I4.ok.exfs b hb,.inl hb,(I4.ok.exf b hb).2,fun p hp=>(f3 b hb).2.2.2.2.2 p (by simpa using hp)⟩
 have loop:codeAny (model X.prog X.w) X.A (.compLoop (.ListComp elt [⟨.Name x px,iter,ifs,0⟩] scope pos) 0 (.ref it) (.ref D) (compEnvC scope cl s3.heap.objs.size X.env)) (RR (.ref D) s3.heap.objs.size) { s3 with heap:=h1,toks:=s3.toks + ([]:List (Str × Value)).length }:=by
  refine comp_loop_go (fun n s'=>∃ i o H',Inv (X.comp x scope cl s3.heap.objs.size fp s3 (upd H2 D (.lst []))) (X.pn ++ pins) (o :: σ) H' s'∧tn i s'.heap∧(∀ b ∈ fp,H' b=none)∧W i n H') ?_ m0
   ⟨0,none,_,I4,st4,fun b hb=>(f3 b hb).1,w0⟩
  rintro n s5 ⟨i,o,H5,I5,st5,fr5,w5⟩
  rcases turn i n H5 w5 with ⟨stop,qn⟩ | ⟨go,step⟩
  ·refine thn (T.done (X.comp x scope cl s3.heap.objs.size fp s3 (upd H2 D (.lst []))) rfl rfl rfl hcal i _ s5 _ H5 _ I5 (stat fr5) st5 stop) fun r s6 ⟨hr,I6⟩=>?_
   subst hr
   obtain ⟨m6,hn6,_⟩:=I6.loc
   have I7:Inv X pins σ H5 s6:=I3.call' (ch:=fp) I6.os I6.base I6.hok I6.bare fun b hb=>⟨(f3 b hb).2.2.2.1,(f3 b hb).2.1,(f3 b hb).2.2.2.2.1,(f3 b hb).2.2.2.2.2⟩
   exact hRR D s3.heap.objs.size s6 H5 m6 I7 hn6 (I3.fpOk (Nat.le_refl _) I6.free) qn
  ·refine thn (T.item (X.comp x scope cl s3.heap.objs.size fp s3 (upd H2 D (.lst []))) rfl rfl rfl hcal i _ s5 _ H5 _ I5 (stat fr5) st5 go) fun r s6 ⟨u,hr,h6⟩=>?_
   subst hr
   refine thn h6 fun _ s7 ⟨y,H7,I7,r7,y7,st7,fr7⟩=>?_
   have I7':=I7.pinned (stat fr7) (T.obj _ _ st7)
   have hxl:(relabel scope X.env).names.lookup x=some .local:=lookup_relabel_local S.hx
   refine thn (pg_name (X:=X.comp x scope cl s3.heap.objs.size fp s3 (upd H2 D (.lst []))) (i:=0) S.nd rfl (.inl hxl) (.inr hxl) _ s7 (o :: σ) H7 y u (fun σ' H'=>σ'=some y :: σ∧H'=H7) I7' r7 ⟨rfl,rfl⟩) fun _ s8 ⟨σ8,H8,I8,e8,e8'⟩=>?_
   subst e8 e8'
   refine thn (ht _ _ _ _ _ _ s8 _ H8 _ I8 (step y H8 y7)) fun ok s9 ⟨H9,I9,q9⟩=>?_
   have back:∀ {H':Hp} {s':Shared} {m':Nat},Inv (X.comp x scope cl s3.heap.objs.size fp s3 (upd H2 D (.lst []))) (X.pn ++ pins ++ pinsAt fp s7.heap) (some y :: σ) H' s'→m' < n→W (i + 1) m' H' →
     ∃ m,m < n∧∃ i o H',Inv (X.comp x scope cl s3.heap.objs.size fp s3 (upd H2 D (.lst []))) (X.pn ++ pins) (o :: σ) H' s'∧tn i s'.heap∧(∀ b ∈ fp,H' b=none)∧W i m H':=fun {H' s' m'} I' hm w'=>by
    have pin:∀ b o,b ∈ fp→s7.heap.get? b=some o→s'.heap.get? b=some o∧H' b=none:=fun b o hb e=>by
     have z:=I'.pin (b,o) (List.mem_append_right _ (List.mem_append_right _ (mem_pinsAt hb e)))
     exact ⟨z.1,z.2.1⟩
    refine ⟨m',hm,i + 1,some y,H',I'.unpinned,T.keep _ _ _ st7 fun b hb o e=>(pin b o hb e).1,fun b hb=>?_,w'⟩
    obtain ⟨o',e,_⟩:=T.obj _ _ st7 b hb
    exact (pin b o' hb e).2
   cases ok with
   | false =>
    rw [if_neg Bool.false_ne_true] at q9 ⊢
    obtain ⟨m',hm,w'⟩:=q9
    exact back I9 hm w'
   | true =>
    rw [if_pos rfl] at q9 ⊢
    refine thn (he _ _ _ _ _ _ s9 _ H9 _ I9 q9) fun v s10 ⟨z,H10,I10,r10,q10⟩=>?_
    obtain ⟨ys,e10,l10,m',hm,w'⟩:=q10
    refine thn (mt_append _ s10 _ H10 (.ref D) [z] (.ref D) [v] (fun _ H'=>H'=upd H10 D (.lst (ys ++ [z]))) I10 rfl (.cons r10 .nil) ⟨D,ys,z,rfl,rfl,e10,l10,rfl⟩) fun _ s11 ⟨_,H11,I11,_,e11⟩=>?_
    subst e11
    exact back I11 hm w'
 exact codeAny_compStart_list loop (T.self _ 0 _ _ _ st4 loop)
theorem pe_comp (S:CompSc X x scope) (hcal:X.calm=true) (hi:PI X (.Name x px) iter wi) (ht:∀ cl C fp s H,PTs (X.comp x scope cl C fp s H) ifs tt) (he:∀ cl C fp s H,PE (X.comp x scope cl C fp s H) elt te)
  (hs:∀ x,foldedSetIterable iter X.env x=pure x:=by intro _; rfl):PE X (.ListComp elt [⟨.Name x px,iter,ifs,0⟩] scope pos) (tComp wi tt te):=by
 intro pins s σ H Q I h
 obtain ⟨cl,hcl,hc⟩:=clos_ok (env:=X.env) (scope:=scope) fun y hy hf=>I.ok.has y.1 (S.free y hy hf)
 rw [eval_ListComp]
 refine wpAny_comprehension_free (use:=none) rfl hs hcl S.kind S.names (thn (hi pins s σ H _ I h) fun xv s1 h1=>thn h1 fun itv s2 h2=>?_)
 obtain ⟨it,fp,tn,J,H2,e,I2,T,st2,f2,q⟩:=h2
 subst e
 refine comp_core (RR:=fun acc C=>compPost (model X.prog X.w) X.A X.xe none (EP X pins σ Q) acc C) S hcal hc ht he I2 T st2 f2 q ?_
 intro D C s' H' m' I' hn F' hq
 exact ⟨m',hn,fun h' sb=>⟨.ref D,H',I'.turned (t':=s'.toks) (fun b o hb e=>(sb.2 b hb).trans e) F'.1 F'.2.1 F'.2.2.2.1 F'.2.2.2.2.1 F'.2.2.2.2.2,rfl,hq⟩⟩
theorem ps_setComp {i:Nat} {y:Str} {py spos:Pos} (S:CompSc X x scope) (hcal:X.calm=true) (hN:X.N.Nodup) (hiN:X.N[i]?=some y) (hy:Loc X.env.scope y) (hi:PI X (.Name x px) iter wi) (ht:∀ cl C fp s H,PTs (X.comp x scope cl C fp s H) ifs tt)
  (he:∀ cl C fp s H,PE (X.comp x scope cl C fp s H) elt te) (hsw:swapsWith (.ListComp elt [⟨.Name x px,iter,ifs,0⟩] scope pos) (some (.Name y py)) spos.line X.env=pure true)
  (hs:∀ x,foldedSetIterable iter X.env x=pure x:=by intro _; rfl) (hf:X.fn y=true ∨ X.env.scope.names.lookup y=some .local:=by first | exact .inl rfl | exact .inr rfl | assumption) :
  PS X (.Assign [.Name y py] (.ListComp elt [⟨.Name x px,iter,ifs,0⟩] scope pos) spos) (tAsg (tComp wi tt te) (gName i)):=by
 intro pins s σ H D0 I h
 obtain ⟨cl,hcl,hc⟩:=clos_ok (env:=X.env) (scope:=scope) fun y hy hf=>I.ok.has y.1 (S.free y hy hf)
 rw [exec_Assign_Name_used _ _ _ _ hsw]
 refine wpAny_bind (wpAny_standAt (wpAny_bind ?_))
 show wpAny _ _ (do let _ ← comprehension (.ListComp elt [⟨.Name x px,iter,ifs,0⟩] scope pos) scope X.env _ (newList []) false (eval iter X.env) (some (assign (.Name y py) X.env))) _ _ s
 refine wpAny_bind (thn (wpAny_comprehension_free (use:=some (assign (.Name y py) X.env)) (Q:=fun _ s'=>SP X pins D0 .next s') rfl hs hcl S.kind S.names (thn (hi pins s σ H _ I h) fun xv s1 h1=>thn h1 fun itv s2 h2=>?_)) fun _ s' hq=>wpAny_pure (wpAny_pure hq))
 obtain ⟨it,fp,tn,J,H2,e,I2,T,st2,f2,q⟩:=h2
 subst e
 refine comp_core (Q:=fun v H=>D0.nx (σ.set i (some v)) H) (RR:=fun acc C=>compPost (model X.prog X.w) X.A X.xe (some (assign (.Name y py) X.env)) (fun _ s'=>SP X pins D0 .next s') acc C) S hcal hc ht he I2 T st2 f2 q ?_
 intro D C s' H' m' I' hn F' hq
 show wpAny _ _ (assign (.Name y py) X.env (.ref D)) _ _ s'
 refine wpAny_assign_Name (store_ok2 (v:=.ref D) I' hN hiN hy rfl (fun s'' I'' ch=>?_) hf)
 obtain ⟨a,sb,ha⟩:=ch
 have ne:C ≠ a:=by
  rcases ha with z | z
  ·rw [z]; exact F'.2.1
  ·exact Ne.symm (F'.2.2.2.2.1 y a z)
 refine ⟨m',hn.sameBut sb ne,fun h' sb'=>⟨_,H',I''.turned (t':=s''.toks) (fun b o hb e=>(sb'.2 b hb).trans e) F'.1 F'.2.1 F'.2.2.2.1 F'.2.2.2.2.1 F'.2.2.2.2.2,hq⟩⟩
end
end L2
namespace L2
open PySem PySem.Spec PyProof.Rows
open AutoSeq1 (wpAny_loadPart')
section
variable {prog:Program} {w:World} {A:Around} {E:Value→Shared→Prop} {s:Shared}
theorem nx_tup {it t:Addr} {i:Nat} {its:Array Value} {x:Value} {Q:Value→Shared→Prop} (hit:s.heap.IsTupleIter it t i) (ht:s.heap.IsTuple t its) (hx:its[i]?=some x)
  (hQ:∀ h',h'.IsTupleIter it t (i + 1)→Heap.SameBut it s.heap h'→Q x { s with heap:=h' }):wpAny (model prog w) A (Builtin.SmallTypes.nextOf (.ref it)) Q E s:=by
 obtain ⟨o,ho,hc,hd⟩:=id hit
 obtain ⟨ol,hol,_,nl,hdl⟩:=ht
 unfold Builtin.SmallTypes.nextOf
 refine wpAny_bind (wpAny_callSpecial?_slot (name:=Str.ofString "__next__") hit.typeIs F.slot_tuple_iterator_next (wpAny_call_entry F.slot_tuple_iterator_next hit.typeIs F.entry_tuple_iterator_next ?_ (F.args_tuple_iterator_next_1 _)))
 (show wpAny _ _ (field (.ref it) 0 >>= _) _ _ s); refine wpAny_bind (wpAny_field ho hd (x:=.ref t) rfl ?_)
 (show wpAny _ _ (if (Value.ref t == Value.none)=true then _ else _) _ _ s); rw [if_neg (show ¬ ((Value.ref t == Value.none)=true) from Bool.false_ne_true)]
 (show wpAny _ _ (field (.ref it) 1 >>= _) _ _ s); refine wpAny_bind (wpAny_field ho hd (x:=.int i 0) rfl ?_)
 (show wpAny _ _ (seqItems? (.ref t) >>= _) _ _ s); refine wpAny_bind (wpAny_seqItems hol hdl ?_)
 simp only [Int.toNat_natCast,hx]
 refine wpAny_bind (wpAny_setField ho hd (by simp) (wpAny_pure ⟨x,rfl,wpAny_pure (hQ _ ⟨_,Heap.get?_update_self _ ho (Obj.isFreed_of_fields (Obj.data_mapFields hd _)),(Obj.cls_mapFields ..).trans hc,by rw [Obj.data_mapFields hd]; simp [rawInt]⟩ (Heap.SameBut.update ..))⟩))
theorem nx_tup_end {it t:Addr} {i:Nat} {its:Array Value} {Q:Value→Shared→Prop} (hh:A.handled=none) (hit:s.heap.IsTupleIter it t i) (ht:s.heap.IsTuple t its) (hx:its[i]?=none)
  (hE:∀ h' e,Heap.ExtBut it s.heap h'→(∃ o,h'.get? e=some o∧o.cls=.type "StopIteration")→E (.ref e) { s with heap:=h' }):wpAny (model prog w) A (Builtin.SmallTypes.nextOf (.ref it)) Q E s:=by
 obtain ⟨o,ho,hc,hd⟩:=id hit
 obtain ⟨ol,hol,_,nl,hdl⟩:=ht
 unfold Builtin.SmallTypes.nextOf
 refine wpAny_bind (wpAny_callSpecial?_slot (name:=Str.ofString "__next__") hit.typeIs F.slot_tuple_iterator_next (wpAny_call_entry F.slot_tuple_iterator_next hit.typeIs F.entry_tuple_iterator_next ?_ (F.args_tuple_iterator_next_1 _)))
 (show wpAny _ _ (field (.ref it) 0 >>= _) _ _ s); refine wpAny_bind (wpAny_field ho hd (x:=.ref t) rfl ?_)
 (show wpAny _ _ (if (Value.ref t == Value.none)=true then _ else _) _ _ s); rw [if_neg (show ¬ ((Value.ref t == Value.none)=true) from Bool.false_ne_true)]
 (show wpAny _ _ (field (.ref it) 1 >>= _) _ _ s); refine wpAny_bind (wpAny_field ho hd (x:=.int i 0) rfl ?_)
 (show wpAny _ _ (seqItems? (.ref t) >>= _) _ _ s); refine wpAny_bind (wpAny_seqItems hol hdl ?_)
 simp only [Int.toNat_natCast,hx]
 refine wpAny_bind (wpAny_rule (wpAny_bind (wpAny_setField ho hd (by simp) ?_)))
 (show wpAny _ _ (newExc (.type "StopIteration") [] >>= _) _ _ _); refine wpAny_bind ?_
 simp only [newExc,newTuple]
 refine wpAny_bind (wpAny_newObj_type ?_ (by size_fits))
 refine wpAny_bind (m:=firstArgMember _ _) (wpAny_of_eq (a:=Value.none) (by first | rfl | (simp only [firstArgMember]; rfl)) (wpAny_newObj_type ?_ (by size_fits)))
 simp only [raiseNew]
 refine wpAny_bind (wpAny_handled ?_)
 first | rw [show A.in1.handled=none from hh] | rw [hh]
 exact wpAny_bind (wpAny_pure (wpAny_throw (hE _ _ (((Heap.SameBut.update ..).extBut.push _).push _) ⟨_,Heap.get?_push_size _ rfl,rfl⟩)))
end
theorem draws_tup {prog:Program} {w:World} {A:Around} (hh:A.handled=none) (it l:Addr) (hne:l ≠ it) (its:Array Value) :
  Draws prog w A it [it,l] its.size (fun i v=>its[i]?=some v) (fun i h=>h.IsTupleIter it l i∧h.IsTuple l its) where
 live:=fun _ _ st=>let ⟨o,ho,_⟩:=st.1; ⟨o,ho⟩
 frame:=fun _ _ _ st hk=>by
  obtain ⟨⟨o,e,r⟩,⟨o',e',r'⟩⟩:=st
  exact ⟨⟨o,hk it (by simp) o e,r⟩,⟨o',hk l (by simp) o' e',r'⟩⟩
 item:=fun i s Q E hi st hQ=>nx_tup st.1 st.2 (x:=its[i]) (by simp [hi]) fun h' hit' hs'=>by
  obtain ⟨o',e',r'⟩:=st.2
  exact hQ _ h' s.toks (by simp [hi]) ⟨hit',⟨o',hs'.extBut l o' hne e',r'⟩⟩ hs'
 done:=fun s Q E st hE=>nx_tup_end hh st.1 st.2 (by simp) hE
section
variable {prog:Program} {w:World} {A:Around} {E:Value→Shared→Prop} {s:Shared}
theorem en_item {e it:Addr} {fp:List Addr} {n i:Nat} {k:Int} {P:Nat→Value→Prop} {St:Nat→Heap→Prop} {old:Value} {Q:Value→Shared→Prop}
  (D:Draws prog w A it fp n P St) (he:IsEnum s.heap e it k old) (hst:St i s.heap) (hlt:i < n) (hne:e ≠ it) (hef:e ∉ fp)
  (hQ:∀ x h' tk,P i x→IsEnumOut h' e it (k + 1) x s.heap.objs.size→St (i + 1) h'→h'.get? s.heap.objs.size=some { cls:=.type "tuple",data:=.seq #[.int k tk,x] } →
   (∀ b o,b ≠ e→b ≠ it→s.heap.get? b=some o→h'.get? b=some o)→Q (.ref s.heap.objs.size) { s with heap:=h',toks:=tk + 1 }) :
  wpAny (model prog w) A (Builtin.«enumerate.__next__» ⟨[.ref e],[]⟩) (fun fin s'=>∃ v,fin=.done (.ret v)∧Q v s') E s:=by
 obtain ⟨hp,g,d,t0,os⟩:=s
 (show wpAny _ _ (field (.ref e) 2 >>= _) _ _ _); refine wpAny_bind (wpAny_field he rfl (x:=.ref it) rfl ?_)
 refine wpAny_bind (D.item i _ _ _ hlt hst fun x g1 tk px c1 b1=>?_)
 have b1:Heap.SameBut it hp g1:=b1
 have e1:IsEnum g1 e it k old:=(b1.2 e hne).trans he
 (show wpAny _ _ (field (.ref e) 3 >>= _) _ _ ⟨g1,g,d,tk,os⟩); refine wpAny_bind (wpAny_field e1 rfl (x:=rawInt k) rfl ?_)
 (show wpAny _ _ (field (.ref e) 4 >>= _) _ _ ⟨g1,g,d,tk,os⟩); refine wpAny_bind (wpAny_field e1 rfl (x:=.none) rfl ?_)
 (show wpAny _ _ (mkInt k >>= _) _ _ ⟨g1,g,d,tk,os⟩); refine wpAny_bind (wpAny_mkInt ?_)
 (show wpAny _ _ (setField (.ref e) 3 (rawInt (k + 1)) >>= _) _ _ ⟨g1,g,d,tk + 1,os⟩); refine wpAny_bind (wpAny_setField_rec e1 (by simp) fun g2 e2 b2=>?_)
 have b2:Heap.SameBut e g1 g2:=b2
 have e2:IsEnum g2 e it (k + 1) old:=e2
 (show wpAny _ _ (setField (.ref e) 4 .none >>= _) _ _ ⟨g2,g,d,tk + 1,os⟩); refine wpAny_bind (wpAny_setField_rec e2 (by simp) fun g3 e3 b3=>?_)
 have b3:Heap.SameBut e g2 g3:=b3
 have e3:IsEnum g3 e it (k + 1) old:=e3
 (show wpAny _ _ (newTuple [.int k tk,x] >>= _) _ _ ⟨g3,g,d,tk + 1,os⟩); refine wpAny_bind (wpAny_newTuple ?_)
 have e4:IsEnum (g3.push { cls:=.type "tuple",data:=.seq #[.int k tk,x] }) e it (k + 1) old:=Heap.get?_push_of_some _ e3
 generalize hg4:g3.push { cls:=.type "tuple",data:=.seq #[.int k tk,x] }=g4 at e4
 have z3:g3.objs.size=hp.objs.size:=by rw [b3.1,b2.1,b1.1]
 have le:e < hp.objs.size:=Heap.lt_size he
 have t4:g4.get? hp.objs.size=some { cls:=.type "tuple",data:=.seq #[.int k tk,x] }:=by rw [← hg4,← z3]; exact Heap.get?_push_size _ rfl
 have k4:∀ b o,b ≠ e→b ≠ it→hp.get? b=some o→g4.get? b=some o:=fun b o hbe hbi hb=>by
  rw [← hg4]
  exact Heap.get?_push_of_some _ (b3.extBut b o hbe (b2.extBut b o hbe (b1.extBut b o hbi hb)))
 have c4:St (i + 1) g4:=D.frame _ _ _ c1 fun b hb o y=>by
  have hbe:b ≠ e:=fun q=>hef (q ▸ hb)
  rw [← hg4]
  exact Heap.get?_push_of_some _ (b3.extBut b o hbe (b2.extBut b o hbe y))
 show wpAny _ _ (Builtin.SmallTypes.ownedTupleIsFree (.ref e) >>= _) _ _ ⟨g4,g,d,tk + 1,os⟩
 rw [z3]
 refine wpAny_bind ?_
 unfold Builtin.SmallTypes.ownedTupleIsFree
 refine wpAny_bind (wpAny_field e4 rfl (x:=.none) rfl (wpAny_pure ?_))
 simp only [if_true]
 refine wpAny_bind (wpAny_rule (wpAny_bind (wpAny_field e4 rfl (x:=old) rfl (wpAny_bind (wpAny_setField_rec e4 (by simp) fun g5 e5 b5=>?_)))))
 have b5:Heap.SameBut e g4 g5:=b5
 have e5:IsEnum g5 e it (k + 1) x:=e5
 (show wpAny _ _ (Builtin.SmallTypes.ownedTupleHandOut (.ref e) (.ref hp.objs.size) >>= _) _ _ ⟨g5,g,d,tk + 1,os⟩); refine wpAny_bind ?_
 unfold Builtin.SmallTypes.ownedTupleHandOut
 refine wpAny_bind (wpAny_setField_rec e5 (by simp) fun g6 e6 b6=>?_)
 have b6:Heap.SameBut e g5 g6:=b6
 have e6:IsEnumOut g6 e it (k + 1) x hp.objs.size:=e6
 refine wpAny_setField_rec e6 (by simp) fun g7 e7 b7=>?_
 have b7:Heap.SameBut e g6 g7:=b7
 have e7:IsEnumOut g7 e it (k + 1) x hp.objs.size:=e7
 have k7:∀ b o,b ≠ e→g4.get? b=some o→g7.get? b=some o:=fun b o hb y=>b7.extBut b o hb (b6.extBut b o hb (b5.extBut b o hb y))
 refine wpAny_bind (wpAny_letGo (wpAny_pure ⟨_,rfl,hQ x g7 tk px e7 (D.frame _ _ _ c4 fun b hb o y=>k7 b o (fun q=>hef (q ▸ hb)) y) (k7 _ _ (Nat.ne_of_gt le) t4) fun b o hbe hbi hb=>k7 b o hbe (k4 b o hbe hbi hb)⟩))
theorem en_next {e it:Addr} {fp:List Addr} {n i:Nat} {k:Int} {P:Nat→Value→Prop} {St:Nat→Heap→Prop} {old:Value} {Q:Option Value→Shared→Prop}
  (D:Draws prog w A.in1 it fp n P St) (he:IsEnum s.heap e it k old) (hst:St i s.heap) (hlt:i < n) (hne:e ≠ it) (hef:e ∉ fp)
  (hQ:∀ x h' tk,P i x→IsEnumOut h' e it (k + 1) x s.heap.objs.size→St (i + 1) h'→h'.get? s.heap.objs.size=some { cls:=.type "tuple",data:=.seq #[.int k tk,x] } →
   (∀ b o,b ≠ e→b ≠ it→s.heap.get? b=some o→h'.get? b=some o)→Q (some (.ref s.heap.objs.size)) { s with heap:=h',toks:=tk + 1 }) :
  wpAny (model prog w) A (pyNext (.ref e)) Q E s:=by
 have hT:s.TypeIs (.ref e) "enumerate":=⟨_,he,rfl⟩
 unfold pyNext
 exact wpAny_bind (wpAny_attempt (wpAny_callSpecial?_slot (name:=Str.ofString "__next__") hT F.slot_enumerate_next (wpAny_call_entry F.slot_enumerate_next hT F.entry_enumerate_next
  (en_item D he hst hlt hne hef fun x h' tk a b c d k=>wpAny_pure (hQ x h' tk a b c d k)) (F.args_enumerate_next_1 _))))
theorem en_newT (l:Addr) (its:Array Value) (n:Nat) (dct:Option Addr) (sl:Array (Option Value)) :
  Meets (Builtin.«enumerate.__new__» ⟨[.type "enumerate",.ref l],[]⟩) (fun _ R s=>s.heap.get? l=some { cls:=.type "tuple",dict:=dct,data:=.seq its n,slots:=sl } ∧
   R (.ok (.ret (.ref (s.heap.push { cls:=.type "tuple_iterator",data:=.fields #[.ref l,.int 0 0] }).objs.size)))
    { s with heap:=(s.heap.push { cls:=.type "tuple_iterator",data:=.fields #[.ref l,.int 0 0] }).push { cls:=.type "enumerate",data:=.fields #[.none,.bool false,.ref s.heap.objs.size,rawInt 0,.none,.none] } }) :=
 .of_wp fun prog w A R s h=>by
  obtain ⟨hp,g,d,tk,os⟩:=s
  obtain ⟨hl,h⟩:=h
  have hsub:=sub_enumerate
  have hL:Heap.IsTuple (Shared.heap ⟨hp,g,d,tk,os⟩) l its:=⟨_,hl,rfl,n,rfl⟩
  wp_walk using wpAny_loadPart' hl
  refine wpAny_stack_any fun st=>wpAny_pure ?_
  split
  ·rename_i c _ _ _ _ _
   cases (c == Value.type "enumerate")
   all_goals
    wp_walk using wpAny_loadPart' hl,wpAny_pyIter_tuple hL
    exact ⟨_,rfl,h⟩
  ·wp_walk using wpAny_loadPart' hl,wpAny_pyIter_tuple hL
   exact ⟨_,rfl,h⟩
theorem en_newLk (l:Addr) (its:Array Value) (n:Nat) (dct:Option Addr) (sl:Array (Option Value)) (i:Int) (t:Tok) (hi:Builtin.SmallTypes.fitsIndex i=true) :
  Meets (Builtin.«enumerate.__new__» ⟨[.type "enumerate",.ref l],[("start",.int i t)]⟩) (fun _ R s=>s.heap.get? l=some { cls:=.type "list",dict:=dct,data:=.seq its n,slots:=sl } ∧
   R (.ok (.ret (.ref (s.heap.push { cls:=.type "list_iterator",data:=.fields #[.ref l,.int 0 0] }).objs.size)))
    { s with heap:=(s.heap.push { cls:=.type "list_iterator",data:=.fields #[.ref l,.int 0 0] }).push { cls:=.type "enumerate",data:=.fields #[.none,.bool false,.ref s.heap.objs.size,rawInt i,.none,.none] } }) :=
 .of_wp fun prog w A R s h=>by
  obtain ⟨hp,g,d,tk,os⟩:=s
  obtain ⟨hl,h⟩:=h
  have hsub:=sub_enumerate
  have hL:Heap.IsList (Shared.heap ⟨hp,g,d,tk,os⟩) l its:=⟨_,hl,rfl,n,rfl⟩
  wp_walk using wpAny_loadPart' hl
  refine wpAny_stack_any fun st=>wpAny_pure ?_
  split
  ·rename_i c _ _ _ _ _
   cases (c == Value.type "enumerate")
   all_goals
    wp_walk using wpAny_loadPart' hl,wpAny_pyIter_list hL
    exact ⟨_,rfl,h⟩
  ·wp_walk using wpAny_loadPart' hl,wpAny_pyIter_list hL
   exact ⟨_,rfl,h⟩
end
end L2
namespace L2
open PySem PySem.Spec PyProof.Rows
section
variable {prog:Program} {w:World} {A:Around} {E:Value→Shared→Prop} {s:Shared}
theorem obj_init_kw {T newId:String} {self a:Value} {rest:List Value} {kw:List (Str × Value)} (hl:typeLookup (.type T) "__init__"=pure (some (.builtin "object.__init__")))
  (hm:Bind.madeBy (.type T)=pure (some newId)) (hne:(some newId != some "object.__new__")=true) :
  Meets (Builtin.«object.__init__» ⟨self :: a :: rest,kw⟩) (fun _ R s=>s.TypeIs self T∧R (.ok (.ret .none)) s):=by
 refine Meets.of_wp fun prog w A R s hs=>?_
 obtain ⟨hT,hq⟩:=hs
 repeat (any_goals (first | assumption | wp_step))
 exact ⟨_,rfl,hq⟩
theorem type_call_kw {T newId:String} {Bn:Builtin} {a:Value} {args:List Value} {kw:List (Str × Value)} {S:PySem.Spec} {Q:Value→Shared→Prop} (ft:TypeCalled T newId "object.__init__")
  (hne:(some newId != some "object.__new__")=true) (hct:checkTypeCall T ⟨a :: args,kw⟩=pure ()) (hcn:checkBuiltinCall newId ⟨.type T :: a :: args,kw⟩=pure ())
  (hok:∀ obj,argsOk "object.__init__" ⟨obj :: a :: args,kw⟩) (entryN:entryFor table newId=some Bn) (g:Meets (Bn ⟨.type T :: a :: args,kw⟩) S)
  (h:S A.in1 (wants (fun obj s1=>s1.TypeIs obj T∧Q obj s1) E) s):wpAny (model prog w) A (call (.type T) (a :: args) kw) Q E s:=by
 obtain ⟨c,tl,hmro⟩:=ft.mro
 have hmade:=ft.made
 have hsub:=ft.sub
 refine wpAny_call (codeAny_of_tree (show wpAny _ _ (callAny (.type T) _) _ _ _ from wpAny_pure ⟨Code.quiet_builtin _ (by decide +kernel),codeAny_builtin F.entry_type_call ?_⟩))
 rw [Around.under_plain (weight_type_call_type T (a :: args) kw) (units_type_call_type T (a :: args) kw)]
 have h1:=ft.notType
 have h2:=ft.canCreate
 repeat (any_goals (first | assumption | wp_step))
 refine codeAny_mono (codeAny_call_builtin ft.plain entryN (wpAny_of_eq hcn (g prog w A.in1 _ s h))) fun r s1 hr=>?_
 cases r with
 | error e=>exact hr
 | ok fl =>
  cases fl with
  | ret obj =>
   obtain ⟨hT,hq1⟩:=hr
   have hli:=ft.init.lookup
   have hbi:=ft.init.bind obj
   repeat (any_goals (first | assumption | wp_step))
   refine codeAny_mono (codeAny_call_builtin ft.init.plain F.entry_object_init (ft.init.check _ _ _ _ _ _ _ _ hT (hok obj) ((obj_init_kw (T:=T) (newId:=newId) ft.init.lookup ft.made hne) prog w A.in1 (wants (fun r s2=>r=.none∧Q obj s2) E) s1 ⟨hT,rfl,hq1⟩))) fun r2 s2 hr2=>?_
   cases r2 with
   | error e=>exact hr2
   | ok fl2 =>
    cases fl2 with
    | ret r =>
     obtain ⟨rfl,hq⟩:=hr2
     repeat (any_goals (first | assumption | wp_step))
    | _=>exact hr2.elim
  | _=>exact hr.elim
theorem en_kw1 (a b:Value):checkTypeCall "enumerate" ⟨[a],[("start",b)]⟩=pure ():=by kernel_rfl
theorem en_kw2 (a b:Value):checkBuiltinCall "enumerate.__new__" ⟨[.type "enumerate",a],[("start",b)]⟩=pure ():=by kernel_rfl
theorem en_kw3 (obj a b:Value):argsOk "object.__init__" ⟨[obj,a],[("start",b)]⟩:=by
 unfold argsOk; rw [signature?_of (id:="object.__init__") (n:=['_','_','t','i','n','i','_','_']) (o:=['t','c','e','j','b','o']) (by kernel_rfl) F.owner_object]; kernel_rfl
theorem en_callK {l:Addr} {its:Array Value} {i:Int} {t:Tok} {Q:Value→Shared→Prop} (hi:Builtin.SmallTypes.fitsIndex i=true) (hL:s.heap.IsList l its)
  (h:∀ h',IsEnum h' (s.heap.objs.size + 1) s.heap.objs.size i .none→h'.IsListIter s.heap.objs.size l 0→(∀ b o,s.heap.get? b=some o→h'.get? b=some o)→Q (.ref (s.heap.objs.size + 1)) { s with heap:=h' }) :
  wpAny (model prog w) A (call (.type "enumerate") [.ref l] [("start",.int i t)]) Q E s:=by
 obtain ⟨⟨c,dct,dt,sl⟩,hl,hc,n,hd⟩:=hL
 have hc2:c=.type "list":=hc
 have hd2:dt=.seq its n:=hd
 subst hc2 hd2
 refine type_call_kw F.called_enumerate (by decide) (en_kw1 _ _) (en_kw2 _ _) (fun obj=>en_kw3 obj _ _) F.entry_enumerate_new (en_newLk l its n dct sl i t hi) ⟨hl,?_⟩
 have hz:(s.heap.push { cls:=.type "list_iterator",data:=.fields #[.ref l,.int 0 0] }).objs.size=s.heap.objs.size + 1:=Heap.size_push ..
 have he:IsEnum ((s.heap.push { cls:=.type "list_iterator",data:=.fields #[.ref l,.int 0 0] }).push { cls:=.type "enumerate",data:=.fields #[.none,.bool false,.ref s.heap.objs.size,rawInt i,.none,.none] }) (s.heap.objs.size + 1) s.heap.objs.size i .none:=by
  have q:=Heap.get?_push_size (s.heap.push { cls:=.type "list_iterator",data:=.fields #[.ref l,.int 0 0] }) (o:={ cls:=.type "enumerate",data:=.fields #[.none,.bool false,.ref s.heap.objs.size,rawInt i,.none,.none] }) rfl
  rw [hz] at q
  exact q
 (show _∧_); rw [hz]
 exact ⟨⟨_,he,rfl⟩,h _ he ⟨_,Heap.get?_push_of_some _ (Heap.get?_push_size _ rfl),rfl,rfl⟩ fun b o x=>Heap.get?_push_of_some _ (Heap.get?_push_of_some _ x)⟩
theorem en_callT {l:Addr} {its:Array Value} {Q:Value→Shared→Prop} (hL:s.heap.IsTuple l its)
  (h:∀ h',IsEnum h' (s.heap.objs.size + 1) s.heap.objs.size 0 .none→h'.IsTupleIter s.heap.objs.size l 0→(∀ b o,s.heap.get? b=some o→h'.get? b=some o)→Q (.ref (s.heap.objs.size + 1)) { s with heap:=h' }) :
  wpAny (model prog w) A (call (.type "enumerate") [.ref l]) Q E s:=by
 obtain ⟨⟨c,dct,dt,sl⟩,hl,hc,n,hd⟩:=hL
 have hc2:c=.type "tuple":=hc
 have hd2:dt=.seq its n:=hd
 subst hc2 hd2
 refine callType_new F.called_enumerate (by decide) (F.typeCall_enumerate_1 _) (F.newCall_enumerate_1 _) (fun obj=>F.args_object_init_2 obj _) F.entry_enumerate_new (en_newT l its n dct sl) ⟨hl,?_⟩
 have hz:(s.heap.push { cls:=.type "tuple_iterator",data:=.fields #[.ref l,.int 0 0] }).objs.size=s.heap.objs.size + 1:=Heap.size_push ..
 have he:IsEnum ((s.heap.push { cls:=.type "tuple_iterator",data:=.fields #[.ref l,.int 0 0] }).push { cls:=.type "enumerate",data:=.fields #[.none,.bool false,.ref s.heap.objs.size,rawInt 0,.none,.none] }) (s.heap.objs.size + 1) s.heap.objs.size 0 .none:=by
  have q:=Heap.get?_push_size (s.heap.push { cls:=.type "tuple_iterator",data:=.fields #[.ref l,.int 0 0] }) (o:={ cls:=.type "enumerate",data:=.fields #[.none,.bool false,.ref s.heap.objs.size,rawInt 0,.none,.none] }) rfl
  rw [hz] at q
  exact q
 (show _∧_); rw [hz]
 exact ⟨⟨_,he,rfl⟩,h _ he ⟨_,Heap.get?_push_of_some _ (Heap.get?_push_size _ rfl),rfl,rfl⟩ fun b o x=>Heap.get?_push_of_some _ (Heap.get?_push_of_some _ x)⟩
end
end L2
namespace L2
open PySem PySem.Spec PyProof.Rows
section
variable {X:Cx} {pins:List (Addr × Obj)} {σ:St} {H:Hp} {s:Shared} {h':Heap}
theorem Inv.turnedNew {t':Nat} {ch:List Addr} {a:Addr} {o:HO} (I:Inv X pins σ H s) (k:∀ b u,b ∉ ch→s.heap.get? b=some u→h'.get? b=some u) (hch:∀ b ∈ ch,FpOk X pins H b)
  (hp:s.heap.objs.size ≤ a) (new:ObjOk X.prog X.w (upd H a o) h' a o):Inv X pins σ (upd H a o) { s with heap:=h',toks:=t' }:=by
 have hn:H a=none:=I.hok.fresh hp
 have nch:∀ b u,H b=some u→b ∉ ch:=fun b u e z=>by rw [(hch b z).1] at e; cases e
 refine I.step (g':=s.gens) (d':=s.drawn) (ch:=ch) (fun b hb=>⟨(hch b hb).2.2.2.1,(hch b hb).2.1,(hch b hb).2.2.2.2.1,(hch b hb).2.2.2.2.2⟩) (fun b o _ _ hc e _=>k b o hc e) (fun b o _ _ hc e _=>⟨o.slots,k b o hc e⟩)
  (fun b u hc e n=>by rw [upd_ne (Nat.ne_of_lt (Nat.lt_of_lt_of_le (Heap.lt_size e) hp))]; exact n) (fun b o hc e=>⟨o,k b o hc e⟩) (fun b xs e=>by rw [upd_ne (ne_of_none e hn)]; exact e) (fun b u xs e=>by rw [upd_ne (ne_of_none e hn)]; exact e)
  (fun b ps e=>⟨#[],by rw [upd_ne (ne_of_none e hn),e]; simp⟩) (fun m hm=>?_) (fun b u e=>?_) I.bare
 ·obtain ⟨ob,es,ep,ho,r⟩:=hm
  exact ⟨ob,es,ep,k _ ob (fun z=>(hch _ z).2.1 rfl) ho,r⟩
 ·by_cases hb:b=a
  ·subst hb
   rw [upd_same] at e
   cases e
   exact new
  ·rw [upd_ne hb] at e
   refine (I.hok b u e).stay (fun c v hc q=>k c v ?_ q) (fun c q=>by rw [upd_ne (ne_of_none q hn)]; exact q) fun c xs q=>by rw [upd_ne (ne_of_none q hn)]; exact q
   rcases hc with z | z
   ·rw [z]
    exact nch b u e
   ·exact nch c _ z
end
def Ite (Sq:Hp→List V→Prop) (k:Int):It :=
 ⟨fun i H=>∃ xs x,Sq H xs∧xs[i]?=some x,fun i H x H'=>∃ p y,x=.ref p∧H p=none∧H'=upd H p (.tup [.int (k + i),y])∧∀ xs,Sq H xs→xs[i]?=some y,fun i H=>∃ xs,Sq H xs∧xs.length=i⟩
theorem turn_enL {P:Program} {w:World} {K:PySem.W.Frag} {es:List Expr} {kk:Nat} {pt:Pos} (a e it:Addr) (k:Int) (hei:e ≠ it) :
  Turn P w K (.Tuple es kk pt) (Ite (fun H xs=>SqL K H a xs) k) [e,it] e (fun i h=>(∃ old,IsEnum h e it (k + (i:Int)) old)∧h.IsListIter it a i) where
 mem:=by simp
 obj:=fun i h st b hb=>by
  obtain ⟨⟨old,he⟩,o,ho,hc,hd⟩:=st
  rcases List.mem_cons.mp hb with z | z
  ·subst z
   exact ⟨_,he,fun v q=>by cases q⟩
  ·have z:b=it:=by simpa using z
   subst z
   exact ⟨o,ho,fun v q=>by rw [hd] at q; cases q⟩
 keep:=fun i h h' st kk=>by
  obtain ⟨⟨old,he⟩,o,ho,r⟩:=st
  exact ⟨⟨old,kk e (by simp) _ he⟩,o,kk it (by simp) o ho,r⟩
 item:=by
  intro X hP hw hK hc i pins s σ H E I hf st hg
  subst hP hw hK
  obtain ⟨xs,x,hq,hx⟩:=hg
  obtain ⟨its,rv,p,hz⟩:=I.list hq
  obtain ⟨u,hu,ru⟩:=rv.get hx
  obtain ⟨⟨old,he⟩,hit⟩:=st
  have pl:s.heap.IsList a its.toArray:=p.isList
  have nai:a ≠ it:=fun z=>by
   obtain ⟨o,ho,hc,_⟩:=pl
   obtain ⟨o',ho',hc',_⟩:=hit
   rw [z,ho'] at ho
   cases ho
   rw [hc'] at hc
   injection hc with q
   exact absurd q (by decide)
  have nae:e ≠ a:=fun z=>by
   obtain ⟨o,ho,hc,_⟩:=pl
   rw [← z,he] at ho
   cases ho
   injection hc with q
   exact absurd q (by decide)
  have D:=Draws.list (prog:=X.prog) (w:=X.w) (A:=X.A.in1) (I.ok.hd hc) it a nai its.toArray
  have lt:i < its.toArray.size:=by
   rw [List.size_toArray]
   exact (List.getElem?_eq_some_iff.mp hu).1
  refine en_next D he ⟨hit,pl⟩ lt hei (fun z=>?_) fun y g tk py eo st' tt kp=>?_
  ·rcases List.mem_cons.mp z with z | z
   ·exact hei z
   ·exact nae (by simpa using z)
  ·have ey:y=u:=by
    have q:its.toArray[i]?=some y:=py
    have q2:its.toArray[i]?=some u:=by simpa using hu
    rw [q2] at q
    exact (Option.some.inj q).symm
   subst ey
   refine ⟨_,rfl,wpAny_letOwnedTupleGo_enum eo fun g2 eo2 sb=>?_⟩
   have le:e < s.heap.objs.size:=Heap.lt_size he
   have li:it < s.heap.objs.size:=by
    obtain ⟨o,ho,_⟩:=hit
    exact Heap.lt_size ho
   have tt2:g2.get? s.heap.objs.size=some { cls:=.type "tuple",data:=.seq #[.int (k + i) tk,y] }:=(sb.2 _ (Nat.ne_of_gt le)).trans tt
   have nT:H s.heap.objs.size=none:=I.fresh
   have I1:Inv X pins σ (upd H s.heap.objs.size (.tup [.int (k + i),x])) { s with heap:=g2,toks:=tk + 1 }:=by
    refine I.turnedNew (t':=tk + 1) (ch:=[e,it]) (fun b o hb q=>?_) hf (Nat.le_refl _) ⟨?_,[.int (k + i) tk,y],.cons ⟨tk,rfl⟩ (.cons ru .nil),⟨_,tt2,rfl,0,rfl⟩⟩
    ·have hbe:b ≠ e:=fun z=>hb (by simp [z])
     have hbi:b ≠ it:=fun z=>hb (by simp [z])
     exact (sb.2 b hbe).trans (kp b o hbe hbi q)
    ·show 2 ≤ sizeLine
     decide
   have e1:k + ((i + 1:Nat):Int)=k + (i:Int) + 1:=by omega
   refine ⟨.ref s.heap.objs.size,_,I1,rfl,⟨_,x,rfl,nT,rfl,fun ys hy=>?_⟩,⟨⟨y,by rw [e1]; exact eo2⟩,?_⟩,fun b hb=>?_⟩
   ·rw [I.list_inj hy hq]
    exact hx
   ·obtain ⟨⟨o,ho,r⟩,_⟩:=st'
    exact ⟨o,(sb.2 it hei.symm).trans ho,r⟩
   ·rcases List.mem_cons.mp hb with z | z
    ·subst z
     rw [upd_ne (Nat.ne_of_lt le)]
     exact (hf b (by simp)).1
    ·have z:b=it:=by simpa using z
     subst z
     rw [upd_ne (Nat.ne_of_lt li)]
     exact (hf b (by simp)).1
 done:=by
  intro X hP hw hK hc i pins s σ H E I hf st hg
  subst hP hw hK
  obtain ⟨xs,hq,hx⟩:=hg
  obtain ⟨its,rv,p,hz⟩:=I.list hq
  obtain ⟨⟨old,he⟩,hit⟩:=st
  have pl:s.heap.IsList a its.toArray:=p.isList
  have nai:a ≠ it:=fun z=>by
   obtain ⟨o,ho,hc,_⟩:=pl
   obtain ⟨o',ho',hc',_⟩:=hit
   rw [z,ho'] at ho
   cases ho
   rw [hc'] at hc
   injection hc with q
   exact absurd q (by decide)
  have D:=Draws.list (prog:=X.prog) (w:=X.w) (A:=X.A.in1) (I.ok.hd hc) it a nai its.toArray
  have ei:its.toArray.size=i:=by
   rw [List.size_toArray,← rv.length]
   exact hx
  obtain ⟨f0,f1,f2,f3,f4,f5⟩:=hf it (by simp)
  refine wpAny_pyNext_enum_endD D he (by rw [ei]; exact ⟨hit,pl⟩) fun h' eb=>⟨rfl,I.turned (t':=s.toks) (fun b o hb q=>eb b o hb q) f0 f1 f3 f4 f5⟩
 self:=fun _ _ _ _ _ st h=>by
  obtain ⟨⟨old,he⟩,_⟩:=st
  exact wpAny_pyIter_enum he h
theorem turn_enT {P:Program} {w:World} {K:PySem.W.Frag} {es:List Expr} {kk:Nat} {pt:Pos} (a e it:Addr) (k:Int) (hei:e ≠ it) :
  Turn P w K (.Tuple es kk pt) (Ite (fun H xs=>SqT K H a xs) k) [e,it] e (fun i h=>(∃ old,IsEnum h e it (k + (i:Int)) old)∧h.IsTupleIter it a i) where
 mem:=by simp
 obj:=fun i h st b hb=>by
  obtain ⟨⟨old,he⟩,o,ho,hc,hd⟩:=st
  rcases List.mem_cons.mp hb with z | z
  ·subst z
   exact ⟨_,he,fun v q=>by cases q⟩
  ·have z:b=it:=by simpa using z
   subst z
   exact ⟨o,ho,fun v q=>by rw [hd] at q; cases q⟩
 keep:=fun i h h' st kk=>by
  obtain ⟨⟨old,he⟩,o,ho,r⟩:=st
  exact ⟨⟨old,kk e (by simp) _ he⟩,o,kk it (by simp) o ho,r⟩
 item:=by
  intro X hP hw hK hc i pins s σ H E I hf st hg
  subst hP hw hK
  obtain ⟨xs,x,hq,hx⟩:=hg
  obtain ⟨its,rv,p,hz⟩:=I.tuple hq
  obtain ⟨u,hu,ru⟩:=rv.get hx
  obtain ⟨⟨old,he⟩,hit⟩:=st
  have pl:s.heap.IsTuple a its.toArray:=p
  have nai:a ≠ it:=fun z=>by
   obtain ⟨o,ho,hc,_⟩:=pl
   obtain ⟨o',ho',hc',_⟩:=hit
   rw [z,ho'] at ho
   cases ho
   rw [hc'] at hc
   injection hc with q
   exact absurd q (by decide)
  have nae:e ≠ a:=fun z=>by
   obtain ⟨o,ho,hc,_⟩:=pl
   rw [← z,he] at ho
   cases ho
   injection hc with q
   exact absurd q (by decide)
  have D:=draws_tup (prog:=X.prog) (w:=X.w) (A:=X.A.in1) (I.ok.hd hc) it a nai its.toArray
  have lt:i < its.toArray.size:=by
   rw [List.size_toArray]
   exact (List.getElem?_eq_some_iff.mp hu).1
  refine en_next D he ⟨hit,pl⟩ lt hei (fun z=>?_) fun y g tk py eo st' tt kp=>?_
  ·rcases List.mem_cons.mp z with z | z
   ·exact hei z
   ·exact nae (by simpa using z)
  ·have ey:y=u:=by
    have q:its.toArray[i]?=some y:=py
    have q2:its.toArray[i]?=some u:=by simpa using hu
    rw [q2] at q
    exact (Option.some.inj q).symm
   subst ey
   refine ⟨_,rfl,wpAny_letOwnedTupleGo_enum eo fun g2 eo2 sb=>?_⟩
   have le:e < s.heap.objs.size:=Heap.lt_size he
   have li:it < s.heap.objs.size:=by
    obtain ⟨o,ho,_⟩:=hit
    exact Heap.lt_size ho
   have tt2:g2.get? s.heap.objs.size=some { cls:=.type "tuple",data:=.seq #[.int (k + i) tk,y] }:=(sb.2 _ (Nat.ne_of_gt le)).trans tt
   have nT:H s.heap.objs.size=none:=I.fresh
   have I1:Inv X pins σ (upd H s.heap.objs.size (.tup [.int (k + i),x])) { s with heap:=g2,toks:=tk + 1 }:=by
    refine I.turnedNew (t':=tk + 1) (ch:=[e,it]) (fun b o hb q=>?_) hf (Nat.le_refl _) ⟨?_,[.int (k + i) tk,y],.cons ⟨tk,rfl⟩ (.cons ru .nil),⟨_,tt2,rfl,0,rfl⟩⟩
    ·have hbe:b ≠ e:=fun z=>hb (by simp [z])
     have hbi:b ≠ it:=fun z=>hb (by simp [z])
     exact (sb.2 b hbe).trans (kp b o hbe hbi q)
    ·show 2 ≤ sizeLine
     decide
   have e1:k + ((i + 1:Nat):Int)=k + (i:Int) + 1:=by omega
   refine ⟨.ref s.heap.objs.size,_,I1,rfl,⟨_,x,rfl,nT,rfl,fun ys hy=>?_⟩,⟨⟨y,by rw [e1]; exact eo2⟩,?_⟩,fun b hb=>?_⟩
   ·rw [I.tuple_inj hy hq]
    exact hx
   ·obtain ⟨⟨o,ho,r⟩,_⟩:=st'
    exact ⟨o,(sb.2 it hei.symm).trans ho,r⟩
   ·rcases List.mem_cons.mp hb with z | z
    ·subst z
     rw [upd_ne (Nat.ne_of_lt le)]
     exact (hf b (by simp)).1
    ·have z:b=it:=by simpa using z
     subst z
     rw [upd_ne (Nat.ne_of_lt li)]
     exact (hf b (by simp)).1
 done:=by
  intro X hP hw hK hc i pins s σ H E I hf st hg
  subst hP hw hK
  obtain ⟨xs,hq,hx⟩:=hg
  obtain ⟨its,rv,p,hz⟩:=I.tuple hq
  obtain ⟨⟨old,he⟩,hit⟩:=st
  have pl:s.heap.IsTuple a its.toArray:=p
  have nai:a ≠ it:=fun z=>by
   obtain ⟨o,ho,hc,_⟩:=pl
   obtain ⟨o',ho',hc',_⟩:=hit
   rw [z,ho'] at ho
   cases ho
   rw [hc'] at hc
   injection hc with q
   exact absurd q (by decide)
  have D:=draws_tup (prog:=X.prog) (w:=X.w) (A:=X.A.in1) (I.ok.hd hc) it a nai its.toArray
  have ei:its.toArray.size=i:=by
   rw [List.size_toArray,← rv.length]
   exact hx
  obtain ⟨f0,f1,f2,f3,f4,f5⟩:=hf it (by simp)
  refine wpAny_pyNext_enum_endD D he (by rw [ei]; exact ⟨hit,pl⟩) fun h' eb=>⟨rfl,I.turned (t':=s.toks) (fun b o hb q=>eb b o hb q) f0 f1 f3 f4 f5⟩
 self:=fun _ _ _ _ _ st h=>by
  obtain ⟨⟨old,he⟩,_⟩:=st
  exact wpAny_pyIter_enum he h
section
variable {M:Model} {A:Around} {E:Value→Shared→Prop} {s:Shared} {env:Env}
theorem callWith_tyK {pos:Pos} {T:String} {e:Expr} {rest:List Expr} {kws:List Keyword} {Q:Value→Shared→Prop}
  (h:wpAny M A (spliced (backTo pos (starEach (e :: rest) env))) (fun vs s1=>wpAny M A (evalAll ((backToKw pos (keywordEach kws env)).map (·.2)))
   (fun kvs s2=>wpAny M A (call (.type T) vs (((backToKw pos (keywordEach kws env)).filterMap (·.1)).zip kvs)) Q E s2) E s1) E s)
  (he:backTo pos (starEach (e :: rest) env)=(false,eval e env) :: backTo pos (starEach rest env):=by rfl) (hpl:(backTo pos (starEach (e :: rest) env)).any (·.1)=false:=by rfl)
  (hall:(backToKw pos (keywordEach kws env)).all (·.1.isSome)=true:=by rfl) (hkw:(backToKw pos (keywordEach kws env)).any (·.1.isNone)=false:=by rfl) :
  wpAny M A (callWith pos (.type T) [] (backTo pos (starEach (e :: rest) env)) (backToKw pos (keywordEach kws env))) Q E s:=by
 have h2:wpAny M A (evalArgs (.type T) true (backTo pos (starEach (e :: rest) env)) (backToKw pos (keywordEach kws env))) (fun a s1=>wpAny M A (call (.type T) ([] ++ a.pos) a.kw) Q E s1) E s:=by
  rw [he] at h ⊢
  exact evalArgs_kwB hall h
 unfold callWith
 refine wpAny_bind (wpAny_holding (wpAny_mono h2 (fun a s1 h1=>wpAny_bind (wpAny_standAt ?_)) fun _ _ z=>z))
 simp only [hpl,hkw,Bool.or_false]
 exact wpAny_bind (wpAny_pure (wpAny_bind (wpAny_mono h1 (fun r s2 hr=>wpAny_bind (wpAny_holding (wpAny_point (wpAny_pure hr)))) fun _ _ z=>z)))
end
section
variable {X:Cx} {es:List Expr} {kk:Nat} {pt:Pos}
def iEnL (K:PySem.W.Frag) (ta tk:TA):TI:=fun σ H R=>ta σ H fun vs H1=>tk σ H1 fun ws H2=>∃ a i,vs=[.ref a]∧ws=[.int i]∧Builtin.SmallTypes.fitsIndex i=true∧(∃ xs,SqL K H2 a xs)∧R (Ite (fun H xs=>SqL K H a xs) i) H2
theorem pi_enL {l:Expr} {kws:List Keyword} {ta tk:TA} {p pos:Pos} (hg:Gl X "enumerate") (hm:X.mg "enumerate"=none) (ha:PA X [l] ta) (hk:PK X kws tk) (hks:(backToKw pos (keywordEach kws X.env)).filterMap (·.1)=[("start":Str)]:=by rfl)
  (he:backTo pos (starEach [l] X.env)=(false,eval l X.env) :: backTo pos (starEach [] X.env):=by rfl) (hpl:(backTo pos (starEach [l] X.env)).any (·.1)=false:=by rfl)
  (hall:(backToKw pos (keywordEach kws X.env)).all (·.1.isSome)=true:=by rfl) (hkw:(backToKw pos (keywordEach kws X.env)).any (·.1.isNone)=false:=by rfl) :
  PI X (.Tuple es kk pt) (.Call (.Name "enumerate" p) [l] kws pos) (iEnL X.K ta tk):=by
 intro pins s σ H R I h
 refine wpAny_Call_Name_kw (ld_blt I hg hm boot_enumerate (callWith_tyK (thn (ha pos pins s σ H _ I h) fun us s1 ⟨vs,H1,I1,r1,q1⟩=>thn (hk pos pins s1 σ H1 _ I1 q1) fun ks s2 ⟨ws,H2,I2,r2,q2⟩=>?_) he hpl hall hkw))
 rw [hks]
 obtain ⟨a,i,e1,e2,fi,⟨xs,hq⟩,q⟩:=q2
 subst e1 e2
 obtain ⟨u,e1,r3⟩:=vals1 r1
 subst e1
 obtain rfl:u=Value.ref a:=r3
 obtain ⟨u2,e2,t,r4⟩:=vals1 r2
 subst e2
 subst r4
 obtain ⟨its,rv,pl,hz⟩:=I2.list hq
 refine en_callK fi pl.isList fun h' he hit kp=>?_
 have I3:Inv X pins σ H2 { s2 with heap:=h' }:=I2.kept (t':=s2.toks) kp
 refine wpAny_pyIter_enum he ⟨s2.heap.objs.size + 1,[s2.heap.objs.size + 1,s2.heap.objs.size],_,_,H2,rfl,I3,turn_enL a _ _ i (Nat.succ_ne_self _),⟨⟨.none,by rw [show i + ((0:Nat):Int)=i by omega]; exact he⟩,hit⟩,fun b hb=>?_,q⟩
 rcases List.mem_cons.mp hb with z | z
 ·subst z
  exact I2.fpOk (Nat.le_succ _) (I2.hok.fresh (Nat.le_succ _))
 ·have z:b=s2.heap.objs.size:=by simpa using z
  subst z
  exact I2.fpOk (Nat.le_refl _) (I2.hok.fresh (Nat.le_refl _))
def iEnT (K:PySem.W.Frag) (ta:TA):TI:=fun σ H R=>ta σ H fun vs H1=>∃ a,vs=[.ref a]∧(∃ xs,SqT K H1 a xs)∧R (Ite (fun H xs=>SqT K H a xs) 0) H1
theorem pi_enT {l:Expr} {ta:TA} {p pos:Pos} (hg:Gl X "enumerate") (hm:X.mg "enumerate"=none) (ha:PA X [l] ta) (hs:starEach [l] X.env=[(false,eval l X.env)]:=by rfl) :
  PI X (.Tuple es kk pt) (.Call (.Name "enumerate" p) [l] [] pos) (iEnT X.K ta):=by
 intro pins s σ H R I h
 refine Call_ (ld_blt I hg hm boot_enumerate (PyProof.Rows.callWith_type1 (thn (ha pos pins s σ H _ I h) fun us s1 ⟨vs,H1,I1,r1,q1⟩=>?_) hs rfl))
 obtain ⟨a,e1,⟨xs,hq⟩,q⟩:=q1
 subst e1
 obtain ⟨u,e1,r3⟩:=vals1 r1
 subst e1
 obtain rfl:u=Value.ref a:=r3
 obtain ⟨its,rv,pl,hz⟩:=I1.tuple hq
 refine en_callT (show s1.heap.IsTuple a its.toArray from pl) fun h' he hit kp=>?_
 have I3:Inv X pins σ H1 { s1 with heap:=h' }:=I1.kept (t':=s1.toks) kp
 refine wpAny_pyIter_enum he ⟨s1.heap.objs.size + 1,[s1.heap.objs.size + 1,s1.heap.objs.size],_,_,H1,rfl,I3,turn_enT a _ _ 0 (Nat.succ_ne_self _),⟨⟨.none,by rw [show (0:Int) + ((0:Nat):Int)=0 by omega]; exact he⟩,hit⟩,fun b hb=>?_,q⟩
 rcases List.mem_cons.mp hb with z | z
 ·subst z
  exact I1.fpOk (Nat.le_succ _) (I1.hok.fresh (Nat.le_succ _))
 ·have z:b=s1.heap.objs.size:=by simpa using z
  subst z
  exact I1.fpOk (Nat.le_refl _) (I1.hok.fresh (Nat.le_refl _))
end
theorem for_en {Sq:Hp→List V→Prop} {k:Int} {xs:List V} {g:TG} {tb:TS} {D:Ends} {σ:St} {H:Hp} (Pv:Nat→St→Hp→Prop) (h0:Pv 0 σ H) (hl:∀ i σ H,i ≤ xs.length→Pv i σ H→Sq H xs)
  (hs:∀ i x p σ H,xs[i]?=some x→H p=none→Pv i σ H→g (.ref p) σ (upd H p (.tup [.int (k + i),x])) fun σ2 H2=>tb { D with nx:=Pv (i + 1),ct:=Pv (i + 1),bk:=D.nx } σ2 H2) (hd:∀ σ H,Pv xs.length σ H→D.nx σ H) :
  ∃ W:Nat→Nat→St→Hp→Prop,(∃ m,W 0 m σ H)∧∀ i m σ H,W i m σ H →
   ((Ite Sq k).stop i H∧D.nx σ H) ∨ ((Ite Sq k).go i H∧∃ N:St→Hp→Prop,(∀ σ' H',N σ' H'→∃ m',m' < m∧W (i + 1) m' σ' H')∧∀ x H',(Ite Sq k).yld i H x H'→g x σ H' fun σ2 H2=>tb { D with nx:=N,ct:=N,bk:=D.nx } σ2 H2):=by
 refine ⟨fun i m σ H=>m=xs.length - i∧i ≤ xs.length∧Pv i σ H,⟨xs.length,by simp,Nat.zero_le _,h0⟩,?_⟩
 rintro i m σ H ⟨rfl,hi,p⟩
 have q:=hl i σ H hi p
 by_cases hlt:i < xs.length
 ·refine .inr ⟨⟨xs,xs[i],q,by simp [hlt]⟩,Pv (i + 1),fun σ' H' p'=>⟨xs.length - (i + 1),by omega,rfl,hlt,p'⟩,fun x H' y=>?_⟩
  obtain ⟨a,z,e1,hn,e2,y⟩:=y
  subst e1 e2
  exact hs i z a σ H (y xs q) hn p
 ·have e:i=xs.length:=by omega
  subst e
  exact .inl ⟨⟨xs,q,rfl⟩,hd σ H p⟩
end L2
namespace L2
open PySem PySem.Spec PyProof.Rows
open AutoSeq1 (wpAny_loadPart')
theorem ext_tup (l:Addr) (its:Array Value) (n:Nat) (b:Addr) (its2:Array Value) (n2:Nat) (dct:Option Addr) (sl:Array (Option Value)) (hs0:¬(!its.isEmpty && Builtin.List.listTooLong (its.size + its2.size))=true) (hs1:its.size ≤ sizeLine) (hs2:its.size + its2.size ≤ sizeLine + 1) :
  Meets (Builtin.«list.extend» ⟨[.ref l,.ref b],[]⟩) (fun _ R s=>s.heap.get? l=some { cls:=.type "list",dict:=none,data:=.seq its n,slots:=#[] }∧s.heap.get? b=some { cls:=.type "tuple",dict:=dct,data:=.seq its2 n2,slots:=sl } ∧
   R (.ok (.ret Value.none)) { s with heap:=s.heap.update l (Obj.mapSeq fun x=>x ++ its2),toks:=s.toks }) :=
 .of_wp fun prog w A R s h=>by
  obtain ⟨hp,g,d,tk,os⟩:=s
  obtain ⟨hl,hb,h⟩:=h
  have f1:=AutoSeq1.idx_int
  have f2:=AutoSeq1.sub_tuple_tuple
  have f3:=AutoSeq1.sub_list_list
  have f4:=AutoSeq1.sub_tuple_list
  have f5:=AutoSeq1.sub_list_tuple
  have hz2:(its ++ its2).size ≤ sizeLine + 1:=by rw [Array.size_append]; exact hs2
  wp_walk using (wpAny_updateSeq hl rfl (hz:=hs1) (_hz':=hz2)),wpAny_loadPart' hl,wpAny_loadPart' hb
  exact ⟨_,rfl,h⟩
section
variable {X:Cx}
def rExtendT (K:PySem.W.Frag):V→List V→Hp→VK→Prop:=fun x vs H Q=>∃ l b xs zs,x=.ref l∧vs=[.ref b]∧H l=some (.lst xs)∧SqT K H b zs∧xs.length + zs.length ≤ sizeLine∧Q .non (upd H l (.lst (xs ++ zs)))
theorem mt_extendT:MtM X "list.extend" (rExtendT X.K):=by
 intro pins s σ H x vs v us Q I rx rv h
 obtain ⟨l,b,xs,zs,e1,e2,hH,hB,hz,q⟩:=h
 subst e1 e2
 obtain rfl:v=Value.ref l:=rx
 obtain ⟨u,e3,ru⟩:=rv.one
 subst e3
 obtain rfl:u=Value.ref b:=ru
 obtain ⟨z,its,n,r,hl,e⟩:=I.lstM hH
 obtain ⟨its2,r2,⟨⟨c,dct,dt,sl⟩,ho,hc,n2,hd⟩,hz2⟩:=I.tuple hB
 have hc2:c=.type "tuple":=hc
 have hd2:dt=.seq its2.toArray n2:=hd
 subst hc2 hd2
 have hl2:=r2.length
 have hsz:its.toArray.size + its2.toArray.size ≤ sizeLine:=by rw [List.size_toArray,List.size_toArray]; omega
 have nl:¬ (!its.toArray.isEmpty && Builtin.List.listTooLong (its.toArray.size + its2.toArray.size))=true:=by
  rw [notLongL hsz,Bool.and_false]
  exact Bool.false_ne_true
 refine call_meets F.slot_list_extend ⟨_,e,rfl⟩ F.entry_list_extend (F.args_list_extend_2 _ _) (ext_tup l its.toArray n b its2.toArray n2 dct sl nl (by rw [List.size_toArray]; omega) (by omega)) ⟨e,ho,?_⟩
 refine ⟨.non,_,I.lset (its':=its ++ its2) hH e (by simp) (r.append r2) ?_,rfl,q⟩
 rw [List.length_append]
 exact hz
def rInst (K:PySem.W.Frag):List V→Hp→VK→Prop:=fun xs H Q=>∃ x n t b,xs=[x,.ty n]∧TyOf K H x t∧PySem.W.kitOne K t (.type n)=some b∧Q (.bl b) H
theorem call_isinst:CallR X (.builtin "isinstance") (rInst X.K):=by
 intro pins s σ H xs us Q I r h
 obtain ⟨x,n,t,b,e1,ty,e2,q⟩:=h
 subst e1
 obtain ⟨u,v,e3,r1,r2⟩:=vals2 r
 subst e3
 obtain rfl:v=Value.type n:=r2
 exact isinst_ok I r1 ty e2 fun tk=>⟨.bl b,H,I.tok tk,rfl,q⟩
end
end L2
namespace L2
open PySem PySem.Spec PyProof.Rows
def compChk (fs:Scope) (N:List Str) (x:Str) (scope:Scope):Bool :=
 decide (scope.kind=.function) && scope.names.all (fun y=>decide (y.2 ≠ .cell)) && scope.names.all (fun y=>decide (y.2=.local→scope.names.lookup y.1=some .local)) && decide (scope.names.lookup x=some .local) &&
 scope.names.all (fun y=>decide (y.2=.free→fs.names.lookup y.1=some .cell ∨ fs.names.lookup y.1=some .free)) &&
 N.all (fun y=>match scope.names.lookup y with
  | none=>true
  | some .free=>decide (fs.names.lookup y=some .cell ∨ fs.names.lookup y=some .free)
  | some _=>false) && decide ((x :: N).Nodup)
theorem compSc_mk {X:Cx} {x:Str} {scope fs:Scope} {N:List Str} (hs:X.env.scope=fs) (hN:X.N=N) (c:compChk fs N x scope=true):CompSc X x scope:=by
 subst hs hN
 unfold compChk at c
 simp only [Bool.and_eq_true,List.all_eq_true,decide_eq_true_eq] at c
 obtain ⟨⟨⟨⟨⟨⟨c1,c2⟩,c3⟩,c4⟩,c5⟩,c6⟩,c7⟩:=c
 refine ⟨c1,c2,c3,c4,c5,fun y hy=>?_,c7⟩
 have q:=c6 y hy
 unfold capOk
 cases e:scope.names.lookup y with
 | none=>rfl
 | some k =>
  rw [e] at q
  cases k with
  | free =>
   have q2:X.env.scope.names.lookup y=some .cell ∨ X.env.scope.names.lookup y=some .free:=by simpa using q
   show (X.env.kindOf y == some .cell || X.env.kindOf y == some .free)=true
   have e2:X.env.kindOf y=X.env.scope.names.lookup y:=rfl
   rw [e2]
   rcases q2 with z | z <;> rw [z] <;> rfl
  | _=>simp at q
theorem comp_list {K:PySem.W.Frag} {a:Addr} {xs:List V} {te:TE} {σ:St} {H:Hp} {Q:VK} (f:V→V) (hq:SqL K H a xs) (hn:xs.length < sizeLine)
  (he:∀ (D:Addr) (i:Nat) (x:V) (l:List V) (Q':VK),H D=none→xs[i]?=some x→Q' (f x) (upd H D (.lst l))→te (some x :: σ) (upd H D (.lst l)) Q') (hd:∀ D,H D=none→Q (.ref D) (upd H D (.lst (xs.map f)))) :
  CompGo (Itl K a) H σ ttAll te Q:=by
 intro D hD
 refine ⟨fun i m H'=>m=xs.length - i∧i ≤ xs.length∧H'=upd H D (.lst ((xs.take i).map f)),⟨xs.length,by omega,Nat.zero_le _,rfl⟩,?_⟩
 rintro i m H' ⟨rfl,hi,rfl⟩
 have hs:Same H (upd H D (.lst ((xs.take i).map f))):=fun b o e=>by rw [upd_ne (ne_of_none e hD)]; exact e
 have q:=hs.seq hq
 by_cases hlt:i < xs.length
 ·refine .inr ⟨⟨xs,xs[i],q,by simp [hlt]⟩,fun x H2 y=>?_⟩
  obtain ⟨e,y⟩:=y
  subst e
  have hx:=y xs q
  unfold ttAll
  refine iteT ?_
  refine he D i x _ _ hD hx ⟨_,upd_same,?_,xs.length - (i + 1),by omega,rfl,hlt,?_⟩
  ·rw [List.length_map,List.length_take]; omega
  ·rw [upd_upd,List.take_add_one,hx,List.map_append]
   rfl
 ·have e:i=xs.length:=by omega
  subst e
  refine .inl ⟨⟨xs,q,Nat.le_refl _⟩,?_⟩
  rw [List.take_length]
  exact hd D hD
theorem comp_range {lo:Int} {n:Nat} {te:TE} {σ:St} {H:Hp} {Q:VK} (f:Nat→V) (hn:n < sizeLine)
  (he:∀ (D:Addr) (i:Nat) (l:List V) (Q':VK),H D=none→i < n→Q' (f i) (upd H D (.lst l))→te (some (.int (lo + i)) :: σ) (upd H D (.lst l)) Q') (hd:∀ D,H D=none→Q (.ref D) (upd H D (.lst ((List.range n).map f)))) :
  CompGo (Itr lo n) H σ ttAll te Q:=by
 intro D hD
 refine ⟨fun i m H'=>m=n - i∧i ≤ n∧H'=upd H D (.lst ((List.range i).map f)),⟨n,by omega,Nat.zero_le _,rfl⟩,?_⟩
 rintro i m H' ⟨rfl,hi,rfl⟩
 by_cases hlt:i < n
 ·refine .inr ⟨hlt,fun x H2 y=>?_⟩
  obtain ⟨e,y⟩:=y
  subst e y
  unfold ttAll
  refine iteT ?_
  refine he D i _ _ hD hlt ⟨_,upd_same,?_,n - (i + 1),by omega,rfl,hlt,?_⟩
  ·rw [List.length_map,List.length_range]; omega
  ·rw [upd_upd,List.range_succ,List.map_append]
   rfl
 ·have e:i=n:=by omega
  subst e
  exact .inl ⟨Nat.le_refl _,hd D hD⟩
end L2
namespace L2
open PySem PySem.Spec PyProof.Rows
section
variable {X:Cx}
def rSlS:V→Option Int→Option Int→Hp→VK→Prop:=fun x lo hi H Q=>∃ z,x=.str z∧z.length ≤ sizeLine∧∀ y:Str,y.length ≤ z.length→Q (.str y) H
theorem sl_str:SlR X rSlS:=by
 intro pins s σ H x v vl vu lo hi sl Q I rx hs pl pu h
 obtain ⟨z,e1,hz,q⟩:=h
 subst e1
 obtain ⟨t,e2⟩:=(show ∃ t,v=Value.str z t from rx)
 subst e2
 refine ⟨"str",_,F.slot_str_getitem.lookup,typeIs_str s z t,?_⟩
 have parts:∀ {v:Value} {o:Option Int},IsPart v o→∃ l:Option (Int × Tok),v=partValue l∧l.map (·.1)=o:=fun {v o} p=>by
  cases p with
  | none=>exact ⟨none,rfl,rfl⟩
  | int i t=>exact ⟨some (i,t),rfl,rfl⟩
 obtain ⟨l,el,ml⟩:=parts pl
 obtain ⟨u,eu,mu⟩:=parts pu
 subst el eu
 refine wpAny_getItem_str_slice (l:=l) (u:=u) (st:=none) hs rfl ?_
 unfold sliceMade
 split
 ·exact ⟨.str z,H,I,⟨t,rfl⟩,q z (Nat.le_refl _)⟩
 ·have le:(⟨((slicePicked z l u none).filterMap (z.cps[·]?)).toArray⟩:Str).length ≤ z.length:=by
   show ((slicePicked z l u none).filterMap (z.cps[·]?)).toArray.size ≤ _
   rw [List.size_toArray]
   exact Nat.le_trans (List.length_filterMap_le _ _) (sliceIndices_le _ _ _)
  exact ⟨Nat.le_trans le hz,.str _,H,I.tok _,⟨_,rfl⟩,q _ le⟩
def iEnL0 (K:PySem.W.Frag) (ta:TA):TI:=fun σ H R=>ta σ H fun vs H1=>∃ a,vs=[.ref a]∧(∃ xs,SqL K H1 a xs)∧R (Ite (fun H xs=>SqL K H a xs) 0) H1
theorem pi_enL0 {es:List Expr} {kk:Nat} {pt:Pos} {l:Expr} {ta:TA} {p pos:Pos} (hg:Gl X "enumerate") (hm:X.mg "enumerate"=none) (ha:PA X [l] ta) (hs:starEach [l] X.env=[(false,eval l X.env)]:=by rfl) :
  PI X (.Tuple es kk pt) (.Call (.Name "enumerate" p) [l] [] pos) (iEnL0 X.K ta):=by
 intro pins s σ H R I h
 refine Call_ (ld_blt I hg hm boot_enumerate (PyProof.Rows.callWith_type1 (thn (ha pos pins s σ H _ I h) fun us s1 ⟨vs,H1,I1,r1,q1⟩=>?_) hs rfl))
 obtain ⟨a,e1,⟨xs,hq⟩,q⟩:=q1
 subst e1
 obtain ⟨u,e1,r3⟩:=vals1 r1
 subst e1
 obtain rfl:u=Value.ref a:=r3
 obtain ⟨its,rv,pl,hz⟩:=I1.list hq
 refine call_enumerate_list pl.isList fun h' he hit hsz kp=>?_
 have I3:Inv X pins σ H1 { s1 with heap:=h' }:=I1.kept (t':=s1.toks) kp
 refine wpAny_pyIter_enum he ⟨s1.heap.objs.size + 1,[s1.heap.objs.size + 1,s1.heap.objs.size],_,_,H1,rfl,I3,turn_enL a _ _ 0 (Nat.succ_ne_self _),⟨⟨.none,by rw [show (0:Int) + ((0:Nat):Int)=0 by omega]; exact he⟩,hit⟩,fun b hb=>?_,q⟩
 rcases List.mem_cons.mp hb with z | z
 ·subst z
  exact I1.fpOk (Nat.le_succ _) (I1.hok.fresh (Nat.le_succ _))
 ·have z:b=s1.heap.objs.size:=by simpa using z
  subst z
  exact I1.fpOk (Nat.le_refl _) (I1.hok.fresh (Nat.le_refl _))
end
theorem comp_rangeG {lo:Int} {n:Nat} {tt:TT} {te:TE} {σ:St} {H:Hp} {Q:VK} (Pv:Addr→Nat→List V→Hp→Prop) (hn:n < sizeLine) (h0:∀ D,H D=none→Pv D 0 [] (upd H D (.lst [])))
  (hl:∀ D i l H',Pv D i l H'→l.length ≤ i)
  (he:∀ (D:Addr) (i:Nat) (l:List V) (H':Hp) (Q1:Bool→Hp→Prop),i < n→Pv D i l H'→(∀ b H2,(b=false→Pv D (i + 1) l H2)→(b=true→∀ Q':VK,(∀ y H3,H3 D=some (.lst l)→Pv D (i + 1) (l ++ [y]) (upd H3 D (.lst (l ++ [y])))→Q' y H3)→te (some (.int (lo + i)) :: σ) H2 Q')→Q1 b H2)→tt (some (.int (lo + i)) :: σ) H' Q1)
  (hd:∀ D l H',Pv D n l H'→Q (.ref D) H'):CompGo (Itr lo n) H σ tt te Q:=by
 intro D hD
 refine ⟨fun i m H'=>m=n - i∧i ≤ n∧∃ l,Pv D i l H',⟨n,by omega,Nat.zero_le _,[],h0 D hD⟩,?_⟩
 rintro i m H' ⟨rfl,hi,l,hp⟩
 by_cases hlt:i < n
 ·refine .inr ⟨hlt,fun x H2 y=>?_⟩
  obtain ⟨e,y⟩:=y
  subst e y
  refine he D i l H2 _ hlt hp fun b H3 hf ht=>?_
  cases b with
  | false =>
   refine iteF ?_
   exact ⟨n - (i + 1),by omega,rfl,hlt,l,hf rfl⟩
  | true =>
   refine iteT (ht rfl _ fun v H4 z1 z2=>?_)
   have hl2:=hl D i l H2 hp
   exact ⟨l,z1,Nat.lt_of_le_of_lt hl2 (by omega),n - (i + 1),by omega,rfl,hlt,l ++ [v],z2⟩
 ·have e:i=n:=by omega
  subst e
  exact .inl ⟨Nat.le_refl _,hd D l H' hp⟩
theorem comp_listG {K:PySem.W.Frag} {a:Addr} {xs:List V} {te:TE} {σ:St} {H:Hp} {Q:VK} (Pv:Addr→Nat→List V→Hp→Prop) (hn:xs.length < sizeLine) (h0:∀ D,H D=none→Pv D 0 [] (upd H D (.lst [])))
  (hs:∀ D i l H',Pv D i l H'→SqL K H' a xs) (hl:∀ D i l H',Pv D i l H'→l.length ≤ i)
  (he:∀ (D:Addr) (i:Nat) (x:V) (l:List V) (H':Hp) (Q':VK),xs[i]?=some x→Pv D i l H'→(∀ y H3,H3 D=some (.lst l)→Pv D (i + 1) (l ++ [y]) (upd H3 D (.lst (l ++ [y])))→Q' y H3)→te (some x :: σ) H' Q')
  (hd:∀ D l H',Pv D xs.length l H'→Q (.ref D) H'):CompGo (Itl K a) H σ ttAll te Q:=by
 intro D hD
 refine ⟨fun i m H'=>m=xs.length - i∧i ≤ xs.length∧∃ l,Pv D i l H',⟨xs.length,by omega,Nat.zero_le _,[],h0 D hD⟩,?_⟩
 rintro i m H' ⟨rfl,hi,l,hp⟩
 have q:=hs D i l H' hp
 by_cases hlt:i < xs.length
 ·refine .inr ⟨⟨xs,xs[i],q,by simp [hlt]⟩,fun x H2 y=>?_⟩
  obtain ⟨e,y⟩:=y
  subst e
  unfold ttAll
  refine iteT (he D i x l H2 _ (y xs q) hp fun v H4 z1 z2=>?_)
  have hl2:=hl D i l H2 hp
  exact ⟨l,z1,Nat.lt_of_le_of_lt hl2 (by omega),xs.length - (i + 1),by omega,rfl,hlt,l ++ [v],z2⟩
 ·have e:i=xs.length:=by omega
  subst e
  exact .inl ⟨⟨xs,q,Nat.le_refl _⟩,hd D l H' hp⟩
section
variable {X:Cx} {K:PySem.W.Frag}
end
end L2
namespace L2
open PySem
section
variable {prog:Program} {w:World} {A:Around} {R:Result→Shared→Prop} {I Z:Addr} {fp wr:List Addr} {n:Nat} {P:Nat→Value→Prop} {St:Nat→Heap→Prop} {Ok:Heap→Prop}
def CmpAt (prog:Program) (w:World) (A:Around) (op:CmpOp) (Ok:Heap→Prop) (P:Nat→Value→Prop) (bt:Nat→Nat→Bool):Prop :=
 ∀ i j vi vj (s:Shared) (Q:Value→Shared→Prop) (E:Value→Shared→Prop),Ok s.heap→P i vi→P j vj→Q (.bool (bt i j)) s→wpAny (model prog w) A (richCompare op vi vj) Q E s
theorem minAt_loop (W:Walks prog w A.in1 I fp wr n P St) (bt:Nat→Nat→Bool) (cm:CmpAt prog w A.in1 .Lt Ok P bt) (hz:Z ∉ fp) (ok:∀ h h',Ok h→(∀ b o,b ∉ wr→b ≠ Z→h.get? b=some o→h'.get? b=some o)→Ok h') :
  ∀ (k j:Nat) (s:Shared) (v0:Value) (c:Nat),n - (j + 1)=k→j + 1 ≤ n→St (j + 1) s.heap→Ok s.heap→P (argBest bt j) v0→s.heap.get? Z=some { cls:=.type "list",dict:=none,data:=.seq #[v0,v0] c,slots:=#[] } →
  (∀ v h' tk,P (argBest bt (n - 1)) v→(∀ b o,b ∉ wr→b ≠ Z→s.heap.get? b=some o→h'.get? b=some o)→R (.ok (.ret v)) { s with heap:=h',toks:=tk })→codeAny (model prog w) A (.builtin "min.loop" ⟨[.ref I,.none,.ref Z],[]⟩) R s:=by
 have hw:Z ∉ wr:=fun q=>hz (W.sub _ q)
 have nm:(toString "min" ++ toString ".loop":String)="min.loop":=by decide
 intro k
 induction k with
 | zero =>
  intro j s v0 c e1 e2 st0 ok0 p0 z0 fin
  have en:j + 1=n:=by omega
  refine codeAny_builtin F.entry_min_loop ?_
  rw [Around.under_plainId F.plain_min_loop _]
  show wpAny _ A.in1 (seqItems? (.ref Z) >>= _) _ _ s
  refine wpAny_bind (wpAny_seqItems z0 rfl ?_)
  show wpAny _ A.in1 (tryCatch (pyNext (.ref I)) _ >>= _) _ _ s
  refine wpAny_bind (wpAny_tryCatch (W.done s _ _ (en ▸ st0) fun h' tk kp=>?_))
  have z1:=kp Z _ hw z0
  show wpAny _ A.in1 (updateSeq Z (fun _=>#[]) >>= _) _ _ _
  refine wpAny_bind ?_
  refine wpAny_updateSeq z1 rfl (wpAny_bind (wpAny_letGo (wpAny_pure ?_)))
  exact fin v0 _ tk (by rw [← en]; exact p0) fun b o b1 b2 e=>(Heap.get?_update_other _ _ (Ne.symm b2)).trans (kp b o b1 e)
 | succ k ih =>
  intro j s v0 c e1 e2 st0 ok0 p0 z0 fin
  have lt:j + 1 < n:=by omega
  refine codeAny_builtin F.entry_min_loop ?_
  rw [Around.under_plainId F.plain_min_loop _]
  show wpAny _ A.in1 (seqItems? (.ref Z) >>= _) _ _ s
  refine wpAny_bind (wpAny_seqItems z0 rfl ?_)
  show wpAny _ A.in1 (tryCatch (pyNext (.ref I)) _ >>= _) _ _ s
  refine wpAny_bind (wpAny_tryCatch (W.item (j + 1) s _ _ lt st0 fun v h' tk p1 st1 kp=>?_))
  have z1:=kp Z _ hw z0
  have ok1:Ok h':=ok _ _ ok0 fun b o b1 _ e=>kp b o b1 e
  show wpAny _ A.in1 (tryCatch (holding [v,v] (richCompare .Lt v v0 >>= _)) _ >>= _) _ _ _
  refine wpAny_bind (wpAny_tryCatch (wpAny_holding (wpAny_bind (cm (j + 1) (argBest bt j) v v0 _ _ _ ok1 p1 p0 ?_))))
  refine wpAny_bind (wpAny_holding (wpAny_truthy_bool (wpAny_bind (wpAny_letGo (wpAny_pure ?_)))))
  cases hb:bt (j + 1) (argBest bt j) with
  | true =>
   simp only [if_true]
   refine wpAny_bind ?_
   refine wpAny_updateSeq z1 rfl (wpAny_bind (wpAny_letGo ?_))
   rw [nm]
   have k2:∀ b o,b ≠ Z→h'.get? b=some o→(h'.update Z (Obj.mapSeq fun _=>#[v,v])).get? b=some o:=fun b o q e=>(Heap.get?_update_other _ _ (Ne.symm q)).trans e
   refine wpAny_pure ⟨plainId_quiet F.plain_min_loop _,ih (j + 1) _ v _ (by omega) lt (W.frame _ _ _ st1 fun b q o e=>k2 b o (fun z=>hz (by rw [← z]; exact q)) e) (ok _ _ ok1 fun b o _ q e=>k2 b o q e) (by simp only [argBest,hb,if_true]; exact p1) (Heap.get?_update_self _ z1 rfl) fun v' h'' tk'' p2 kp2=>?_⟩
   exact fin v' h'' tk'' p2 fun b o b1 b2 e=>kp2 b o b1 b2 (k2 b o b2 (kp b o b1 e))
  | false =>
   simp only [Bool.false_eq_true,if_false]
   refine wpAny_bind (wpAny_letGo ?_)
   rw [nm]
   refine wpAny_pure ⟨plainId_quiet F.plain_min_loop _,ih (j + 1) _ v0 c (by omega) lt st1 ok1 (by simp only [argBest,hb,Bool.false_eq_true,if_false]; exact p0) z1 fun v' h'' tk'' p2 kp2=>?_⟩
   exact fin v' h'' tk'' p2 fun b o b1 b2 e=>kp2 b o b1 b2 (kp b o b1 e)
theorem minAt_first (W:Walks prog w A.in1 I fp wr n P St) (bt:Nat→Nat→Bool) (cm:CmpAt prog w A.in1 .Lt Ok P bt) (hz:Z ∉ fp) (ok:∀ h h',Ok h→(∀ b o,b ∉ wr→b ≠ Z→h.get? b=some o→h'.get? b=some o)→Ok h') (hn:0 < n) {s:Shared} {c:Nat} (st0:St 0 s.heap) (ok0:Ok s.heap)
  (z0:s.heap.get? Z=some { cls:=.type "list",dict:=none,data:=.seq #[] c,slots:=#[] })
  (fin:∀ v h' tk,P (argBest bt (n - 1)) v→(∀ b o,b ∉ wr→b ≠ Z→s.heap.get? b=some o→h'.get? b=some o)→R (.ok (.ret v)) { s with heap:=h',toks:=tk }):codeAny (model prog w) A (.builtin "min.loop" ⟨[.ref I,.none,.ref Z],[]⟩) R s:=by
 have hw:Z ∉ wr:=fun q=>hz (W.sub _ q)
 have nm:(toString "min" ++ toString ".loop":String)="min.loop":=by decide
 refine codeAny_builtin F.entry_min_loop ?_
 rw [Around.under_plainId F.plain_min_loop _]
 show wpAny _ A.in1 (seqItems? (.ref Z) >>= _) _ _ s
 refine wpAny_bind (wpAny_seqItems z0 rfl ?_)
 show wpAny _ A.in1 (tryCatch (pyNext (.ref I)) _ >>= _) _ _ s
 refine wpAny_bind (wpAny_tryCatch (W.item 0 s _ _ hn st0 fun v h' tk p1 st1 kp=>?_))
 have z1:=kp Z _ hw z0
 show wpAny _ A.in1 (updateSeq Z (fun _=>#[v,v]) >>= _) _ _ _
 refine wpAny_bind ?_
 refine wpAny_updateSeq z1 rfl ?_
 rw [nm]
 have k2:∀ b o,b ≠ Z→h'.get? b=some o→(h'.update Z (Obj.mapSeq fun _=>#[v,v])).get? b=some o:=fun b o q e=>(Heap.get?_update_other _ _ (Ne.symm q)).trans e
 refine wpAny_pure ⟨plainId_quiet F.plain_min_loop _,minAt_loop W bt cm hz ok _ 0 _ v _ rfl hn (W.frame _ _ _ st1 fun b q o e=>k2 b o (fun z=>hz (by rw [← z]; exact q)) e) (ok _ _ ok0 fun b o b1 b2 e=>k2 b o b2 (kp b o b1 e)) p1 (Heap.get?_update_self _ z1 rfl) fun v' h'' tk'' p2 kp2=>?_⟩
 exact fin v' h'' tk'' p2 fun b o b1 b2 e=>kp2 b o b1 b2 (k2 b o b2 (kp b o b1 e))
end
section
variable {prog:Program} {w:World} {A:Around} {E:Value→Shared→Prop} {s:Shared}
theorem minAt_call {x:Value} {Q:Value→Shared→Prop}
  (h:wpAny (model prog w) A.in1 (pyIter x) (fun it s2=>∃ I fp wr n P St bt Ok,it=.ref I∧Walks prog w A.in1 I fp wr n P St∧St 0 s2.heap∧(∀ b ∈ fp,b < s2.heap.objs.size)∧0 < n∧CmpAt prog w A.in1 .Lt Ok P bt∧Ok s2.heap ∧
   (∀ h h':Heap,Ok h→(∀ b o,b ∉ wr→b < s2.heap.objs.size→h.get? b=some o→h'.get? b=some o)→Ok h')∧∀ v h' tk,P (argBest bt (n - 1)) v→(∀ b o,b ∉ wr→s2.heap.get? b=some o→h'.get? b=some o)→Q v { s2 with heap:=h',toks:=tk }) E s) :
  wpAny (model prog w) A (call (.builtin "min") [x]) Q E s:=by
 have nm:(toString "min" ++ toString ".loop":String)="min.loop":=by decide
 refine call_function_tree F.kind_min F.plain_min F.entry_min (F.args_min1 _) ?_
 show wpAny _ A.in1 (Builtin.Builtins.bindParams "min" ["key","default"] 0 ⟨[],[]⟩ >>= _) _ _ s
 refine wpAny_bind (wpAny_of_eq (show Builtin.Builtins.bindParams "min" ["key","default"] 0 ⟨[],[]⟩=pure [none,none] from rfl) ?_)
 refine wpAny_bind (wpAny_pure ?_)
 refine wpAny_bind (wpAny_mono h (fun it s2 h2=>?_) fun _ _ e=>e)
 obtain ⟨I,fp,wr,n,P,St,bt,Ok,rfl,W,st0,hfp,hn,cm,ok0,ok,fin⟩:=h2
 refine wpAny_bind (wpAny_newObj_type ?_)
 have hz:s2.heap.objs.size ∉ fp:=fun q=>Nat.lt_irrefl _ (hfp _ q)
 rw [nm]
 refine wpAny_pure ⟨plainId_quiet F.plain_min_loop _,minAt_first W bt cm hz (fun h h' o1 kp=>ok h h' o1 fun b o b1 b2 e=>kp b o b1 (Nat.ne_of_lt b2) e) hn (W.frame _ _ _ st0 fun b _ o e=>Heap.get?_push_of_some _ e) (ok _ _ ok0 fun b o _ _ e=>Heap.get?_push_of_some _ e) (Heap.get?_push_size _ rfl) fun v h' tk p1 kp=>?_⟩
 exact fin v h' tk p1 fun b o b1 e=>kp b o b1 (Nat.ne_of_lt (Heap.lt_size e)) (Heap.get?_push_of_some _ e)
end
end L2
namespace L2
open PySem PySem.Spec PyProof.Rows
theorem Vals.at {xs:List V} {us:List Value} {i:Nat} {u:Value} (r:Vals xs us) (h:us[i]?=some u):∃ x,xs[i]?=some x∧RelV x u:=by
 have hi:i < us.length:=(List.getElem?_eq_some_iff.mp h).1
 have hl:=r.length
 obtain ⟨w,q,p⟩:=r.get (i:=i) (x:=xs[i]) (by simp [show i < xs.length by omega])
 rw [h] at q
 cases q
 exact ⟨xs[i],by simp [show i < xs.length by omega],p⟩
theorem bl_at {bs:List Bool} {us:List Value} {i:Nat} {u:Value} (r:Vals (bs.map V.bl) us) (h:us[i]?=some u):∃ b,bs[i]?=some b∧u=.bool b:=by
 obtain ⟨x,hx,p⟩:=r.at h
 rw [List.getElem?_map] at hx
 cases e:bs[i]? with
 | none=>rw [e] at hx; cases hx
 | some b =>
  rw [e] at hx
  have q:V.bl b=x:=Option.some.inj hx
  subst q
  exact ⟨b,rfl,p⟩
theorem all_getD:∀ bs:List Bool,((List.range bs.length).all fun i=>(bs[i]?).getD true)=bs.all id
 | []=>rfl
 | b :: bs=>by
  have ih:=all_getD bs
  rw [List.length_cons,List.range_succ_eq_map,List.all_cons,List.all_map,List.all_cons,← ih]
  rfl
section
variable {X:Cx}
def rMaxL (K:PySem.W.Frag):List V→Hp→VK→Prop:=fun xs H Q=>∃ (p:Addr) (ns:List Int),xs=[.ref p]∧SqL K H p (ns.map V.int)∧0 < ns.length∧∀ M:Int,M ∈ ns→(∀ b ∈ ns,b ≤ M)→Q (.int M) H
theorem call_maxL (hc:X.calm=true):CallR X (.builtin "max") (rMaxL X.K):=by
 intro pins s σ H xs us Q I r h
 obtain ⟨p,ns,e1,hS,hn,q⟩:=h
 subst e1
 obtain ⟨u,e2,ru⟩:=vals1 r
 subst e2
 obtain rfl:u=Value.ref p:=ru
 obtain ⟨its,rv,pl,hz⟩:=I.list hS
 have ia:=intsAre_of rv
 obtain ⟨zs,ez⟩:=ia.allInts.items
 have en:ns=zs.toList.map (·.1):=by rw [← ia.numsOf,← nums_intItems,← ez]
 have hs:0 < zs.size:=by
  rw [en,List.length_map,Array.length_toList] at hn
  exact hn
 have hL:=pl.isList
 rw [ez] at hL
 refine max_intList (I.ok.hd hc) hL hs fun v h' tk hv hk=>?_
 obtain ⟨t,e3⟩:=intItems_at hv
 subst e3
 obtain ⟨g1,g2⟩:=argBest_gt (numAt zs) (zs.size - 1)
 refine ⟨.int _,H,I.kept hk,⟨t,rfl⟩,q _ ?_ fun b hb=>?_⟩
 ·rw [en,numAt_eq]
  exact getD_mem (by rw [List.length_map,Array.length_toList]; omega)
 ·rw [en] at hb
  obtain ⟨j,hj,e4⟩:=mem_getD hb
  subst e4
  rw [List.length_map,Array.length_toList] at hj
  rw [← numAt_eq]
  exact g2 j (by omega)
def rSumL (K:PySem.W.Frag):List V→Hp→VK→Prop:=fun xs H Q=>∃ (p:Addr) (ns:List Int),xs=[.ref p]∧SqL K H p (ns.map V.int)∧Q (.int ns.sum) H
theorem call_sumL (hc:X.calm=true):CallR X (.builtin "sum") (rSumL X.K):=by
 intro pins s σ H xs us Q I r h
 obtain ⟨p,ns,e1,hS,q⟩:=h
 subst e1
 obtain ⟨u,e2,ru⟩:=vals1 r
 subst e2
 obtain rfl:u=Value.ref p:=ru
 obtain ⟨its,rv,pl,hz⟩:=I.list hS
 have ia:=intsAre_of rv
 obtain ⟨zs,ez⟩:=ia.allInts.items
 have en:ns=zs.toList.map (·.1):=by rw [← ia.numsOf,← nums_intItems,← ez]
 have hL:=pl.isList
 rw [ez] at hL
 refine sum_intListG (I.ok.hd hc) hL fun h' tk t' hk=>?_
 have e2:preSum (numAt zs) zs.size=ns.sum:=by rw [preSum_eq,List.take_of_length_le (by simp),en]
 rw [e2]
 exact ⟨.int _,H,I.kept hk,⟨t',rfl⟩,q⟩
def rAllL (K:PySem.W.Frag):List V→Hp→VK→Prop:=fun xs H Q=>∃ (p:Addr) (bs:List Bool),xs=[.ref p]∧SqL K H p (bs.map V.bl)∧Q (.bl (bs.all id)) H
theorem call_allL (hc:X.calm=true):CallR X (.builtin "all") (rAllL X.K):=by
 intro pins s σ H xs us Q I r h
 obtain ⟨p,bs,e1,hS,q⟩:=h
 subst e1
 obtain ⟨u,e2,ru⟩:=vals1 r
 subst e2
 obtain rfl:u=Value.ref p:=ru
 obtain ⟨its,rv,pl,hz⟩:=I.list hS
 have hL:=pl.isList
 have lt:p < s.heap.objs.size:=by
  obtain ⟨_,e,_⟩:=hL
  exact Heap.lt_size e
 refine call_all_walk (wpAny_pyIter_list hL ?_)
 refine ⟨s.heap.objs.size,[s.heap.objs.size,p],[s.heap.objs.size],its.toArray.size,_,_,fun i=>(bs[i]?).getD true,rfl,Walks.list (A:=X.A.in1) (I.ok.hd hc) _ p (Nat.ne_of_lt lt) its.toArray,
  ⟨⟨_,Heap.get?_push_size _ rfl,rfl,rfl⟩,hL.push _⟩,fun i v s' Q' E' hP hQ=>?_,fun h' tk hk=>?_⟩
 ·obtain ⟨b,e,e3⟩:=bl_at rv (by simpa using hP)
  subst e3
  simp only [e,Option.getD_some] at hQ
  exact wpAny_truthy_bool hQ
 ·have e:((List.range its.toArray.size).all fun i=>(bs[i]?).getD true)=bs.all id:=by
   have hl:=rv.length
   rw [List.length_map] at hl
   rw [List.size_toArray,← hl,all_getD]
  rw [e]
  refine ⟨.bl _,H,I.kept (t':=tk) fun b o eb=>hk b o (fun hm=>?_) (Heap.get?_push_of_some _ eb),rfl,q⟩
  rw [List.mem_singleton.mp hm] at eb
  exact Nat.lt_irrefl _ (Heap.lt_size eb)
def rEqN (K:PySem.W.Frag) (neg:Bool):R2:=fun x y H Q=>∃ a b xs,x=.ref a∧y=.ref b∧SqL K H a xs∧SqL K H b []∧Q (.bl (if neg then !xs.isEmpty else xs.isEmpty)) H
theorem op_eqN (hu:X.A.units < cLine):OpR X (compareOp .Eq) (rEqN X.K false):=by
 intro pins s σ H x y v u Q I rx ry h
 obtain ⟨a,b,xs,e1,e2,hA,hB,q⟩:=h
 subst e1 e2
 obtain rfl:v=Value.ref a:=rx
 obtain rfl:u=Value.ref b:=ry
 obtain ⟨its,r,pl,hz⟩:=I.list hA
 obtain ⟨its2,r2,pl2,hz2⟩:=I.list hB
 have l1:=r.length
 have l2:=r2.length
 rw [List.length_nil] at l2
 cases xs with
 | nil =>
  rw [List.length_nil] at l1
  refine SeqAt.eq_listAt (e:=fun _=>true) pl.isList pl2.isList (by rw [List.size_toArray,List.size_toArray]; omega) hu (fun j h1 h2=>by rw [List.size_toArray] at h1; omega) ⟨.bl true,H,I,?_,q⟩
  show Value.bool _=Value.bool true
  congr 1
  exact List.all_eq_true.mpr fun _ _=>rfl
 | cons x0 xs0 =>
  rw [List.length_cons] at l1
  refine SeqAt.eq_list_lengthsAt pl.isList pl2.isList ?_ hu ⟨.bl false,H,I,rfl,q⟩
  rw [List.size_toArray,List.size_toArray]
  simp
  omega
theorem op_neN (hu:X.A.units < cLine):OpR X (compareOp .NotEq) (rEqN X.K true):=by
 intro pins s σ H x y v u Q I rx ry h
 obtain ⟨a,b,xs,e1,e2,hA,hB,q⟩:=h
 subst e1 e2
 obtain rfl:v=Value.ref a:=rx
 obtain rfl:u=Value.ref b:=ry
 obtain ⟨its,r,pl,hz⟩:=I.list hA
 obtain ⟨its2,r2,pl2,hz2⟩:=I.list hB
 have l1:=r.length
 have l2:=r2.length
 rw [List.length_nil] at l2
 cases xs with
 | nil =>
  rw [List.length_nil] at l1
  refine SeqAt.RcNeAt.lists (e:=fun _=>true) pl.isList pl2.isList (by rw [List.size_toArray,List.size_toArray]; omega) hu (fun j h1 h2=>by rw [List.size_toArray] at h1; omega) _ _ _ _ ⟨.bl false,H,I,?_,q⟩
  show Value.bool _=Value.bool false
  congr 1
  rw [show ((List.range its.toArray.size).all fun _=>true)=true from List.all_eq_true.mpr fun _ _=>rfl]
  rfl
 | cons x0 xs0 =>
  rw [List.length_cons] at l1
  refine SeqAt.RcNeAt.lists_lengths pl.isList pl2.isList ?_ hu _ _ _ _ ⟨.bl true,H,I,rfl,q⟩
  rw [List.size_toArray,List.size_toArray]
  simp
  omega
def rInP (K:PySem.W.Frag):R2:=fun x y H Q=>∃ (a l:Addr) (i z:Int) (as:List Addr) (ps:List (Int × Int)),x=.ref a∧y=.ref l∧H a=some (.tup [.int i,.int z])∧SqL K H l (as.map V.ref)∧as.length=ps.length ∧
 (∀ (k:Nat) (p:Addr) (v:Int × Int),as[k]?=some p→ps[k]?=some v→H p=some (.tup [.int v.1,.int v.2]))∧Q (.bl (ps.any fun v=>v.1 == i && v.2 == z)) H
theorem pair_eqAt {A:Around} {pins:List (Addr × Obj)} {σ:St} {H:Hp} {s:Shared} (I:Inv X pins σ H s) (hu:A.units < cLine) {p a:Addr} {i z j y:Int} (hp:H p=some (.tup [.int j,.int y])) (ha:H a=some (.tup [.int i,.int z])) :
  SeqAt.EqAt A s (.ref p) (.ref a) (j == i && y == z):=by
 by_cases hne:p=a
 ·subst hne
  rw [hp] at ha
  have h3:=Option.some.inj ha
  injection h3 with h4
  injection h4 with h5 h6
  injection h5 with h7
  injection h6 with h8 _
  injection h8 with h9
  subst h7 h9
  rw [show (j == j && y == y)=true by simp]
  exact SeqAt.EqAt.same _
 obtain ⟨us,r1,p1,_⟩:=I.tuple (SqT.of hp)
 obtain ⟨ws,r2,p2,_⟩:=I.tuple (SqT.of ha)
 obtain ⟨u1,u2,e1,q1,q2⟩:=vals2 r1
 obtain ⟨w1,w2,e2,q3,q4⟩:=vals2 r2
 subst e1 e2
 have rc:=SeqAt.RcAt.tuples (A:=A) (s:=s) (e:=fun k=>if k=0 then j == i else y == z) p1 p2 hu (fun k h1 h2=>by
  match k,h1,h2 with
  | 0,_,_=>exact eqAt_V q1 q3 rfl rfl
  | 1,_,_=>exact eqAt_V q2 q4 rfl rfl
  | k + 2,h1,_=>exact absurd h1 (by simp))
 have e:((List.range (min ([u1,u2].toArray.size) ([w1,w2].toArray.size))).all (fun k=>if k=0 then j == i else y == z) && ([u1,u2].toArray.size == [w1,w2].toArray.size))=(j == i && y == z):=by
  show ((List.range 2).all _ && _)=_
  simp [List.range_succ]
 rw [e] at rc
 exact SeqAt.EqAt.of_refs hne rc
theorem op_inP (hu:X.A.units + 1 < cLine):OpR X (compareOp .In) (rInP X.K):=by
 intro pins s σ H x y v u Q I rx ry h
 obtain ⟨a,l,i,z,as,ps,e1,e2,ha,hL,hlen,hall,q⟩:=h
 subst e1 e2
 obtain rfl:v=Value.ref a:=rx
 obtain rfl:u=Value.ref l:=ry
 obtain ⟨its,r,pl,hz⟩:=I.list hL
 have hu1:X.A.in1.units < cLine:=hu
 have l1:=r.length
 rw [List.length_map] at l1
 have ti:∀ k u,its[k]?=some u→∃ (p:Addr) (v:Int × Int),as[k]?=some p∧ps[k]?=some v∧u=Value.ref p∧H p=some (.tup [.int v.1,.int v.2]):=fun k u hk=>by
  obtain ⟨x,hx,p⟩:=r.at hk
  rw [List.getElem?_map] at hx
  cases e:as[k]? with
  | none=>rw [e] at hx; cases hx
  | some b =>
   rw [e] at hx
   have e3:V.ref b=x:=Option.some.inj hx
   subst e3
   have hk2:k < ps.length:=by
    have:=(List.getElem?_eq_some_iff.mp e).1
    omega
   have e4:ps[k]?=some ps[k]:=by simp [hk2]
   exact ⟨b,_,e,e4,p,hall k b _ e e4⟩
 let f:Value→Bool:=fun w=>@decide (∃ p,w=Value.ref p∧H p=some (.tup [.int i,.int z])) (Classical.propDecidable _)
 have fv:∀ (p:Addr) (v:Int × Int),H p=some (.tup [.int v.1,.int v.2])→f (.ref p)=(v.1 == i && v.2 == z):=fun p v hp=>by
  by_cases c:v.1=i∧v.2=z
  ·have t1:f (.ref p)=true:=@decide_eq_true _ (Classical.propDecidable _) ⟨p,rfl,by rw [hp,c.1,c.2]⟩
   rw [t1]
   simp [c.1,c.2]
  ·have t1:f (.ref p)=false:=@decide_eq_false _ (Classical.propDecidable _) (by
    rintro ⟨p',e,h2⟩
    cases e
    rw [hp] at h2
    have h3:=Option.some.inj h2
    injection h3 with h4
    injection h4 with h5 h6
    injection h5 with h7
    injection h6 with h8 _
    injection h8 with h9
    exact c ⟨h7,h9⟩)
   rw [t1]
   symm
   rw [Bool.and_eq_false_iff]
   by_cases c1:v.1=i
   ·right
    simp
    exact fun c2=>c ⟨c1,c2⟩
   ·left
    simpa using c1
 refine SeqAt.in_listAt f pl.isList (fun w hw=>?_) ⟨.bl _,H,I,rfl,?_⟩
 ·obtain ⟨k,hk⟩:=List.getElem?_of_mem (show w ∈ its by simpa using hw)
  obtain ⟨p,v,_,_,e5,n2⟩:=ti k w hk
  subst e5
  rw [fv p v n2]
  exact pair_eqAt I hu1 n2 ha
 ·have e:its.toArray.any f=ps.any fun v=>v.1 == i && v.2 == z:=by
   rw [show its.toArray.any f=its.any f by simp]
   rw [Bool.eq_iff_iff,List.any_eq_true,List.any_eq_true]
   constructor
   ·rintro ⟨w,hw,hf⟩
    obtain ⟨k,hk⟩:=List.getElem?_of_mem hw
    obtain ⟨p,v,_,e4,e5,n2⟩:=ti k w hk
    subst e5
    rw [fv p v n2] at hf
    exact ⟨v,List.mem_of_getElem? e4,hf⟩
   ·rintro ⟨v,hv,hf⟩
    obtain ⟨k,hk⟩:=List.getElem?_of_mem hv
    have hk2:k < its.length:=by
     have:=(List.getElem?_eq_some_iff.mp hk).1
     omega
    obtain ⟨p,v',_,e4,e5,n2⟩:=ti k its[k] (by simp [hk2])
    rw [hk] at e4
    cases e4
    refine ⟨its[k],List.getElem_mem hk2,?_⟩
    rw [e5,fv p v n2]
    exact hf
  rw [e]
  exact q
end
theorem lex_irr:∀ l:List Int,HT.lexLt l l=false
 | []=>rfl
 | x :: l=>by rw [HT.lexLt_cons,if_pos rfl]; exact lex_irr l
theorem lex_trans:∀ {a b c:List Int},HT.lexLt a b=true→HT.lexLt b c=true→HT.lexLt a c=true
 | [],[],_,h,_=>by cases h
 | _ :: _,[],_,h,_=>by cases h
 | [],_ :: _,[],_,h=>by cases h
 | [],_ :: _,_ :: _,_,_=>rfl
 | _ :: _,_ :: _,[],_,h=>by cases h
 | x :: a,y :: b,z :: c,h1,h2=>by
  rw [HT.lexLt_cons] at h1 h2 ⊢
  by_cases e1:x=y
  ·rw [if_pos e1] at h1
   subst e1
   by_cases e2:x=z
   ·rw [if_pos e2] at h2 ⊢
    exact lex_trans h1 h2
   ·rw [if_neg e2] at h2 ⊢
    exact h2
  ·rw [if_neg e1] at h1
   have l1:=of_decide_eq_true h1
   by_cases e2:y=z
   ·rw [if_pos e2] at h2
    subst e2
    rw [if_neg e1]
    exact h1
   ·rw [if_neg e2] at h2
    have l2:=of_decide_eq_true h2
    rw [if_neg (by omega)]
    exact decide_eq_true (by omega)
theorem best_lex (t:Nat→List Int):∀ k,argBest (fun i j=>HT.lexLt (t i) (t j)) k ≤ k∧∀ j,j ≤ k→HT.lexLt (t j) (t (argBest (fun i j=>HT.lexLt (t i) (t j)) k))=false
 | 0=>⟨Nat.le_refl _,fun j hj=>by
  have e:j=0:=by omega
  subst e
  exact lex_irr _⟩
 | k + 1=>by
  obtain ⟨h1,h2⟩:=best_lex t k
  show (if HT.lexLt (t (k + 1)) (t (argBest _ k))=true then k + 1 else argBest _ k) ≤ k + 1∧∀ j,j ≤ k + 1→HT.lexLt (t j) (t (if HT.lexLt (t (k + 1)) (t (argBest _ k))=true then k + 1 else argBest _ k))=false
  by_cases c:HT.lexLt (t (k + 1)) (t (argBest (fun i j=>HT.lexLt (t i) (t j)) k))=true
  ·rw [if_pos c]
   refine ⟨Nat.le_refl _,fun j hj=>?_⟩
   by_cases e:j=k + 1
   ·subst e; exact lex_irr _
   ·cases q:HT.lexLt (t j) (t (k + 1)) with
    | false=>rfl
    | true =>
     have z:=lex_trans q c
     rw [h2 j (by omega)] at z
     cases z
  ·rw [if_neg c]
   refine ⟨by omega,fun j hj=>?_⟩
   by_cases e:j=k + 1
   ·subst e
    simpa using c
   ·exact h2 j (by omega)
section
variable {X:Cx}
def rMinT (K:PySem.W.Frag):List V→Hp→VK→Prop:=fun xs H Q=>∃ (p:Addr) (as:List Addr) (ts:List (List Int)),xs=[.ref p]∧SqL K H p (as.map V.ref)∧as.length=ts.length∧0 < as.length ∧
 (∀ (i:Nat) (a:Addr) (t:List Int),as[i]?=some a→ts[i]?=some t→H a=some (.tup (t.map V.int)))∧∀ (a:Addr) (t:List Int),t ∈ ts→H a=some (.tup (t.map V.int))→(∀ u ∈ ts,HT.lexLt u t=false)→Q (.ref a) H
theorem call_minT (hc:X.calm=true) (hu:X.A.units + 1 < cLine):CallR X (.builtin "min") (rMinT X.K):=by
 intro pins s σ H xs us Q I r h
 obtain ⟨p,as,ts,e1,hS,hlen,hn,hall,q⟩:=h
 subst e1
 obtain ⟨u,e2,ru⟩:=vals1 r
 subst e2
 obtain rfl:u=Value.ref p:=ru
 obtain ⟨its,rv,pl,hz⟩:=I.list hS
 have hu1:X.A.in1.units < cLine:=hu
 have hL:=pl.isList
 have l1:=rv.length
 rw [List.length_map] at l1
 have lt:p < s.heap.objs.size:=by
  obtain ⟨_,e,_⟩:=hL
  exact Heap.lt_size e
 let tt:Nat→List Int:=fun i=>(ts[i]?).getD []
 let Ok:Heap→Prop:=fun h=>∀ (i:Nat) (a:Addr) (t:List Int),as[i]?=some a→ts[i]?=some t→∃ ws:List Value,IsTup h a ws.toArray∧IntsAre ws t
 have ok0:∀ h:Heap,(∀ b o,s.heap.get? b=some o→h.get? b=some o)→Ok h:=fun h k i a t e1 e2=>by
  obtain ⟨ws,r1,⟨o,ho,hc2,n,hd⟩,_⟩:=I.tuple (SqT.of (hall i a t e1 e2))
  exact ⟨ws,⟨o,k _ _ ho,hc2,n,hd⟩,intsAre_of r1⟩
 have ati:∀ (i:Nat) (v:Value),its.toArray[i]?=some v→∃ (a:Addr) (t:List Int),as[i]?=some a∧ts[i]?=some t∧v=Value.ref a:=fun i v hv=>by
  obtain ⟨x,hx,pp⟩:=rv.at (show its[i]?=some v by simpa using hv)
  rw [List.getElem?_map] at hx
  cases e:as[i]? with
  | none=>rw [e] at hx; cases hx
  | some b =>
   rw [e] at hx
   have e3:V.ref b=x:=Option.some.inj hx
   subst e3
   have hk2:i < ts.length:=by
    have:=(List.getElem?_eq_some_iff.mp e).1
    omega
   exact ⟨b,ts[i],rfl,by simp [hk2],pp⟩
 refine minAt_call (wpAny_pyIter_list hL ?_)
 have kp0:∀ b o,s.heap.get? b=some o→(s.heap.push { cls:=.type "list_iterator",data:=.fields #[.ref p,rawInt 0] }).get? b=some o:=fun b o e=>Heap.get?_push_of_some _ e
 refine ⟨s.heap.objs.size,[s.heap.objs.size,p],[s.heap.objs.size],its.toArray.size,_,_,fun i j=>HT.lexLt (tt i) (tt j),Ok,rfl,Walks.list (A:=X.A.in1) (I.ok.hd hc) _ p (Nat.ne_of_lt lt) its.toArray,
  ⟨⟨_,Heap.get?_push_size _ rfl,rfl,rfl⟩,hL.push _⟩,fun b hb=>?_,by rw [List.size_toArray,← l1]; exact hn,fun i j vi vj s' Q' E' okk pi pj hQ=>?_,ok0 _ (fun b o e=>Heap.get?_push_of_some _ e),fun h h' o1 kp i a t e1 e2=>?_,fun v h' tk hP hk=>?_⟩
 ·show b < (s.heap.push _).objs.size
  rw [Heap.size_push]
  rcases List.mem_cons.mp hb with z | z
  ·exact z ▸ Nat.lt_succ_self _
  ·exact List.mem_singleton.mp z ▸ Nat.lt_succ_of_lt lt
 ·obtain ⟨a,t,e1,e2,e3⟩:=ati i vi pi
  obtain ⟨b,t',e4,e5,e6⟩:=ati j vj pj
  subst e3 e6
  obtain ⟨ws,w1,w2⟩:=okk i a t e1 e2
  obtain ⟨zs,w3,w4⟩:=okk j b t' e4 e5
  have et:tt i=t:=by show (ts[i]?).getD []=t; rw [e2]; rfl
  have et':tt j=t':=by show (ts[j]?).getD []=t'; rw [e5]; rfl
  have hQ:Q' (Value.bool (HT.lexLt (tt i) (tt j))) s':=hQ
  rw [et,et'] at hQ
  exact (HT.lt_tupInts (E:=E') w1 w3 w2 w4 hu1 hQ:wpAny (model X.prog X.w) X.A.in1 (compareOp .Lt (.ref a) (.ref b)) Q' E' s')
 ·obtain ⟨ws,⟨o,ho,hc2,n,hd⟩,w2⟩:=o1 i a t e1 e2
  have ha:a < s.heap.objs.size:=by
   obtain ⟨_,_,⟨o',ho',_⟩,_⟩:=I.tuple (SqT.of (hall i a t e1 e2))
   exact Heap.lt_size ho'
  refine ⟨ws,⟨o,kp a o (fun hm=>?_) ?_ ho,hc2,n,hd⟩,w2⟩
  ·rw [List.mem_singleton.mp hm] at ha; exact absurd ha (Nat.lt_irrefl _)
  ·show a < (s.heap.push _).objs.size
   rw [Heap.size_push]; exact Nat.lt_succ_of_lt ha
 ·obtain ⟨a,t,e1,e2,e3⟩:=ati _ v hP
  subst e3
  obtain ⟨b1,b2⟩:=best_lex tt (its.toArray.size - 1)
  refine ⟨.ref a,H,I.kept (t':=tk) fun b o eb=>hk b o (fun hm=>?_) (Heap.get?_push_of_some _ eb),rfl,q a t (List.mem_of_getElem? e2) (hall _ a t e1 e2) fun u hu2=>?_⟩
  ·rw [List.mem_singleton.mp hm] at eb
   exact Nat.lt_irrefl _ (Heap.lt_size eb)
  ·obtain ⟨k,hk2⟩:=List.getElem?_of_mem hu2
   have hk3:k < ts.length:=(List.getElem?_eq_some_iff.mp hk2).1
   have z:=b2 k (by rw [List.size_toArray]; omega)
   have et:tt k=u:=by show (ts[k]?).getD []=u; rw [hk2]; rfl
   have et':tt (argBest (fun i j=>HT.lexLt (tt i) (tt j)) (its.toArray.size - 1))=t:=by show (ts[_]?).getD []=t; rw [e2]; rfl
   rw [et,et'] at z
   exact z
end
end L2
namespace L2
open PySem PySem.Spec PyProof.Rows
section
variable {κ:Type} [DecidableEq κ]
def valV (kvs:List (κ × V)) (k:κ):Option V:=(kvs.find? fun kv=>decide (kv.1=k)).map (·.2)
def putK (kvs:List (κ × V)) (k:κ) (v:V):List (κ × V) :=
 if (kvs.any fun kv=>decide (kv.1=k))=true then kvs.map (fun kv=>if kv.1=k then (kv.1,v) else kv) else kvs ++ [(k,v)]
theorem valV_pos {p:κ × V} {r:List (κ × V)} {k:κ} (e:p.1=k):valV (p :: r) k=some p.2:=by simp [valV,List.find?_cons,e]
theorem valV_neg {p:κ × V} {r:List (κ × V)} {k:κ} (e:¬ p.1=k):valV (p :: r) k=valV r k:=by simp [valV,List.find?_cons,e]
theorem valV_any (k:κ):∀ kvs:List (κ × V),(kvs.any fun kv=>decide (kv.1=k))=(valV kvs k).isSome
 | []=>rfl
 | p :: r=>by
  rw [List.any_cons]
  by_cases e:p.1=k
  ·simp only [valV_pos e,decide_eq_true e,Bool.true_or,Option.isSome_some]
  ·rw [valV_neg e,decide_eq_false e,Bool.false_or]; exact valV_any k r
theorem valV_map (k j:κ) (y:V):∀ kvs:List (κ × V),valV (kvs.map fun kv=>if kv.1=k then (kv.1,y) else kv) j=(valV kvs j).map fun x=>if j=k then y else x
 | []=>rfl
 | p :: r=>by
  have ih:=valV_map k j y r
  rw [List.map_cons]
  by_cases h:p.1=k
  ·rw [if_pos h]
   by_cases e:p.1=j
   ·rw [valV_pos (p:=(p.1,y)) e,valV_pos e,Option.map_some,if_pos (e.symm.trans h)]
   ·rw [valV_neg (p:=(p.1,y)) e,valV_neg e,ih]
  ·rw [if_neg h]
   by_cases e:p.1=j
   ·rw [valV_pos (p:=p) e,valV_pos e,Option.map_some,if_neg (fun z=>h (e.trans z))]
   ·rw [valV_neg (p:=p) e,valV_neg e,ih]
theorem valV_snoc (k j:κ) (y:V):∀ kvs:List (κ × V),valV kvs k=none→valV (kvs ++ [(k,y)]) j=if j=k then some y else valV kvs j
 | [],_=>by
  by_cases e:k=j
  ·rw [if_pos e.symm]; exact valV_pos (p:=(k,y)) e
  ·rw [if_neg (fun z=>e z.symm)]; exact valV_neg (p:=(k,y)) e
 | p :: r,hn=>by
  rw [List.cons_append]
  have hk:¬ p.1=k:=fun z=>by rw [valV_pos z] at hn; cases hn
  rw [valV_neg hk] at hn
  have ih:=valV_snoc k j y r hn
  by_cases e:p.1=j
  ·rw [valV_pos e,valV_pos e,if_neg (fun z=>hk (e.trans z))]
  ·rw [valV_neg e,valV_neg e,ih]
theorem valV_put (kvs:List (κ × V)) (k j:κ) (y:V):valV (putK kvs k y) j=if j=k then some y else valV kvs j:=by
 unfold putK
 by_cases a:(kvs.any fun kv=>decide (kv.1=k))=true
 ·rw [if_pos a,valV_map]
  rw [valV_any] at a
  by_cases e:j=k
  ·obtain ⟨x,hx⟩:=Option.isSome_iff_exists.mp a
   rw [if_pos e,e,hx,Option.map_some,if_pos rfl]
  ·rw [if_neg e]
   cases valV kvs j with
   | none=>rfl
   | some x=>rw [Option.map_some,if_neg e]
 ·rw [if_neg a]
  refine valV_snoc k j y kvs ?_
  rw [valV_any] at a
  cases q:valV kvs k with
  | none=>rfl
  | some x=>rw [q] at a; exact (a rfl).elim
theorem length_putK (kvs:List (κ × V)) (k:κ) (v:V):(putK kvs k v).length ≤ kvs.length + 1:=by
 unfold putK
 split
 ·rw [List.length_map]; omega
 ·rw [List.length_append,List.length_cons,List.length_nil]; omega
theorem RelO.isSome_eq {o:Option V} {u:Option Value} (r:RelO o u):o.isSome=u.isSome:=by
 cases o with
 | none=>cases u with
  | none=>rfl
  | some _=>exact (show False from r).elim
 | some _=>cases u with
  | none=>exact (show False from r).elim
  | some _=>rfl
theorem RelO.getD {o:Option V} {u:Option Value} {d:V} {d':Value} (r:RelO o u) (rd:RelV d d'):RelV (o.getD d) (u.getD d'):=by
 cases o with
 | none=>cases u with
  | none=>exact rd
  | some _=>exact (show False from r).elim
 | some _=>cases u with
  | none=>exact (show False from r).elim
  | some _=>exact r
theorem KV.val {kvs:List (κ × V)} {vs:List (κ × Value)} (r:KV kvs vs) (k:κ):RelO (valV kvs k) (valueAt vs k):=by
 unfold KV at r
 induction r with
 | nil=>exact True.intro
 | @cons p q ps qs h t ih =>
  obtain ⟨h1,h2⟩:=h
  by_cases e:p.1=k
  ·have e':q.1=k:=h1.symm.trans e
   have b:valueAt (q :: qs) k=some q.2:=by simp [valueAt,List.find?_cons,e']
   rw [valV_pos e,b]; exact h2
  ·have e':¬ q.1=k:=fun z=>e (h1.trans z)
   have b:valueAt (q :: qs) k=valueAt qs k:=by simp [valueAt,List.find?_cons,e']
   rw [valV_neg e,b]; exact ih
theorem KV.any {kvs:List (κ × V)} {vs:List (κ × Value)} (r:KV kvs vs) (k:κ):(kvs.any fun kv=>decide (kv.1=k))=vs.any fun kv=>decide (kv.1=k):=by
 unfold KV at r
 induction r with
 | nil=>rfl
 | cons h t ih=>rw [List.any_cons,List.any_cons,ih,h.1]
theorem KV.repl {kvs:List (κ × V)} {vs:List (κ × Value)} (r:KV kvs vs) (k:κ) {y:V} {u:Value} (ry:RelV y u) :
  KV (kvs.map fun kv=>if kv.1=k then (kv.1,y) else kv) (vs.map fun kv=>if kv.1=k then (kv.1,u) else kv):=by
 unfold KV at r ⊢
 induction r with
 | nil=>exact .nil
 | @cons p q ps qs h t ih =>
  rw [List.map_cons,List.map_cons]
  refine .cons ?_ ih
  obtain ⟨h1,h2⟩:=h
  by_cases e:p.1=k
  ·rw [if_pos e,if_pos (h1.symm.trans e)]; exact ⟨h1,ry⟩
  ·rw [if_neg e,if_neg (fun z=>e (h1.trans z))]; exact ⟨h1,h2⟩
theorem KV.put {kvs:List (κ × V)} {vs:List (κ × Value)} (r:KV kvs vs) (k:κ) {y:V} {u:Value} (ry:RelV y u):KV (putK kvs k y) (stored vs k u):=by
 unfold putK stored
 rw [r.any k]
 by_cases e:(vs.any fun kv=>decide (kv.1=k))=true
 ·rw [if_pos e,if_pos e]; exact r.repl k ry
 ·rw [if_neg e,if_neg e]; exact Paired.snoc r ⟨rfl,ry⟩
theorem KV.length {kvs:List (κ × V)} {vs:List (κ × Value)} (r:KV kvs vs):kvs.length=vs.length:=Paired.length r
end
theorem kV_is {P:Program} {w:World} {k:Key} {u:Value} (r:RelV (kV k) u):(mixKind P w).is k u=true:=by
 cases k with
 | inl i=>obtain ⟨t,e⟩:=(show ∃ t,u=Value.int i t from r); subst e; exact mixKind_int P w i t
 | inr x=>obtain ⟨t,e⟩:=(show ∃ t,u=Value.str x t from r); subst e; exact mixKind_str P w x t
theorem items_are {P:Program} {w:World}:∀ {ks:List Key} {us:List Value},Vals (ks.map kV) us→ItemsAre (mixKind P w) ks us
 | [],_,r=>by rw [List.map_nil] at r; cases r; exact .nil
 | k :: ks,_,r=>by
  rw [List.map_cons] at r
  cases r with
  | cons h t=>exact .cons (kV_is h) (items_are t)
abbrev KT (H:Hp):List (List Key × V)→List (List Key × Addr × Value)→Prop:=Paired fun p q=>p.1=q.1∧H q.2.1=some (.tup (p.1.map kV))∧RelV p.2 q.2.2
theorem KT.val {H:Hp} {kvs:List (List Key × V)} {xs:List (List Key × Addr × Value)} (r:KT H kvs xs) (k:List Key):RelO (valV kvs k) ((atKey xs k).map (·.2)):=by
 induction r with
 | nil=>exact True.intro
 | @cons p q ps qs h t ih =>
  obtain ⟨h1,_,h2⟩:=h
  by_cases e:p.1=k
  ·have e':q.1=k:=h1.symm.trans e
   have b:atKey (q :: qs) k=some q.2:=by simp [atKey,List.find?_cons,e']
   rw [valV_pos e,b]; exact h2
  ·have e':¬ q.1=k:=fun z=>e (h1.trans z)
   have b:atKey (q :: qs) k=atKey qs k:=by simp [atKey,List.find?_cons,e']
   rw [valV_neg e,b]; exact ih
theorem KT.repl {H:Hp} {kvs:List (List Key × V)} {xs:List (List Key × Addr × Value)} (r:KT H kvs xs) (k:List Key) {y:V} {u:Value} (ry:RelV y u) :
  KT H (kvs.map fun kv=>if kv.1=k then (kv.1,y) else kv) (xs.map (putAt k u)):=by
 induction r with
 | nil=>exact .nil
 | @cons p q ps qs h t ih =>
  rw [List.map_cons,List.map_cons]
  refine .cons ?_ ih
  obtain ⟨h1,h2,h3⟩:=h
  unfold putAt
  by_cases e:p.1=k
  ·rw [if_pos e,if_pos (h1.symm.trans e)]; exact ⟨h1,h2,ry⟩
  ·rw [if_neg e,if_neg (fun z=>e (h1.trans z))]; exact ⟨h1,h2,h3⟩
theorem KT.put {H:Hp} {kvs:List (List Key × V)} {xs:List (List Key × Addr × Value)} (r:KT H kvs xs) (k:List Key) {b:Addr} {y:V} {u:Value} (hb:H b=some (.tup (k.map kV))) (ry:RelV y u) :
  KT H (putK kvs k y) (storedH xs k b u):=by
 have e:(kvs.any fun kv=>decide (kv.1=k))=(atKey xs k).isSome:=by
  rw [valV_any,(r.val k).isSome_eq,Option.isSome_map]
 unfold putK storedH
 rw [e]
 by_cases q:(atKey xs k).isSome=true
 ·rw [if_pos q,if_pos q]; exact r.repl k ry
 ·rw [if_neg q,if_neg q]; exact Paired.snoc r ⟨rfl,hb,ry⟩
theorem KT.keeps {H H':Hp} {kvs:List (List Key × V)} {xs:List (List Key × Addr × Value)} (r:KT H kvs xs) (ht:∀ b ys,H b=some (.tup ys)→H' b=some (.tup ys)):KT H' kvs xs :=
 Paired.mapP r fun _ _ z=>⟨z.1,ht _ _ z.2.1,z.2.2⟩
section
variable {P:Program} {w:World} {H:Hp} {h:Heap} {a:Addr}
theorem rd_of {u:HO} (ok:HOk P w H h) (e:Rd H a u):ObjOk P w H h a u:=e.ok ok
theorem dk_rd {kvs:List (Key × V)} (ok:HOk P w H h) (e:Rd H a (.dK kvs)):kvs.length ≤ sizeLine∧(a == sysModules)=false∧∃ vs,KV kvs vs∧h.DictOf (mixKind P w) a vs :=
 show ObjOk P w H h a (.dK kvs) from rd_of ok e
theorem dk_of {kvs:List (Key × V)} (ok:HOk P w H h) (e:H a=some (.dK kvs)):kvs.length ≤ sizeLine∧(a == sysModules)=false∧∃ vs,KV kvs vs∧h.DictOf (mixKind P w) a vs:=dk_rd ok (.inl e)
theorem key_of {ks:List Key} (ok:HOk P w H h) (e:H a=some (.tup (ks.map kV))):(tupleKind (mixKind P w)).is h ks a:=by
 obtain ⟨_,its,r,o,h1,h2,n,h3⟩:=(show ObjOk P w H h a (.tup (ks.map kV)) from ok a _ e)
 exact ⟨o,its.toArray,n,h1,h2,h3,by simpa using items_are r⟩
theorem dt_rd {kvs:List (List Key × V)} (ok:HOk P w H h) (e:Rd H a (.dT kvs)):kvs.length ≤ sizeLine∧(a == sysModules)=false ∧
  ∃ xs,KT H kvs xs∧h.DictOfH (tupleKind (mixKind P w)) a xs:=by
 obtain ⟨z,y,xs,r,o,es,ep,h1,h2,h3,h4,h5⟩:=(show ObjOk P w H h a (.dT kvs) from rd_of ok e)
 refine ⟨z,y,xs,r,o,es,ep,h1,h2,h3,h4,fun x hx=>?_,h5⟩
 have all:∀ {l:List (List Key × V)} {m:List (List Key × Addr × Value)},KT H l m→∀ x ∈ m,(tupleKind (mixKind P w)).is h x.1 x.2.1:=by
  intro l m q
  induction q with
  | nil=>intro x hx; exact nomatch hx
  | @cons p q ps qs hq t ih =>
   intro x hx
   rcases List.mem_cons.mp hx with e | hx
   ·subst e
    exact key_of ok (by rw [← hq.1]; exact hq.2.1)
   ·exact ih x hx
 exact all r x hx
theorem dt_of {kvs:List (List Key × V)} (ok:HOk P w H h) (e:H a=some (.dT kvs)):kvs.length ≤ sizeLine∧(a == sysModules)=false ∧
  ∃ xs,KT H kvs xs∧h.DictOfH (tupleKind (mixKind P w)) a xs:=dt_rd ok (.inl e)
end
def DGet (H:Hp) (a:Addr) (y:V) (r:Option V):Prop :=
 (∃ kvs k,Rd H a (.dK kvs)∧y=kV k∧r=valV kvs k) ∨ ∃ kvs k b,Rd H a (.dT kvs)∧y=.ref b∧H b=some (.tup (k.map kV))∧r=valV kvs k
def DPut (H:Hp) (a:Addr) (y v:V) (H':Hp):Prop :=
 (∃ kvs k,H a=some (.dK kvs)∧y=kV k∧kvs.length < sizeLine∧H'=upd H a (.dK (putK kvs k v))) ∨
 ∃ kvs k b,H a=some (.dT kvs)∧y=.ref b∧H b=some (.tup (k.map kV))∧kvs.length < sizeLine∧H'=upd H a (.dT (putK kvs k v))
theorem DGet.k {H:Hp} {a:Addr} {kvs:List (Key × V)} {k:Key} (e:H a=some (.dK kvs)):DGet H a (kV k) (valV kvs k):=.inl ⟨kvs,k,.inl e,rfl,rfl⟩
theorem DPut.k {H:Hp} {a:Addr} {kvs:List (Key × V)} {k:Key} {v:V} (e:H a=some (.dK kvs)) (hl:kvs.length < sizeLine):DPut H a (kV k) v (upd H a (.dK (putK kvs k v))):=.inl ⟨kvs,k,e,rfl,hl,rfl⟩
section
variable {X:Cx} {pins:List (Addr × Obj)} {σ:St} {H:Hp} {s:Shared} {a:Addr} {y v:V} {u r:Value} {o:Option V} {A:Around} {E:Value→Shared→Prop}
theorem Inv.big (I:Inv X pins σ H s):sysModules < s.heap.objs.size:=by
 have h:mainGlobals < s.heap.objs.size:=(I.mod.glob.keeps I.bk).lt
 exact Nat.lt_trans (by decide) h
theorem d_write {h':Heap} {t':Nat} {ob:HO} (I:Inv X pins σ H s) (mu:Mut (H a)) (hs:Heap.SameBut a s.heap h') (he:∃ q,h'.get? a=some q) (new:ObjOk X.prog X.w (upd H a ob) h' a ob) :
  Inv X pins σ (upd H a ob) { s with heap:=h',toks:=t' } :=
 I.write (x:=a) (e:=a) mu (.inl rfl) (fun b q hb z=>(hs.2 b hb).trans z) he new
theorem dk_new {P:Program} {w:World} {H':Hp} {h':Heap} {kvs:List (Key × V)} {vs:List (Key × Value)} (z:kvs.length ≤ sizeLine) (hd:(a == sysModules)=false) (rel:KV kvs vs) (dd:h'.DictOf (mixKind P w) a vs) :
  ObjOk P w H' h' a (.dK kvs):=⟨z,hd,vs,rel,dd⟩
theorem d_setItem {H':Hp} {Q:Unit→Shared→Prop} (hu:A.units + 1 < cLine) (I:Inv X pins σ H s) (g:DPut H a y v H') (ry:RelV y u) (rv:RelV v r) (h:∀ s',Inv X pins σ H' s'→Q () s') :
  wpAny (model X.prog X.w) A (setItem (.ref a) u r) Q E s:=by
 rcases g with ⟨kvs,k,e,ey,l,eH⟩ | ⟨kvs,k,b,e,ey,eb,l,eH⟩
 ·subst ey eH
  obtain ⟨z,hd,vs,rel,dd⟩:=dk_of I.hok e
  have hz:vs.length ≤ sizeLine:=by rw [← rel.length]; exact z
  have hl:(putK kvs k v).length ≤ sizeLine:=by have:=length_putK kvs k v; omega
  refine wpAny_setItem_pairs (hsz:=hz) (kV_is ry) dd fun h' dd' hs=>h _ ?_
  have he:∃ q,h'.get? a=some q:=let ⟨q,_,_,hq,_⟩:=dd'; ⟨q,hq⟩
  exact d_write I (by rw [e]; exact True.intro) hs he (dk_new hl hd (rel.put k rv) dd')
 ·subst ey eH
  cases (show u=Value.ref b from ry)
  obtain ⟨z,hd,xs,rel,dd⟩:=dt_of I.hok e
  have hz:xs.length ≤ sizeLine:=by rw [← Paired.length rel]; exact z
  have hl:(putK kvs k v).length ≤ sizeLine:=by have:=length_putK kvs k v; omega
  refine wpAny_setItem_heap (hsz:=hz) (tupleKind_room_in1 hu) (key_of I.hok eb) dd fun h' dd' hs=>h _ ?_
  obtain ⟨q,es,ep,hq,h2,h3,h4,_,h5⟩:=dd'
  refine d_write I (by rw [e]; exact True.intro) hs ⟨q,hq⟩ ⟨hl,hd,_,(rel.put k eb rv).keeps fun c ys ec=>?_,q,es,ep,hq,h2,h3,h4,h5⟩
  rw [upd_ne (ne_of ec e (fun z=>nomatch z))]
  exact ec
end
section
variable {X:Cx} {pins:List (Addr × Obj)} {σ:St} {H:Hp} {s:Shared} {a:Addr} {kvs:List (Key × V)} {k:Key} {u:Value} {A:Around} {E:Value→Shared→Prop}
end
def sDPut (td ty tv:TE):TS:=fun D σ H=>tv σ H fun v H1=>td σ H1 fun x H2=>ty σ H2 fun y H3=>∃ a H4,x=.ref a∧DPut H3 a y v H4∧D.nx σ H4
section
variable {X:Cx} {o i e value:Expr} {pos pos' tpos:Pos} {td ty tv:TE}
theorem ps_dput (hu:X.A.units + 1 < cLine) (ho:PE X o td) (hi:PE X i ty) (hv:PE X value tv) (hs:swapsWith value (some (.Subscript o i pos')) pos.line X.env=pure false) :
  PS X (.Assign [.Subscript o i pos'] value pos) (sDPut td ty tv):=by
 intro pins s σ H D I h
 refine wpAny_Assign_Subscript (thn (hv pins s σ H _ I h) fun r s1 ⟨v,H1,I1,rv,q1⟩=>thn (ho pins s1 σ H1 _ I1 q1) fun u s2 ⟨x,H2,I2,rx,q2⟩=>thn (hi pins s2 σ H2 _ I2 q2) fun iv s3 ⟨y,H3,I3,ry,a,H4,ex,g,q3⟩=>?_) hs
 subst ex
 obtain rfl:u=Value.ref a:=rx
 exact d_setItem hu I3 g ry rv fun s4 I4=>⟨σ,H4,I4,q3⟩
end
theorem dk_empty {P:Program} {w:World} {H:Hp} (h:Heap) (hb:sysModules < h.objs.size):ObjOk P w H (h.push { cls:=.type "dict",data:=.dict #[] }) h.objs.size (.dK []) :=
 ⟨Nat.zero_le _,beq_eq_false_iff_ne.mpr (Ne.symm (Nat.ne_of_lt hb)),[],.nil,Heap.DictOf.new h⟩
def tDNewK:TE:=fun _ H Q=>∀ p,H p=none→Q (.ref p) (upd H p (.dK []))
section
variable {X:Cx} {pos:Pos}
theorem pe_dnewK:PE X (.Dict [] [] pos) tDNewK:=fun pins s σ H Q I h =>
 wpAny_Dict_empty ⟨.ref s.heap.objs.size,_,I.laid (a:=s.heap.objs.size) (o:=.dK []) (t':=s.toks) (fun _ _ q=>Heap.get?_push_of_some _ q) (Nat.le_refl _) (dk_empty s.heap I.big),rfl,h _ (I.hok.fresh (Nat.le_refl _))⟩
end
structure M2 (X:Cx) (o:Expr) (m:Str) (apos:Pos) (e f:Expr) (cpos:Pos):Prop where
 base:attributeBase o m X.env (eval o X.env)=eval o X.env
 few:((backTo cpos (starEach [e,f] X.env)).all (fun x=>!x.1) && (backToKw cpos (keywordEach [] X.env)).all (fun x=>x.1.isSome)
  && decide (([e,f]:List Expr).length + ([]:List Keyword).length + (if ([]:List Keyword).isEmpty then 0 else 1) < 30))=true
 line:(apos.endLine == cpos.line)=true
 trees:backTo cpos (starEach [e,f] X.env)=[(false,eval e X.env),(false,eval f X.env)]
def IsD (H:Hp) (a:Addr):Prop:=(∃ kvs,Rd H a (.dK kvs)) ∨ ∃ kvs,Rd H a (.dT kvs)
theorem isD_at {X:Cx} {pins:List (Addr × Obj)} {σ:St} {H:Hp} {s:Shared} {a:Addr} (I:Inv X pins σ H s) (d:IsD H a) :
  s.TypeIs (.ref a) "dict"∧(∀ b,Value.ref a=.ref b→∃ ob,s.heap.get? b=some ob∧ob.dict=none)∧(a == sysModules)=false:=by
 rcases d with ⟨kvs,e⟩ | ⟨kvs,e⟩
 ·obtain ⟨_,hd,vs,_,dd⟩:=dk_rd I.hok e
  refine ⟨dd.typeIs,fun b q=>?_,hd⟩
  cases q
  obtain ⟨ob,_,_,h1,h2,_⟩:=dd
  exact ⟨ob,h1,h2.2.1⟩
 ·obtain ⟨_,hd,xs,_,dd⟩:=dt_rd I.hok e
  refine ⟨dd.typeIs,fun b q=>?_,hd⟩
  cases q
  obtain ⟨ob,_,_,h1,h2,_⟩:=dd
  exact ⟨ob,h1,h2.2.1⟩
section
variable {X:Cx} {pins:List (Addr × Obj)} {σ:St} {H:Hp} {s:Shared} {a:Addr} {y d:V} {u r:Value} {o:Option V} {A:Around} {E:Value→Shared→Prop}
theorem d_get2 {Q:Value→Shared→Prop} (hu:A.units + 1 < cLine) (I:Inv X pins σ H s) (g:DGet H a y o) (ry:RelV y u) (rd:RelV d r) (h:∀ w' s',Inv X pins σ H s'→RelV (o.getD d) w'→Q w' s') :
  wpAny (model X.prog X.w) A (call (.builtin "dict.get") [.ref a,u,r]) Q E s:=by
 rcases g with ⟨kvs,k,e,ey,l⟩ | ⟨kvs,k,b,e,ey,eb,l⟩
 ·subst ey
  obtain ⟨z,hd,vs,rel,dd⟩:=dk_rd I.hok e
  refine call_meetsIn PySem.F.slot_dict_get dd.typeIs PySem.F.entry_dict_get (PySem.F.args_dict_get_3 _ _ _) (meets_dict_get_default (mixKind X.prog X.w) a (kV_is ry) hd r) ⟨_,dd.mapOf,h _ _ (I.tok _) ?_⟩
  rw [l]
  exact (rel.val k).getD rd
 ·subst ey
  cases (show u=Value.ref b from ry)
  obtain ⟨z,hd,xs,rel,dd⟩:=dt_rd I.hok e
  refine call_meetsIn PySem.F.slot_dict_get dd.typeIs PySem.F.entry_dict_get (PySem.F.args_dict_get_3 _ _ _) (meetsH_dict_get_default (tupleKind (mixKind X.prog X.w)) a b hd r) ⟨tupleKind_room_in1 hu,k,xs,key_of I.hok eb,dd,h _ _ (I.tok _) ?_⟩
  rw [l]
  exact (rel.val k).getD rd
end
def tDGet2 (td ty tx:TE):TE:=fun σ H Q=>td σ H fun x H1=>∃ a,x=.ref a∧IsD H1 a∧ty σ H1 fun y H2=>tx σ H2 fun z H3=>∃ o,DGet H3 a y o∧Q (o.getD z) H3
section
variable {X:Cx} {o e f:Expr} {apos cpos:Pos} {td ty tx:TE}
theorem pe_dget2 (hu:X.A.units + 1 < cLine) (ho:PE X o td) (he:PE X e ty) (hf:PE X f tx) (m:M2 X o "get" apos e f cpos):PE X (.Call (.Attribute o "get" apos) [e,f] [] cpos) (tDGet2 td ty tx):=by
 intro pins s σ H Q I h
 refine wpAny_Call_method m.base m.few m.line PySem.F.plainAttrs_dict PySem.F.slot_dict_get PySem.F.type_dict_get (thn (ho pins s σ H _ I h) fun u s1 ⟨x,H1,I1,rx,a,ex,d,q1⟩=>?_)
 subst ex
 obtain rfl:u=Value.ref a:=rx
 obtain ⟨t1,t2,_⟩:=isD_at I1 d
 refine ⟨t1,t2,?_⟩
 rw [m.trees]
 refine Calls.callWith_builtin rfl (Calls.evalArgs_plain (Calls.spliced_cons (thn (he pins s1 σ H1 _ I1 q1) fun iv s2 ⟨y,H2,I2,ry,q2⟩ =>
  Calls.spliced_cons (thn (hf pins s2 σ H2 _ I2 q2) fun fv s3 ⟨z,H3,I3,rz,ov,g,q3⟩=>Calls.spliced_nil ?_))))
 exact d_get2 hu I3 g ry rz fun w' s4 I4 rw'=>⟨_,H3,I4,rw',q3⟩
end
section
variable {X:Cx} {pins:List (Addr × Obj)} {σ:St} {H:Hp} {s:Shared} {a:Addr} {kvs:List (Key × V)} {A:Around} {E:Value→Shared→Prop}
end
section
variable {X:Cx} {pins:List (Addr × Obj)} {σ:St} {H:Hp} {s:Shared} {a:Addr} {y:V} {u:Value} {A:Around} {E:Value→Shared→Prop}
end
end L2
namespace L2
open PySem
def XD (h:Heap) (e:Addr) (od:Option Addr):Prop:=∃ o,h.get? e=some o∧o.dict=od
theorem XD.push {h:Heap} {e:Addr} {od:Option Addr} (d:XD h e od) (o:Obj):XD (h.push o) e od:=by
 obtain ⟨u,hu,hd⟩:=d
 exact ⟨u,Heap.get?_push_of_some _ hu,hd⟩
theorem XD.upd {h:Heap} {e:Addr} {od:Option Addr} (d:XD h e od) (b:Addr) {f:Obj→Obj} (f1:∀ o,(f o).dict=o.dict) (f2:∀ o,o.isFreed=false→(f o).isFreed=false):XD (h.update b f) e od:=by
 obtain ⟨u,hu,hd⟩:=d
 by_cases q:b=e
 ·subst q
  exact ⟨f u,Heap.get?_update_self f hu (f2 u (Heap.get?_some_iff.mp hu).2),(f1 u).trans hd⟩
 ·exact ⟨u,by rw [Heap.get?_update_other _ _ q]; exact hu,hd⟩
theorem freed_map (g:Array Value→Array Value) (o:Obj) (h:o.isFreed=false):(o.mapFields g).isFreed=false:=by
 obtain ⟨c,d,dt,sl⟩:=o
 cases dt <;> first | rfl | exact h
theorem dict_map (g:Array Value→Array Value) (o:Obj):(o.mapFields g).dict=o.dict:=by
 obtain ⟨c,d,dt,sl⟩:=o
 cases dt <;> rfl
theorem freed_slots (o:Obj) (sl:Array (Option Value)) (h:o.isFreed=false):({ o with slots:=sl }:Obj).isFreed=false:=by
 obtain ⟨c,d,dt,s⟩:=o
 cases dt <;> first | rfl | exact h
structure KpD {α:Type} (t:Sem α):Prop where
 out:∀ (M:Model) (Γ:Ctx) (P:α→Pos→Shared→Prop) (Ee:Value→Pos→Shared→Prop) (p:Pos) (s:Shared) (e:Addr) (od:Option Addr),XD s.heap e od→Sem.wp M Γ t P Ee p s→Sem.wp M Γ t (fun a p' s'=>P a p' s'∧XD s'.heap e od) Ee p s
namespace KpD
variable {α β:Type}
theorem pure (a:α):KpD (Pure.pure a:Sem α):=⟨fun _ _ _ _ _ _ _ _ d h=>⟨h,d⟩⟩
theorem uns (w:String):KpD (PySem.unsupported w:Sem α):=⟨fun _ _ _ _ _ _ _ _ _ h=>h⟩
theorem bind {m:Sem α} {f:α→Sem β} (hm:KpD m) (hf:∀ a,KpD (f a)):KpD (m >>= f):=⟨fun M Γ P Ee p s e od d h=>by
 rw [Sem.wp_bind'] at h ⊢
 exact Sem.wp_mono M Γ m (fun a p' s' h'=>(hf a).out M Γ P Ee p' s' e od h'.2 h'.1) (fun _ _ _ x=>x) p s (hm.out M Γ _ Ee p s e od d h)⟩
theorem ite {c:Prop} [Decidable c] {t u:Sem α} (ht:KpD t) (hu:KpD u):KpD (if c then t else u):=by split <;> assumption
theorem load (a:Addr):KpD (PySem.load a):=⟨fun M Γ P Ee p s e od d h=>by
 unfold PySem.load at h ⊢
 rw [Sem.wp_load] at h ⊢
 obtain ⟨o,ho,h⟩:=h
 exact ⟨o,ho,by rw [Sem.wp_pure] at h ⊢; exact ⟨h,d⟩⟩⟩
theorem update (a:Addr) (f:Obj→Obj) (f1:∀ o,(f o).dict=o.dict) (f2:∀ o,o.isFreed=false→(f o).isFreed=false):KpD (PySem.update a f):=⟨fun M Γ P Ee p s e od d h=>by
 rw [Sem.wp_cmd_update] at h ⊢
 exact ⟨h.1,h.2,d.upd a f1 f2⟩⟩
theorem stack:KpD PySem.stack:=⟨fun M Γ P Ee p s e od d h=>by
 unfold PySem.stack at h ⊢
 rw [Sem.wp_stack] at h ⊢
 rw [Sem.wp_pure] at h ⊢
 exact ⟨h,d⟩⟩
theorem alloc (o:Obj):KpD (PySem.alloc o):=⟨fun M Γ P Ee p s e od d h=>by
 rw [Sem.wp_cmd_alloc] at h ⊢
 exact ⟨h,d.push o⟩⟩
theorem field (v:Value) (i:Nat):KpD (PySem.field v i):=⟨fun M Γ P Ee p s e od d h=>by
 rw [wp_field_iff] at h ⊢
 obtain ⟨a,o,vs,x,e1,e2,e3,e4,h⟩:=h
 exact ⟨a,o,vs,x,e1,e2,e3,e4,h,d⟩⟩
theorem setField (v:Value) (i:Nat) (x:Value):KpD (PySem.setField v i x):=⟨fun M Γ P Ee p s e od d h=>by
 rw [wp_setField_iff] at h ⊢
 obtain ⟨a,o,vs,e1,e2,e3,e4,h⟩:=h
 exact ⟨a,o,vs,e1,e2,e3,e4,h,d.upd a (dict_map _) (freed_map _)⟩⟩
end KpD
theorem kpd_import (env:Env) (outer:List Env):KpD (behindIsImport env outer):=by
 unfold behindIsImport
 (repeat' with_reducible first
  | assumption
  | exact KpD.pure _
  | exact KpD.uns _
  | exact KpD.field _ _
  | exact KpD.setField _ _ _
  | exact KpD.load _
  | exact KpD.stack
  | exact KpD.alloc _
  | exact KpD.update _ _ (fun _=>rfl) (fun o h=>freed_slots o _ h)
  | apply KpD.ite
  | apply KpD.bind
  | intro _
  | split)
theorem kpd_under:KpD underTheClaimsCaller:=by
 unfold underTheClaimsCaller
 (repeat' with_reducible first
  | assumption
  | exact KpD.pure _
  | exact KpD.uns _
  | exact KpD.field _ _
  | exact KpD.setField _ _ _
  | exact KpD.load _
  | exact KpD.stack
  | exact KpD.alloc _
  | exact KpD.update _ _ (fun _=>rfl) (fun o h=>freed_slots o _ h)
  | apply KpD.ite
  | apply KpD.bind
  | intro _
  | split)
theorem kpd_back (env:Env) (i:Bool) (l:List Env):KpD (keptBack env i l):=by
 have:=kpd_under
 cases l <;> unfold keptBack <;> (repeat' with_reducible first
  | assumption
  | exact KpD.pure _
  | exact KpD.uns _
  | exact KpD.field _ _
  | exact KpD.setField _ _ _
  | exact KpD.load _
  | exact KpD.stack
  | exact KpD.alloc _
  | exact KpD.update _ _ (fun _=>rfl) (fun o h=>freed_slots o _ h)
  | apply KpD.ite
  | apply KpD.bind
  | intro _
  | split)
theorem kpd_ready:∀ l:List Env,KpD (readyFrames l)
 | []=>KpD.pure _
 | env :: outer=>by
  have ih:=kpd_ready outer
  have h1:=kpd_import env outer
  have h2:=fun i=>kpd_back env i outer
  unfold readyFrames
  (repeat' with_reducible first
  | assumption
  | exact KpD.pure _
  | exact KpD.uns _
  | exact KpD.field _ _
  | exact KpD.setField _ _ _
  | exact KpD.load _
  | exact KpD.stack
  | exact KpD.alloc _
  | exact KpD.update _ _ (fun _=>rfl) (fun o h=>freed_slots o _ h)
  | apply KpD.ite
  | apply KpD.bind
  | intro _
  | split)
  all_goals first | exact h2 _ | skip
theorem kpd_frame (l:List Env):KpD (frameObject l):=by
 cases l with
 | nil=>exact KpD.pure _
 | cons env outer =>
  have:=kpd_ready (env :: outer)
  unfold frameObject
  (repeat' with_reducible first
  | assumption
  | exact KpD.pure _
  | exact KpD.uns _
  | exact KpD.field _ _
  | exact KpD.setField _ _ _
  | exact KpD.load _
  | exact KpD.stack
  | exact KpD.alloc _
  | exact KpD.update _ _ (fun _=>rfl) (fun o h=>freed_slots o _ h)
  | apply KpD.ite
  | apply KpD.bind
  | intro _
  | split)
theorem kpd_frameOf (env:Env):KpD (frameOf env):=by
 have h1:KpD frameEnvs:=by unfold frameEnvs; (repeat' with_reducible first
  | assumption
  | exact KpD.pure _
  | exact KpD.uns _
  | exact KpD.field _ _
  | exact KpD.setField _ _ _
  | exact KpD.load _
  | exact KpD.stack
  | exact KpD.alloc _
  | exact KpD.update _ _ (fun _=>rfl) (fun o h=>freed_slots o _ h)
  | apply KpD.ite
  | apply KpD.bind
  | intro _
  | split)
 have h2:=kpd_frame
 unfold frameOf
 (repeat' with_reducible first
  | assumption
  | exact KpD.pure _
  | exact KpD.uns _
  | exact KpD.field _ _
  | exact KpD.setField _ _ _
  | exact KpD.load _
  | exact KpD.stack
  | exact KpD.alloc _
  | exact KpD.update _ _ (fun _=>rfl) (fun o h=>freed_slots o _ h)
  | apply KpD.ite
  | apply KpD.bind
  | intro _
  | split)
 all_goals first | exact h2 _ | skip
theorem kpd_place (f:Addr) (b:Bool):KpD (entryPlaceOf f b):=by
 unfold entryPlaceOf
 (repeat' with_reducible first
  | assumption
  | exact KpD.pure _
  | exact KpD.uns _
  | exact KpD.field _ _
  | exact KpD.setField _ _ _
  | exact KpD.load _
  | exact KpD.stack
  | exact KpD.alloc _
  | exact KpD.update _ _ (fun _=>rfl) (fun o h=>freed_slots o _ h)
  | apply KpD.ite
  | apply KpD.bind
  | intro _
  | split)
theorem kpd_newFields (n:String) (l:List Value):KpD (newFields n l):=by
 unfold newFields newObj newObjAsIs
 (repeat' with_reducible first
  | assumption
  | exact KpD.pure _
  | exact KpD.uns _
  | exact KpD.field _ _
  | exact KpD.setField _ _ _
  | exact KpD.load _
  | exact KpD.stack
  | exact KpD.alloc _
  | exact KpD.update _ _ (fun _=>rfl) (fun o h=>freed_slots o _ h)
  | apply KpD.ite
  | apply KpD.bind
  | intro _
  | split)
theorem kpd_entry (a b c d f:Value) (l:List Value):KpD (EntryCells.newEntry a b c d f l):=kpd_newFields _ _
theorem kpd_note (e:Value) (env:Env):KpD (noteFrame e env):=by
 have h1:=kpd_frameOf env
 have h2:=kpd_place
 have h3:=kpd_entry
 unfold noteFrame
 (repeat' with_reducible first
  | assumption
  | exact KpD.pure _
  | exact KpD.uns _
  | exact KpD.field _ _
  | exact KpD.setField _ _ _
  | exact KpD.load _
  | exact KpD.stack
  | exact KpD.alloc _
  | exact KpD.update _ _ (fun _=>rfl) (fun o h=>freed_slots o _ h)
  | apply KpD.ite
  | apply KpD.bind
  | intro _
  | split)
 all_goals first | exact h2 _ _ | exact h3 _ _ _ _ _ _ | skip
theorem kpd_flight (e:Value) (f:Option Addr):KpD (setFlight e f):=by
 unfold setFlight
 (repeat' with_reducible first
  | assumption
  | exact KpD.pure _
  | exact KpD.uns _
  | exact KpD.field _ _
  | exact KpD.setField _ _ _
  | exact KpD.load _
  | exact KpD.stack
  | exact KpD.alloc _
  | exact KpD.update _ _ (fun _=>rfl) (fun o h=>freed_slots o _ h)
  | apply KpD.ite
  | apply KpD.bind
  | intro _
  | split)
theorem kpd_leaving (env:Env) (e:Value):KpD (leaving env e):=by
 have h1:=kpd_note e env
 have h2:=kpd_flight e none
 unfold leaving
 (repeat' with_reducible first
  | assumption
  | exact KpD.pure _
  | exact KpD.uns _
  | exact KpD.field _ _
  | exact KpD.setField _ _ _
  | exact KpD.load _
  | exact KpD.stack
  | exact KpD.alloc _
  | exact KpD.update _ _ (fun _=>rfl) (fun o h=>freed_slots o _ h)
  | apply KpD.ite
  | apply KpD.bind
  | intro _
  | split)
theorem wp_xd {α:Type} {M:Model} {A:Around} {t:Sem α} {Q:α→Shared→Prop} {E:Value→Shared→Prop} {s:Shared} {e:Addr} {od:Option Addr} (k:KpD t) (d:XD s.heap e od) (h:wpAny M A t Q E s) :
  wpAny M A t (fun a s'=>Q a s'∧XD s'.heap e od) E s:=fun Γ p hΓ=>k.out M Γ _ _ p s e od d (h Γ p hΓ)
end L2
namespace L2
open PySem
abbrev excObj (C t:Addr) (od:Option Addr):Obj:={ cls:=.ref C,dict:=od,data:=.fields #[.ref t,.none,.none,.none,.bool false,.none] }
abbrev tupObj (vs:List Value):Obj:={ cls:=.type "tuple",data:=.seq vs.toArray }
section
variable {prog:Program} {w:World} {A:Around} {E:Value→Shared→Prop} {h:Heap} {g:Array GenState} {d:Drawn} {t:Nat} {os:OsState}
variable {nm q:Str} {C N f:Addr} {bs bm bmB:List Value} {hdct:Bool} {sn:List Str} {sub:List Value} {ab:Bool} {col:Option Bool} {dd:Option Addr} {k0 k1 k2 k3 k5:Option Value} {B Bn newId nid initId inN:String} {bmN:List Value} {mN:Str→Option Value}
theorem bind_of {M:Model} {s:Shared} {oF:Obj} {self:Value} {Q:Value × List Value→Shared→Prop} (hf:s.heap.get? f=some oF) (hc:oF.cls=.type "function") (hq:Q (.ref f,[self]) s):wpAny M A (bindSpecial (.ref f) self) Q E s:=by
 unfold bindSpecial
 refine wpAny_bind (wpAny_typeOf ⟨_,hf,hc⟩ ?_)
 exact wpAny_of_eq (by kernel_rfl) hq
theorem tcall_own (Fn:ExcBaseFacts Bn newId inN bmN) (hBn:bmB.contains (.type Bn)=true) (F:ExcBaseFacts B nid initId bmB) (T:OwnTail h bmB bm) {vs:List Value} {oF:Obj} {Q:Fin→Shared→Prop}
  (hC:h.get? C=some (excClassObj nm q C N bs bm hdct sn sub ab col dd k0 k1 k2 k3 k5 newId)) (hn:h.Ns N mN) (hi:mN "__init__"=some (.ref f)) (hf:h.get? f=some oF) (hfc:oF.cls=.type "function")
  (hq:codeAny (model prog w) A (.call (.ref f) ⟨.ref (h.objs.size + 1) :: vs,[]⟩) (fun r s'=>match r with
   | .ok (.ret v)=>v=.none∧Q (.done (.ret (.ref (h.objs.size + 1)))) s'
   | .ok _=>False
   | .error e=>E e s') ⟨(h.push (tupObj vs)).push (excObj C h.objs.size none),g,d,t,os⟩) (hz:vs.length ≤ sizeLine) :
  wpAny (model prog w) A (Builtin.«type.__call__» ⟨.ref C :: vs,[]⟩) Q E ⟨h,g,d,t,os⟩:=by
 repeat (first | with_reducible refine wpAny_loadPart_at hC ?_ | with_reducible refine wpAny_madeBy_exc hC ?_ | wp_step)
 refine codeAny_call_builtin_code (Code.quiet_builtin _ Fn.quiet) (wpAny_check_new_subU Fn hBn T hC ?_)
 refine codeAny_exc_new_subU Fn hBn F T hC ?_ hz
 show wpAny _ _ _ _ _ _
 have kp:∀ b o,h.get? b=some o→((h.push (tupObj vs)).push (excObj C h.objs.size none)).get? b=some o:=fun b o e=>Heap.get?_push_of_some _ (Heap.get?_push_of_some _ e)
 have c1:=kp _ _ hC
 have n1:=hn.keeps kp
 have f1:=kp _ _ hf
 have x1:((h.push (tupObj vs)).push (excObj C h.objs.size none)).get? (h.objs.size + 1)=some (excObj C h.objs.size none):=by heap_get
 have cc:(Value.ref C :: bm).contains (.ref C)=true:=by simp
 have t1:=T.keeps kp
 unfold isInstance
 repeat (first | with_reducible refine wpAny_loadPart_at x1 ?_ | (with_reducible refine wpAny_isSubtype_exc c1 ?_; rw [cc]) | wp_step)
 show wpAny _ _ (typeLookup (.ref C) _) _ _ _
 refine wpAny_typeLookup_tail c1 n1 t1 F.mroIs F.init.lookup ?_
 rw [hi]
 refine wpAny_holding (wpAny_bind (bind_of f1 hfc ?_))
 refine wpAny_bind (wpAny_call (codeAny_mono hq fun r s' z=>?_))
 rcases r with e | (v | _ | _ | _) <;> first | exact z | exact z.elim | skip
 obtain ⟨rfl,z⟩:=z
 exact wpAny_pure (wpAny_pure z)
theorem call_own (Fn:ExcBaseFacts Bn newId inN bmN) (hBn:bmB.contains (.type Bn)=true) (F:ExcBaseFacts B nid initId bmB) (T:OwnTail h bmB bm) {vs:List Value} {oF:Obj} {Q:Value→Shared→Prop}
  (hC:h.get? C=some (excClassObj nm q C N bs bm hdct sn sub ab col dd k0 k1 k2 k3 k5 newId)) (hn:h.Ns N mN) (hi:mN "__init__"=some (.ref f)) (hf:h.get? f=some oF) (hfc:oF.cls=.type "function")
  (hq:codeAny (model prog w) (A.under (.builtin "type.__call__" ⟨.ref C :: vs,[]⟩)) (.call (.ref f) ⟨.ref (h.objs.size + 1) :: vs,[]⟩) (fun r s'=>match r with
   | .ok (.ret v)=>v=.none∧Q (.ref (h.objs.size + 1)) s'
   | .ok _=>False
   | .error e=>E e s') ⟨(h.push (tupObj vs)).push (excObj C h.objs.size none),g,d,t,os⟩) (hz:vs.length ≤ sizeLine) :
  wpAny (model prog w) A (call (.ref C) vs) Q E ⟨h,g,d,t,os⟩:=by
 have f1:=tc_lookup
 have f2:=tc_bind (.ref C)
 have ty:(⟨h,g,d,t,os⟩:Shared).TypeIs (.ref C) "type":=⟨_,hC,rfl⟩
 refine wpAny_call (codeAny_of_tree ?_)
 show wpAny _ _ (callAny (.ref C) _) _ _ _
 repeat (any_goals (first | assumption | with_reducible refine wpAny_loadPart_at hC ?_ | wp_step))
 refine ⟨rfl,codeAny_call_builtin_at (Code.quiet_builtin _ (by decide +kernel)) entry_typeCall (wpAny_check_type_call_sub hC (tcall_own Fn hBn F T hC hn hi hf hfc (codeAny_mono hq fun r s' z=>?_) hz))⟩
 rcases r with e | (v | _ | _ | _) <;> exact z
theorem raise_own {M:Model} {env:Env} {s:Shared} {x:Expr} {pos:Pos} {Q:Flow→Shared→Prop} (hbase:bm.contains (.type "BaseException")=true) (hh:A.handled=none)
  (h:wpAny M A (eval x env) (fun v s1=>∃ e t od,v=.ref e∧s1.heap.get? C=some (excClassObj nm q C N bs bm hdct sn sub ab col dd k0 k1 k2 k3 k5 newId)∧s1.heap.get? e=some (excObj C t od)∧E (.ref e) s1) E s) :
  wpAny M A (exec (.Raise (some x) none pos) env) Q E s:=by
 have cb:(Value.ref C :: bm).contains (.type "BaseException")=true:=by rw [List.contains_cons,hbase,Bool.or_true]
 show wpAny M A (do standAt pos; raiseStmt env (some (do let v ← eval x env; standAt pos; pure v)) none) Q E s
 refine wpAny_bind (wpAny_standAt ?_)
 unfold raiseStmt
 dsimp only
 refine wpAny_bind (wpAny_bind (wpAny_mono h (fun v s1 h1=>wpAny_bind (wpAny_standAt (wpAny_pure ?_))) fun _ _ z=>z))
 obtain ⟨e,t,od,rfl,hC,he,hE⟩:=h1
 obtain ⟨hp,g,d,tk,os⟩:=s1
 repeat (first | with_reducible refine wpAny_loadPart_at he ?_ | with_reducible refine wpAny_loadPart_at hC ?_ | (with_reducible refine wpAny_isSubtype_exc hC ?_; rw [cb]) | wp_step)
 exact wpAny_raiseNew_none hh hE
end
end L2
namespace L2
open PySem PySem.W PyProof.Rows Builtin Builtin.ObjectAttr
def offRefs:List Value→List Value
 | .ref _ :: r=>offRefs r
 | l=>l
theorem refuse_off (self:Value) (what:Str):∀ l:List Value,refuseLoop self what l=refuseLoop self what (offRefs l)
 | []=>rfl
 | v :: r=>by
  cases v with
  | ref c=>rw [refuseLoop_ref]; exact refuse_off self what r
  | _=>rfl
def onlyExc (l:List Value):Bool:=offRefs l == [.type "ValueError",.type "Exception",.type "BaseException",.type "object"]
theorem exc_pass (self:Value) {l:List Value} (e:onlyExc l=true):refuseLoop self "__setattr__" l=pure ():=by
 rw [refuse_off,beq_iff_eq.mp e]
 exact PySem.F.store_ValueError.passes self
def excOver (K:Frag) (C:Addr):Bool:=(clsIn K C).any fun cd=>onlyExc cd.mro && cd.hasDict && !cd.mro.isEmpty && cd.mro.contains (.type "object")
section
variable {prog:Program} {w:World} {A:Around} {K:Frag} {C x:Addr} {s:Shared} {R:Result→Shared→Prop}
theorem osa_exc {ox:Obj} {od:Option Obj} {name:Str} {tk:Tok} {v:Value} (X:K.In s.heap) (I:InstAt s.heap x ox C od) (hp:excOver K C=true) (hf:findIn K (.ref C) name=some none)
  (h:wpAny (model prog w) A.in1 (storeInOwnDict (.ref x) (.ref C) (.str name tk) name v false) (fun fin s'=>match fin with | .done f=>R (.ok f) s' | .again c'=>c'.quiet=true∧codeAny (model prog w) A c' R s') (fun e s'=>R (.error e) s') s) :
  codeAny (model prog w) A (.call (.builtin "object.__setattr__") ⟨[.ref x,.str name tk,v],[]⟩) R s:=by
 have SF:=PySem.F.store_object
 obtain ⟨cd,hc,ho⟩:=any_some hp
 simp only [Bool.and_eq_true,Bool.not_eq_true'] at ho
 obtain ⟨⟨⟨ho,hd⟩,ne⟩,ob⟩:=ho
 have sub:Looks (model prog w) s.heap (isInstance (.ref x) (.type "object")) true:=I.type.andThen (looks_mroIn X (by unfold mroIn; rw [hc,Option.bind_some,if_neg (by rw [ne]; decide),ob]))
 refine codeAny_call_builtin SF.slot.plain SF.entry (@check_slot (model prog w) _ _ s "object.__setattr__" "object" "__setattr__" (.ref x) [.str name tk,v] [] _ SF.kind SF.split sub (SF.args (.ref x) (.str name tk) v) ?_)
 have hm:Looks (model prog w) s.heap (mroOf (.ref C)) cd.mro:=(looks_clsIn X hc).andThen .now
 rw [osa_eq,refuse_eq]
 refine wpAny_bind (wpAny_bind (I.type.here (wpAny_bind (hm.here ?_))))
 rw [exc_pass _ ho]
 refine wpAny_pure (wpAny_bind (I.type.here (wpAny_bind ((looks_findIn X hf).here (wpAny_bind (wpAny_pure ?_))))))
 exact h
theorem set_exc {t:Addr} {name:Str} {v:Value} {E:Value→Shared→Prop} {Q:Unit→Shared→Prop} (X:K.In s.heap) (hx:s.heap.get? x=some (excObj C t none)) (hp:excOver K C=true) (hf:findIn K (.ref C) name=some none)
  (hs:findIn K (.ref C) "__setattr__"=some (some (.builtin "object.__setattr__")))
  (h:∀ h' tk,h'.get? x=some (excObj C t (some s.heap.objs.size))→h'.Ns1 s.heap.objs.size (fun y=>if y=name then some v else none)→(∀ b o,b ≠ x→s.heap.get? b=some o→h'.get? b=some o)→Q () { s with heap:=h',toks:=tk }) :
  wpAny (model prog w) A (setAttr (.ref x) name v) Q E s:=by
 have I:InstAt s.heap x (excObj C t none) C none:=⟨hx,rfl,rfl,True.intro⟩
 refine set_plain X I hs (osa_exc (s:={ s with toks:=s.toks + 1 }) X I hp hf ?_)
 obtain ⟨cd,hc,ho⟩:=any_some hp
 simp only [Bool.and_eq_true,Bool.not_eq_true'] at ho
 obtain ⟨⟨⟨ho,hd⟩,ne⟩,ob⟩:=ho
 refine wpAny_bind (wpAny_pure (wpAny_bind (wpAny_bind (wpAny_loadPart hx (wpAny_bind (Looks.here (s:={ s with toks:=s.toks + 1 }) (looks_clsIn X hc) ?_))))))
 rw [hd,if_neg (by decide)]
 show wpAny _ _ (if (!true || !typeHasDict (Value.ref C))=true then _ else _) _ _ _
 rw [if_neg (by simp [typeHasDict])]
 show wpAny _ _ (alloc { cls:=.type "dict",data:=.dict #[] } >>= fun d=>update x (fun o=>{ cls:=o.cls,dict:=some d,data:=o.data,slots:=o.slots }) >>= fun _=>dictMade (Value.ref C) x d) _ _ _
 have hxs:x ≠ s.heap.objs.size:=Nat.ne_of_lt (Heap.lt_size hx)
 have x1:(s.heap.push { cls:=.type "dict",data:=.dict #[] }).get? x=some (excObj C t none):=Heap.get?_push_of_some _ hx
 refine wpAny_bind (wpAny_alloc (wpAny_bind (wpAny_update x1 (wpAny_pure ?_))))
 have gd:((s.heap.push { cls:=.type "dict",data:=.dict #[] }).update x fun o=>{ cls:=o.cls,dict:=some s.heap.objs.size,data:=o.data,slots:=o.slots }).get? s.heap.objs.size=some { cls:=.type "dict",data:=.dict #[] } :=
  (Heap.get?_update_ne _ _ _ _ hxs.symm).trans (Heap.get?_push_at rfl rfl)
 have gn:((s.heap.push { cls:=.type "dict",data:=.dict #[] }).update x fun o=>{ cls:=o.cls,dict:=some s.heap.objs.size,data:=o.data,slots:=o.slots }).Ns s.heap.objs.size (fun _=>none) :=
  ⟨_,#[],_,gd,rfl,fun e he=>absurd he (by simp),fun _=>rfl⟩
 have gx:((s.heap.push { cls:=.type "dict",data:=.dict #[] }).update x fun o=>{ cls:=o.cls,dict:=some s.heap.objs.size,data:=o.data,slots:=o.slots }).get? x=some (excObj C t (some s.heap.objs.size)):=Heap.get?_update_self _ x1 rfl
 show wpAny _ _ (storeInDict s.heap.objs.size (.str name s.toks) name v) _ _ _
 unfold storeInDict newKeyGuard
 refine wpAny_bind (wpAny_pure (wpAny_bind (wpAny_nsSet1 (Heap.Ns1.of_empty gn) fun h' n1 sb=>?_)))
 obtain ⟨oD,esD,epD,hoD,hdD,hcD⟩:=n1.count (Within.cons name v Within.nil)
 refine wpAny_bind (wpAny_lookBehind hoD (by rw [hdD]; exact pastItsLine_dict (Nat.le_trans hcD (by rw [List.length_cons,List.length_nil,sizeLine_eq]; omega))) ?_)
 refine wpAny_pure (h h' _ ((sb.2 x hxs).trans gx) n1 fun b o hb e=>?_)
 exact (sb.2 b (Nat.ne_of_lt (Heap.lt_size e))).trans ((Heap.get?_update_ne _ _ _ _ hb).trans (Heap.get?_push_of_some _ e))
end
end L2
namespace L2
open PySem PySem.W PyProof.Rows Builtin Builtin.ObjectAttr
section
variable {prog:Program} {w:World} {A:Around} {E:Value→Shared→Prop} {s:Shared} {K:Frag} {x C:Addr} {ox:Obj} {od:Option Obj} {name:Str} {expr:Bool} {Q:Value→Shared→Prop}
end
end L2
namespace L2
open PySem PySem.W PyProof.Rows Builtin Builtin.ObjectAttr
section
variable {prog:Program} {w:World} {A:Around} {E:Value→Shared→Prop} {s:Shared} {K:Frag} {x C:Addr} {ox:Obj} {od:Option Obj} {Q:Option Value→Shared→Prop}
end
end L2
namespace L2
open PySem PySem.W PyProof.Rows Builtin Builtin.ObjectAttr
section
variable {M:Model} {A:Around} {E:Value→Shared→Prop} {s:Shared} {K:Frag} {e C D:Addr} {oe:Obj} {b:Bool} {Q:Bool→Shared→Prop}
end
end L2
namespace L2
open PySem PySem.Spec PyProof.Rows
theorem ObjOk.ex {P:Program} {w:World} {H:Hp} {h:Heap} {a:Addr} {o:HO} (x:ObjOk P w H h a o):∃ u,h.get? a=some u:=by
 cases o with
 | lst xs=>obtain ⟨_,_,_,_,e⟩:=x; exact ⟨_,e⟩
 | tup xs=>obtain ⟨_,_,_,o,e,_⟩:=x; exact ⟨_,e⟩
 | dK kvs=>obtain ⟨_,_,_,_,o,_,_,e,_⟩:=x; exact ⟨_,e⟩
 | dT kvs=>obtain ⟨_,_,_,_,o,_,_,e,_⟩:=x; exact ⟨_,e⟩
 | set S n=>obtain ⟨o,_,_,_,e,_⟩:=x; exact ⟨_,e⟩
 | ins C dx fs=>obtain ⟨_,_,_,e,_⟩:=x; exact ⟨_,e⟩
 | own y=>obtain ⟨_,e⟩:=x; exact ⟨_,e⟩
 | xd fs=>obtain ⟨_,⟨_,_,_,e,_⟩,_⟩:=x; exact ⟨_,e⟩
 | rng lo hi=>obtain ⟨_,_,_,e⟩:=x; exact ⟨_,e⟩
 | frz ob u=>obtain ⟨e,_⟩:=x; exact ⟨_,e⟩
 | tbl ps=>exact ⟨_,(show h.get? a=some _ from x)⟩
 | met f y=>exact ⟨_,(show h.get? a=some _ from x)⟩
 | ext φ=>obtain ⟨_,⟨_,e⟩,_⟩:=x; exact ⟨_,e⟩
def Fly (P:Program) (w:World):CXT:=fun outer H s E e s'=>∃ (a t:Addr) (cls:Value) (od:Option Addr) (B:Heap) (H':Hp),e=.ref a∧s'.os=s.os∧AllBare s'.gens∧Un (frs outer) [] H H' s.heap s'.heap∧HOk P w H' s'.heap ∧
 Heap.FlyingW B outer a cls (.ref t) s'.heap∧XD s'.heap a od∧H' a=none∧(∀ b o,H' b=some o→∀ ob,s'.heap.get? b=some ob→B.get? b=some ob)∧(∀ b ob,s.heap.get? b=some ob→b ∉ frs outer→∃ o2,B.get? b=some o2∧(H b=none→o2=ob))∧E cls od H'
theorem fly_un {H H':Hp} {h hs h2 B:Heap} {outer:List Env} (u:Un (frs outer) [] H H' h hs) (hl:hs.FunFrames B outer) (cov:∀ b ob,h.get? b=some ob→b ∉ frs outer→∃ o2,B.get? b=some o2∧(H b=none→o2=ob)) (kb:B.StaysIn h2) (us:hs.UpToSlots h2):Un (frs outer) [] H H' h h2 where
 keep:=fun b o q n hb _=>by
  obtain ⟨o2,e,z⟩:=cov b o q hb
  rw [← z n]
  exact kb b o2 e
 slot:=fun b o q n hb hx=>by
  obtain ⟨sl,e⟩:=u.slot b o q n hb hx
  obtain ⟨_,o',e',nf⟩:=hl.mem hb
  rw [e] at e'
  cases e'
  obtain ⟨sl',e2⟩:=us b _ e nf
  exact ⟨sl',e2⟩
 free:=u.free
 there:=fun b o q hx=>by
  by_cases hb:b ∈ frs outer
  ·obtain ⟨_,o',e',nf⟩:=hl.mem hb
   obtain ⟨sl',e2⟩:=us b _ e' nf
   exact ⟨_,e2⟩
  ·obtain ⟨o2,e,_⟩:=cov b o q hb
   exact ⟨o2,kb b o2 e⟩
 tups:=u.tups
 frzs:=u.frzs
 tbls:=u.tbls
theorem fly_hok {P:Program} {w:World} {H':Hp} {hs h2 B:Heap} (ok:HOk P w H' hs) (c1:∀ b o,H' b=some o→∀ ob,hs.get? b=some ob→B.get? b=some ob) (kb:B.StaysIn h2):HOk P w H' h2:=fun a o e =>
 (ok a o e).stay (fun b u hb q=>by
  rcases hb with z | z
  ·subst z
   exact kb _ _ (c1 _ _ e u q)
  ·exact kb _ _ (c1 _ _ z u q)) (fun _ q=>q) fun _ _ q=>q
theorem fly_cov {P:Program} {w:World} {H':Hp} {hs h2 B:Heap} (ok:HOk P w H' hs) (c1:∀ b o,H' b=some o→∀ ob,hs.get? b=some ob→B.get? b=some ob) (kb:B.StaysIn h2):∀ b o,H' b=some o→∀ ob,h2.get? b=some ob→B.get? b=some ob:=fun b o e ob q=>by
 obtain ⟨u,hu⟩:=(ok b o e).ex
 have z:=c1 b o e u hu
 rw [kb b u z] at q
 cases q
 exact z
section
variable {P:Program} {w:World} {K:PySem.W.Frag} {mg:Str→Option Value} {base:Heap} {N:List Str} {qual:Str} {scope:Scope} {f:Addr} {cd:Value} {A:Around} {outer:List Env} {s:Shared} {H:Hp} {E:XK}
theorem fly_out {pins:List (Addr × Obj)} {σ:St} {H1 H':Hp} {s1:Shared} {h2 B:Heap} {a t:Addr} {cls:Value} {od:Option Addr} {g2:Array GenState} {d2:Drawn} {t2:Nat}
  (J:Inv (cxOf (Fly P w) P w K mg base N qual scope f cd A outer s H E) pins σ H' ⟨h2,g2,d2,t2,s.os⟩) (fl:Heap.FlyingW B outer a cls (.ref t) h2) (xd:XD h2 a od) (na:H' a=none) (c1:∀ b o,H' b=some o→∀ ob,h2.get? b=some ob→B.get? b=some ob)
  (I:Inv (cxOf (Fly P w) P w K mg base N qual scope f cd A outer s H E) pins σ H1 s1) (c2:∀ b ob,s1.heap.get? b=some ob→b ∉ frs (cxOf (Fly P w) P w K mg base N qual scope f cd A outer s H E).stack→∃ o2,B.get? b=some o2∧(H1 b=none→o2=ob)) (q:E cls od H') :
  Fly P w outer H s E (.ref a) ⟨h2,g2,d2,t2,s.os⟩:=by
 refine ⟨a,t,cls,od,B,H',rfl,rfl,J.bare,J.base,J.hok,fl,xd,na,c1,fun b ob hb hf=>?_,q⟩
 have hlt:b ≠ (cxOf (Fly P w) P w K mg base N qual scope f cd A outer s H E).env.locals:=fun z=>by
  have h1:=Heap.lt_size hb
  have h2:=I.ok.above
  rw [z] at h1
  exact Nat.lt_irrefl _ (Nat.lt_of_lt_of_le h1 h2)
 have nst:b ∉ frs (cxOf (Fly P w) P w K mg base N qual scope f cd A outer s H E).stack:=fun z=>by
  rcases List.mem_cons.mp (I.stkSub b z) with y | y
  ·exact hlt y
  ·exact hf y
 obtain ⟨o',ho'⟩:=I.base.there b ob hb (by simp [cxOf])
 obtain ⟨o2,e2,z2⟩:=c2 b o' ho' nst
 refine ⟨o2,e2,fun hn=>?_⟩
 have k:=I.base.keep b ob hb hn hf (by simp [cxOf])
 rw [ho'] at k
 cases k
 exact z2 (I.base.free b ob hb hn (by simp [cxOf]))
theorem fly_pass {E1:XK} (imp:∀ c o H',E1 c o H'→E c o H'):Passes (Fly P w) (cxOf (Fly P w) P w K mg base N qual scope f cd A outer s H E) E1:=by
 intro pins σ H1 s1 e s' I h
 obtain ⟨a,t,cls,od,B,H',rfl,os,bare,un,hok,fl,xd,na,c1,c2,q⟩:=h
 have go:wpAny (model P w) (A.deeper (envOfC qual scope s.heap.objs.size f cd)) (leaving (envOfC qual scope s.heap.objs.size f cd) (.ref a))
   (fun _ s''=>∃ h2,s''={ s' with heap:=h2 }∧Heap.FlyingW B outer a cls (.ref t) h2∧s'.heap.UpToSlots h2) (fun _ _=>False) s' :=
  wpAny_leaves_onW (env:=envOfC qual scope s.heap.objs.size f cd) (outer:=outer) I.ok.frames rfl fl fun h2 f2 u2=>⟨h2,rfl,f2,u2⟩
 refine wpAny_mono (wp_xd (kpd_leaving _ _) xd go) (fun _ s'' hs=>?_) fun _ _ z=>z.elim
 obtain ⟨⟨h2,e2,fl2,us2⟩,xd2⟩:=hs
 subst e2
 obtain ⟨hp',g',d',t',os'⟩:=s'
 have J:=I.call' (s':=⟨h2,g',d',t',os'⟩) (ch:=[]) os (fly_un un fl.2.2.1 c2 fl2.1 us2) (fly_hok hok c1 fl2.1) bare (fun b z=>absurd z (by simp))
 have eo:os'=s.os:=J.os
 subst eo
 exact fly_out J fl2 xd2 na (fly_cov hok c1 fl2.1) I c2 (imp _ _ _ q)
theorem fly_made {pins:List (Addr × Obj)} {σ:St} {H1:Hp} {s1:Shared} {h2:Heap} {a:Addr} {cls:Value} {vs:List Value} (I:Inv (cxOf (Fly P w) P w K mg base N qual scope f cd A outer s H E) pins σ H1 s1) (hx:Heap.MadeExcOf s1.heap h2 a cls vs) (q:E cls none H1) :
  (cxOf (Fly P w) P w K mg base N qual scope f cd A outer s H E).xe (.ref a) { s1 with heap:=h2 }:=by
 have ff:=I.stack
 have hin:∀ env ∈ (cxOf (Fly P w) P w K mg base N qual scope f cd A outer s H E).stack,∀ b,env.frame=some b→b ∈ frs (cxOf (Fly P w) P w K mg base N qual scope f cd A outer s H E).stack:=fun env he b hb=>List.mem_filterMap.mpr ⟨env,he,hb⟩
 have ff2:=PySem.W.funFrames_hide (as:=frs (cxOf (Fly P w) P w K mg base N qual scope f cd A outer s H E).stack) ff hin
 have st:Heap.StaysIn (PySem.W.hideAll s1.heap (frs (cxOf (Fly P w) P w K mg base N qual scope f cd A outer s H E).stack)) s1.heap:=fun b o q=>PySem.W.of_hideAll _ q
 have na:H1 a=none:=by
  cases e:H1 a with
  | none=>rfl
  | some o =>
   obtain ⟨u,hu⟩:=(I.hok a o e).ex
   rw [hx.new] at hu
   cases hu
 have xd:XD h2 a none:=by
  obtain ⟨t,e,_⟩:=hx.there
  exact ⟨_,e,rfl⟩
 have go:wpAny (model P w) (A.deeper (envOfC qual scope s.heap.objs.size f cd)) (leaving (envOfC qual scope s.heap.objs.size f cd) (.ref a))
   (fun _ s''=>∃ h3 t,s''={ s1 with heap:=h3 }∧Heap.FlyingW (PySem.W.hideAll s1.heap (frs (cxOf (Fly P w) P w K mg base N qual scope f cd A outer s H E).stack)) outer a cls (.ref t) h3∧h2.UpToSlots h3) (fun _ _=>False) { s1 with heap:=h2 } :=
  wpAny_leaves_madeW (s:={ s1 with heap:=h2 }) (env:=envOfC qual scope s.heap.objs.size f cd) (outer:=outer) I.ok.frames rfl st ff2 hx fun h3 t f3 _ _ u3=>⟨h3,t,rfl,f3,u3⟩
 refine wpAny_mono (wp_xd (s:={ s1 with heap:=h2 }) (kpd_leaving _ _) xd go) (fun _ s'' hs=>?_) fun _ _ z=>z.elim
 obtain ⟨⟨h3,t,e3,fl3,us3⟩,xd3⟩:=hs
 subst e3
 obtain ⟨hp1,g1,d1,t1,os1⟩:=s1
 have cov:∀ b ob,hp1.get? b=some ob→b ∉ frs (cxOf (Fly P w) P w K mg base N qual scope f cd A outer s H E).stack→∃ o2,(PySem.W.hideAll hp1 (frs (cxOf (Fly P w) P w K mg base N qual scope f cd A outer s H E).stack)).get? b=some o2∧(H1 b=none→o2=ob):=fun b ob e nb=>⟨ob,PySem.W.hideAll_get _ e nb,fun _=>rfl⟩
 have un:Un (frs (cxOf (Fly P w) P w K mg base N qual scope f cd A outer s H E).stack) [] H1 H1 hp1 hp1:=Un.refl
 have us:Heap.UpToSlots hp1 h3:=fun b o e nf=>us3 b o (hx.keeps b o e) nf
 have c1:∀ b o,H1 b=some o→∀ ob,hp1.get? b=some ob→(PySem.W.hideAll hp1 (frs (cxOf (Fly P w) P w K mg base N qual scope f cd A outer s H E).stack)).get? b=some ob:=fun b o e ob eb=>PySem.W.hideAll_get _ eb fun z=>by
  rw [I.stkFree b z] at e
  cases e
 have J:=I.call' (s':=⟨h3,g1,d1,t1,os1⟩) (ch:=[]) rfl (fly_un un ff2 cov fl3.1 us) (fly_hok I.hok c1 fl3.1) I.bare (fun b z=>absurd z (by simp))
 have eo:os1=s.os:=J.os
 subst eo
 exact fly_out J fl3 xd3 na (fly_cov I.hok c1 fl3.1) I cov q
end
def xo (C a:Addr) (od:Option Addr):HO:=.ext fun h=>∃ t,h.get? a=some (excObj C t od)
def del (H:Hp) (a:Addr):Hp:=fun b=>if b=a then none else H b
theorem del_same {H:Hp} {a:Addr}:del H a a=none:=by unfold del; rw [if_pos rfl]
theorem del_ne {H:Hp} {a b:Addr} (h:b ≠ a):del H a b=H b:=by unfold del; rw [if_neg h]
theorem xo_ok {P:Program} {w:World} {H:Hp} {h:Heap} {C a t:Addr} {od:Option Addr} (e:h.get? a=some (excObj C t od)):ObjOk P w H h a (xo C a od):=⟨⟨t,e⟩,⟨_,e⟩,fun h1 h2 ⟨t',e'⟩ k=>⟨t',k _ e'⟩⟩
theorem xo_get {P:Program} {w:World} {H:Hp} {h:Heap} {C a:Addr} {od:Option Addr} (ok:HOk P w H h) (e:H a=some (xo C a od)):∃ t,h.get? a=some (excObj C t od):=(show ObjOk P w H h a (xo C a od) from ok a _ e).1
theorem Inv.drop {X:Cx} {pins:List (Addr × Obj)} {σ:St} {H:Hp} {s:Shared} {a:Addr} {φ:Heap→Prop} (I:Inv X pins σ H s) (hn:X.s₀.heap.objs.size ≤ a) (hx:H a=some (.ext φ)):Inv X pins σ (del H a) s:=by
 have ne:∀ {b:Addr} {o:HO},H b=some o→(∀ ψ,o ≠ .ext ψ)→b ≠ a:=fun {b o} e n z=>by
  rw [z,hx] at e
  exact n φ (Option.some.inj e).symm
 have non:∀ {b:Addr},H b=none→del H a b=none:=fun {b} e=>by
  by_cases z:b=a
  ·rw [z]; exact del_same
  ·rw [del_ne z]; exact e
 refine ⟨I.ok,I.os,I.bare,⟨I.base.keep,I.base.slot,fun b o q n hb=>non (I.base.free b o q n hb),I.base.there,fun b xs q=>?_,fun b o u q=>?_,fun b ps q=>?_⟩,I.loc,I.cell,non I.free,fun x c e=>non (I.freeC x c e),fun p hp=>?_,fun b o e=>?_,I.len⟩
 ·have z:=I.base.tups b xs q
  rw [del_ne (ne z fun ψ e=>by cases e)]
  exact z
 ·have z:=I.base.frzs b o u q
  rw [del_ne (ne z fun ψ e=>by cases e)]
  exact z
 ·obtain ⟨more,z⟩:=I.base.tbls b ps q
  exact ⟨more,by rw [del_ne (ne z fun ψ e=>by cases e)]; exact z⟩
 ·obtain ⟨p1,p2,p3,p4,p5⟩:=I.pin p hp
  exact ⟨p1,non p2,p3,p4,p5⟩
 ·have hb:b ≠ a:=fun z=>by rw [z,del_same] at e; cases e
  rw [del_ne hb] at e
  refine (I.hok b o e).stay (fun c u _ q=>q) (fun c q=>?_) fun c xs q=>?_
  ·rw [del_ne (ne q fun ψ e=>by cases e)]
   exact q
  ·rw [del_ne (ne q fun ψ e=>by cases e)]
   exact q
section
variable {P:Program} {w:World} {K:PySem.W.Frag} {mg:Str→Option Value} {base:Heap} {N:List Str} {qual:Str} {scope:Scope} {f:Addr} {cd:Value} {A:Around} {outer:List Env} {s:Shared} {H:Hp} {E:XK}
theorem fly_drop {pins:List (Addr × Obj)} {σ:St} {H1:Hp} {s1:Shared} {a C:Addr} {od:Option Addr} (I:Inv (cxOf (Fly P w) P w K mg base N qual scope f cd A outer s H E) pins σ H1 s1) (hs:s.heap.objs.size ≤ a) (ha:H1 a=some (xo C a od)) (q:E (.ref C) od (del H1 a)) :
  (cxOf (Fly P w) P w K mg base N qual scope f cd A outer s H E).xe (.ref a) s1:=by
 obtain ⟨t,et⟩:=xo_get I.hok ha
 have ID:=I.drop hs ha
 have nfa:a ∉ frs (cxOf (Fly P w) P w K mg base N qual scope f cd A outer s H E).stack:=fun z=>by
  rw [I.stkFree a z] at ha
  cases ha
 have ff:=I.stack
 have hin:∀ env ∈ (cxOf (Fly P w) P w K mg base N qual scope f cd A outer s H E).stack,∀ b,env.frame=some b→b ∈ a :: frs (cxOf (Fly P w) P w K mg base N qual scope f cd A outer s H E).stack:=fun env he b hb=>List.mem_cons_of_mem _ (List.mem_filterMap.mpr ⟨env,he,hb⟩)
 have ff2:=PySem.W.funFrames_hide (as:=a :: frs (cxOf (Fly P w) P w K mg base N qual scope f cd A outer s H E).stack) ff hin
 have st:Heap.StaysIn (PySem.W.hideAll s1.heap (a :: frs (cxOf (Fly P w) P w K mg base N qual scope f cd A outer s H E).stack)) s1.heap:=fun b o q=>PySem.W.of_hideAll _ q
 have hid:(PySem.W.hideAll s1.heap (a :: frs (cxOf (Fly P w) P w K mg base N qual scope f cd A outer s H E).stack)).get? a=none:=PySem.W.hideAll_none _ List.mem_cons_self
 have xd:XD s1.heap a od:=⟨_,et,rfl⟩
 have go:wpAny (model P w) (A.deeper (envOfC qual scope s.heap.objs.size f cd)) (leaving (envOfC qual scope s.heap.objs.size f cd) (.ref a))
   (fun _ s''=>∃ h3,s''={ s1 with heap:=h3 }∧Heap.LeftW (PySem.W.hideAll s1.heap (a :: frs (cxOf (Fly P w) P w K mg base N qual scope f cd A outer s H E).stack)) (envOfC qual scope s.heap.objs.size f cd :: outer) a (.ref C) (.ref t) s1.heap h3) (fun _ _=>False) s1 :=
  wpAny_leaving_firstW (env:=envOfC qual scope s.heap.objs.size f cd) (outer:=outer) (a0:=.ref t) I.ok.frames ff2 rfl et st hid rfl rfl rfl fun h3 L3=>⟨h3,rfl,L3⟩
 refine wpAny_mono (wp_xd (kpd_leaving _ _) xd go) (fun _ s'' hs=>?_) fun _ _ z=>z.elim
 obtain ⟨⟨h3,e3,⟨k1,⟨_,_,k2⟩,k3,k4⟩⟩,xd3⟩:=hs
 subst e3
 obtain ⟨hp1,g1,d1,t1,os1⟩:=s1
 have un:Un (frs (cxOf (Fly P w) P w K mg base N qual scope f cd A outer s H E).stack) [a] (del H1 a) (del H1 a) hp1 h3:=by
  refine ⟨fun b o e n hb hx=>k1 b o (PySem.W.hideAll_get _ e fun z=>?_),fun b o e n hb hx=>?_,fun _ _ _ n _=>n,fun b o e hx=>?_,fun _ _ e=>e,fun _ _ _ e=>e,fun _ ps e=>⟨#[],by rw [e]; simp⟩⟩
  ·rcases List.mem_cons.mp z with y | y
   ·exact hx (by rw [y]; exact List.mem_singleton.mpr rfl)
   ·exact hb y
  ·obtain ⟨_,o',e',nf⟩:=ff.mem hb
   rw [e] at e'
   cases e'
   exact k4 b o e nf
  ·by_cases hb:b ∈ frs (cxOf (Fly P w) P w K mg base N qual scope f cd A outer s H E).stack
   ·obtain ⟨_,o',e',nf⟩:=ff.mem hb
    obtain ⟨sl,e2⟩:=k4 b o' e' nf
    exact ⟨_,e2⟩
   ·exact ⟨o,k1 b o (PySem.W.hideAll_get _ e fun z=>by
     rcases List.mem_cons.mp z with y | y
     ·exact hx (by rw [y]; exact List.mem_singleton.mpr rfl)
     ·exact hb y)⟩
 have c1:∀ b o,del H1 a b=some o→∀ ob,hp1.get? b=some ob→(PySem.W.hideAll hp1 (a :: frs (cxOf (Fly P w) P w K mg base N qual scope f cd A outer s H E).stack)).get? b=some ob:=fun b o e ob eb=>by
  have hb:b ≠ a:=fun z=>by rw [z,del_same] at e; cases e
  rw [del_ne hb] at e
  refine PySem.W.hideAll_get _ eb fun z=>?_
  rcases List.mem_cons.mp z with y | y
  ·exact hb y
  ·rw [I.stkFree b y] at e
   cases e
 have J:=ID.call' (s':=⟨h3,g1,d1,t1,os1⟩) (ch:=[a]) rfl un (fly_hok ID.hok c1 k1) ID.bare (fun b z=>by
  rw [List.mem_singleton.mp z]
  refine ⟨.inr hs,fun y=>?_,fun x c e y=>?_,fun p hp y=>?_⟩
  ·rw [y,I.free] at ha
   cases ha
  ·have:=I.freeC x c e
   rw [y,ha] at this
   cases this
  ·have:=(I.pin p hp).2.1
   rw [y,ha] at this
   cases this)
 have eo:os1=s.os:=J.os
 subst eo
 refine ⟨a,t,.ref C,od,_,del H1 a,rfl,rfl,J.bare,J.base,J.hok,⟨k1,hid,k2,k3⟩,xd3,del_same,fly_cov ID.hok c1 k1,fun b ob hb hf=>?_,q⟩
 have hlt:b ≠ (cxOf (Fly P w) P w K mg base N qual scope f cd A outer s H E).env.locals:=fun z=>by
  have h1:=Heap.lt_size hb
  have h2:=I.ok.above
  rw [z] at h1
  exact Nat.lt_irrefl _ (Nat.lt_of_lt_of_le h1 h2)
 have nba:b ≠ a:=fun z=>by
  have h1:=Heap.lt_size hb
  rw [z] at h1
  exact Nat.lt_irrefl _ (Nat.lt_of_lt_of_le h1 hs)
 have nst:b ∉ a :: frs (cxOf (Fly P w) P w K mg base N qual scope f cd A outer s H E).stack:=fun z=>by
  rcases List.mem_cons.mp z with y | y
  ·exact nba y
  ·rcases List.mem_cons.mp (I.stkSub b y) with x | x
   ·exact hlt x
   ·exact hf x
 obtain ⟨o',ho'⟩:=I.base.there b ob hb (by simp [cxOf])
 refine ⟨o',PySem.W.hideAll_get _ ho' nst,fun hn=>?_⟩
 have k:=I.base.keep b ob hb hn hf (by simp [cxOf])
 rw [show hp1.get? b=some o' from ho'] at k
 exact Option.some.inj k
end
theorem Fun.okE {P:Program} {w:World} {K:PySem.W.Frag} {mg:Str→Option Value} {base:Heap} {x qual:Str} {st:Stmt} {f:Addr} {fd:FuncData} {N ps:List Str} {k:Nat} {sp:Sp} (F:Fun K x qual st f fd) (S:FnScope N ps (defScope st)) (len:∀ vs H Q E,sp vs H Q E→vs.length=ps.length)
  (hbody:∀ (cdv:Value) (A:Around) (outer:List Env) (s:Shared) (H:Hp) (vs:List V) (Q:VK) (E:XK),Room k (A.deeper (envOfC qual (defScope st) s.heap.objs.size f cdv))→sp vs H Q E →
   ∃ t,PSs (cxOf (Fly P w) P w K mg base N qual (defScope st) f cdv A outer s H E) (defBody st) t∧t { nx:=fun _ H'=>Q .non H',rt:=Q } (start N vs) H):FnOk P w K mg base (Fly P w) (k + 1) f fd ps sp:=by
 obtain ⟨oc,od,kV,doc,pm,an,cdv,ct,osl,rfl,lk,hcd⟩:=F.ex
 exact fn_of lk hcd S len fun A outer s H vs Q E hr hsp=>hbody cdv A outer s H vs Q E hr hsp
abbrev veMro:List Value:=[.type "ValueError",.type "Exception",.type "BaseException",.type "object"]
def ownIn (K:PySem.W.Frag) (C f:Addr):Bool:=match K.lookup C with
 | some ⟨.type "type",_,.cls cd,sl⟩=>(match cd.mro,sl.toList with
  | .ref C' :: bm,[_,_,_,_,some (.builtin n),_]=>C' == C && n == "ValueError.__new__" && !cd.hasDel && PySem.W.tailIn K veMro bm && PySem.W.nsOkIn K cd.ns && PySem.W.nsIn K cd.ns "__init__" == some (some (.ref f))
  | _,_=>false)
 | _=>false
theorem exc_of_in {K:PySem.W.Frag} {h:Heap} {C:Addr} (X:K.In h) (q:PySem.W.excIn K C veMro "ValueError.__new__"=true):∃ bm ns nm qn bs hd sn sub ab col dd k0 k1 k2 k3 k5 mN,h.get? C=some (excClassObj nm qn C ns bs bm hd sn sub ab col dd k0 k1 k2 k3 k5 "ValueError.__new__")∧h.Ns ns mN∧mN "__init__"=none∧OwnTail h veMro bm:=by
 unfold PySem.W.excIn at q
 split at q
 ·rename_i dd cd sl ho
  split at q
  ·rename_i C' bm k0 k1 k2 k3 n k5 hm hs
   simp only [Bool.and_eq_true,beq_iff_eq,Bool.not_eq_true'] at q
   obtain ⟨⟨⟨⟨⟨rfl,rfl⟩,hdel⟩,ht⟩,hok⟩,hni⟩:=q
   obtain ⟨nm,bs,mro,ns,qn,hd,sn,sub,ab,col,dl⟩:=cd
   dsimp only at hm hdel hok hni
   subst hm hdel
   have hsl:sl=#[k0,k1,k2,k3,some (.builtin "ValueError.__new__"),k5]:=by
    obtain ⟨l⟩:=sl
    simp only at hs
    rw [hs]
   subst hsl
   exact ⟨bm,ns,nm,qn,bs,hd,sn,sub,ab,col,dd,k0,k1,k2,k3,k5,_,X _ _ ho,.of_isNs (PySem.W.isNs_of_in X hok),PySem.W.nsMap_none_of_in X hok hni,PySem.W.tail_of_in X ht⟩
  ·cases q
 ·cases q
structure OwnAt (h:Heap) (C f:Addr):Prop where
 out:∃ bm ns nm qn bs hd sn sub ab col dd k0 k1 k2 k3 k5,h.get? C=some (excClassObj nm qn C ns bs bm hd sn sub ab col dd k0 k1 k2 k3 k5 "ValueError.__new__")∧OwnTail h veMro bm∧h.Ns ns (h.nsMap ns)∧h.nsMap ns "__init__"=some (.ref f)
theorem ns_some {K:PySem.W.Frag} {h:Heap} {N:Addr} {m:Str→Option Value} {n:Str} {v:Value} (X:K.In h) (G:h.Ns N m) (e:PySem.W.nsIn K N n=some (some v)):m n=some v:=by
 obtain ⟨o,es,ep,ho,hd,_,hf⟩:=G
 unfold PySem.W.nsIn at e
 split at e
 ·rename_i c d es' n' sl q
  have z:=X _ _ q
  rw [ho] at z
  cases z
  cases hd
  split at e
  ·rename_i en he
   rw [← hf]
   unfold nsFind findBy
   rw [← Array.find?_toList,he]
   cases e
   rfl
  ·split at e <;> cases e
 ·cases e
theorem ownAt_of {K:PySem.W.Frag} {h:Heap} {C f:Addr} (X:K.In h) (q:ownIn K C f=true):OwnAt h C f:=by
 unfold ownIn at q
 split at q
 ·rename_i dd cd sl ho
  split at q
  ·rename_i C' bm k0 k1 k2 k3 n k5 hm hs
   simp only [Bool.and_eq_true,beq_iff_eq,Bool.not_eq_true'] at q
   obtain ⟨⟨⟨⟨⟨rfl,rfl⟩,hdel⟩,ht⟩,hok⟩,hni⟩:=q
   obtain ⟨nm,bs,mro,ns,qn,hd,sn,sub,ab,col,dl⟩:=cd
   dsimp only at hm hdel hok hni
   subst hm hdel
   have hsl:sl=#[k0,k1,k2,k3,some (.builtin "ValueError.__new__"),k5]:=by
    obtain ⟨l⟩:=sl
    simp only at hs
    rw [hs]
   subst hsl
   have hN:h.Ns ns (h.nsMap ns):=.of_isNs (PySem.W.isNs_of_in X hok)
   exact ⟨bm,ns,nm,qn,bs,hd,sn,sub,ab,col,dd,k0,k1,k2,k3,k5,X _ _ ho,PySem.W.tail_of_in X ht,hN,ns_some X hN hni⟩
  ·cases q
 ·cases q
end L2
namespace L2
open PySem PySem.Spec PyProof.Rows
section
variable {P:Program} {w:World} {K:PySem.W.Frag} {mg:Str→Option Value} {base:Heap} {N:List Str} {qual:Str} {scope:Scope} {f:Addr} {cd:Value} {A:Around} {outer:List Env} {s₀:Shared} {H₀:Hp} {E:XK}
 {C fI:Addr} {dI:FuncData} {ps:List Str} {sp:Sp} {k:Nat} {x:Str} {np cpos pos:Pos} {e:Expr} {es:List Expr} {t:TA}
def sRaiseI (C:Addr) (sp:Sp) (E:XK) (t:TA):TS:=fun _ σ H=>t σ H fun vs H1=>vs.length ≤ 1000∧∀ a,H1 a=none→sp (.ref a :: vs) (upd H1 a (xo C a none)) (fun v H2=>v=.non∧∃ dx,H2 a=some (xo C a (some dx))∧E (.ref C) (some dx) (del H2 a)) E0
theorem ps_raiseI (O:ownIn K C fI=true) (hfn:PySem.W.isFn K (.ref fI)=true) (kp:PySem.W.keepIn K (.ref C)=true) (G:FnOk P w K mg base CX0 k fI dI ps sp) (hr:Room (k + 1) (cxOf (Fly P w) P w K mg base N qual scope f cd A outer s₀ H₀ E).A)
  (hg:Gl (cxOf (Fly P w) P w K mg base N qual scope f cd A outer s₀ H₀ E) x) (hm:mg x=some (.ref C)) (hb:Binds K dI ps []) (ha:PA (cxOf (Fly P w) P w K mg base N qual scope f cd A outer s₀ H₀ E) (e :: es) t) (hdb:(x == ("__debug__":Str))=false:=by decide)
  (he:starEach (e :: es) (cxOf (Fly P w) P w K mg base N qual scope f cd A outer s₀ H₀ E).env=(false,eval e (cxOf (Fly P w) P w K mg base N qual scope f cd A outer s₀ H₀ E).env) :: starEach es (cxOf (Fly P w) P w K mg base N qual scope f cd A outer s₀ H₀ E).env:=by rfl)
  (hpl:(backTo cpos (starEach es (cxOf (Fly P w) P w K mg base N qual scope f cd A outer s₀ H₀ E).env)).any (·.1)=false:=by rfl) :
  PS (cxOf (Fly P w) P w K mg base N qual scope f cd A outer s₀ H₀ E) (.Raise (some (.Call (.Name x np) (e :: es) [] cpos)) none pos) (sRaiseI C sp E t):=by
 intro pins s σ H D I h
 obtain ⟨bm,ns,nm,qn,bs,hd,sn,sub,ab,col,dd,k0,k1,k2,k3,k5,hC0,hT0,hN0,hi0⟩:=(ownAt_of I.ok.mod.kin O).out
 have hbase:bm.contains (.type "BaseException")=true:=hT0.hasType (by decide +kernel)
 refine raise_own (C:=C) (nm:=nm) (q:=qn) (N:=ns) (bs:=bs) (bm:=bm) (hdct:=hd) (sn:=sn) (sub:=sub) (ab:=ab) (col:=col) (dd:=dd) (k0:=k0) (k1:=k1) (k2:=k2) (k3:=k3) (k5:=k5) (newId:="ValueError.__new__") hbase (I.ok.hd rfl) ?_
 refine wpAny_Call_Name_kw (ld_glob I hg hm ?_ hdb)
 refine PySem.W.callWith_K (h₀:=base) I.ok.mod.kin kp (thn (ha cpos pins s σ H _ I h) fun us s1 ⟨vs,H1,I1,r,hvl,q⟩=>⟨I1.kIn,?_⟩) he hpl
 have hl1:=r.length
 have kb:=I1.bk
 obtain ⟨oF,hoF,hcF⟩:=Option.map_eq_some_iff.mp (beq_iff_eq.mp hfn)
 have hq:=q (s1.heap.objs.size + 1) (I1.hok.fresh (Nat.le_succ _))
 have hz:us.length ≤ sizeLine:=by
  rw [← hl1]
  exact Nat.le_of_lt (Nat.lt_of_le_of_lt hvl (by decide))
 have x1:((s1.heap.push (tupObj us)).push (excObj C s1.heap.objs.size none)).get? (s1.heap.objs.size + 1)=some (excObj C s1.heap.objs.size none):=by
  have z:=Heap.get?_push_size (s1.heap.push (tupObj us)) (o:=excObj C s1.heap.objs.size none) rfl
  rwa [Heap.size_push] at z
 have IA:=I1.kept (h':=s1.heap.push (tupObj us)) (t':=s1.toks) fun b u e=>Heap.get?_push_of_some _ e
 have I2:=IA.laid (a:=s1.heap.objs.size + 1) (o:=xo C (s1.heap.objs.size + 1) none) (h':=(s1.heap.push (tupObj us)).push (excObj C s1.heap.objs.size none)) (t':=s1.toks) (fun b u e=>Heap.get?_push_of_some _ e) (Nat.le_of_eq (Heap.size_push _ _)) (xo_ok x1)
 have r2:Vals (V.ref (s1.heap.objs.size + 1) :: vs) (Value.ref (s1.heap.objs.size + 1) :: us):=.cons rfl r
 have hl:(Value.ref (s1.heap.objs.size + 1) :: us).length=ps.length:=by
  have e:=r2.length
  rw [G.len _ _ _ _ hq] at e
  exact e.symm
 obtain ⟨hp1,g1,d1,t1,os1⟩:=s1
 refine call_own PySem.F.excBase_ValueError (by decide +kernel) PySem.F.excBase_ValueError (hT0.keeps kb) (kb _ _ hC0) (hN0.keeps kb) hi0 (I1.kIn _ _ hoF) hcF ?_ hz
 have hb2:=hb ⟨(hp1.push (tupObj us)).push (excObj C hp1.objs.size none),g1,d1,t1,os1⟩ (Value.ref (hp1.objs.size + 1) :: us) I2.kIn (by rw [List.append_nil]; exact hl)
 rw [List.append_nil] at hb2
 refine codeAny_mono (G.run _ (cxOf (Fly P w) P w K mg base N qual scope f cd A outer s₀ H₀ E).stack ⟨(hp1.push (tupObj us)).push (excObj C hp1.objs.size none),g1,d1,t1,os1⟩ _ ⟨Value.ref (hp1.objs.size + 1) :: us,[]⟩ (Value.ref (hp1.objs.size + 1) :: us) _ _ E0 (hr.make C us []) (I2.env0.make C us []) hb2 r2 hq) fun r s' hq'=>?_
 cases r with
 | error e=>exact hq'.elim
 | ok fl =>
  cases fl with
  | ret u =>
   obtain ⟨v,H',I3,rv,ev,dx,ha3,q3⟩:=I2.after hq'
   subst ev
   obtain ⟨t3,e3⟩:=xo_get I3.hok ha3
   refine ⟨rv,_,t3,some dx,rfl,I3.bk _ _ hC0,e3,fly_drop I3 ?_ ha3 q3⟩
   exact Nat.le_trans I1.sz (Nat.le_succ _)
  | next=>exact hq'.elim
  | brk=>exact hq'.elim
  | cont=>exact hq'.elim
def sRaise0 (C:Addr) (E:XK):TS:=fun _ _ H=>E (.ref C) none H
theorem ps_raise0 (O:PySem.W.excIn K C veMro "ValueError.__new__"=true) (hg:Gl (cxOf (Fly P w) P w K mg base N qual scope f cd A outer s₀ H₀ E) x) (hm:mg x=some (.ref C)) (kp:PySem.W.keepIn K (.ref C)=true) (hdb:(x == ("__debug__":Str))=false:=by decide) :
  PS (cxOf (Fly P w) P w K mg base N qual scope f cd A outer s₀ H₀ E) (.Raise (some (.Call (.Name x np) [] [] cpos)) none pos) (sRaise0 C E):=by
 intro pins s σ H D I h
 obtain ⟨bm,ns,nm,qn,bs,hd,sn,sub,ab,col,dd,k0,k1,k2,k3,k5,mN,hC0,hN0,hi0,hT0⟩:=exc_of_in I.kIn O
 have hbase:bm.contains (.type "BaseException")=true:=hT0.hasType (by decide +kernel)
 refine raise_own (C:=C) (nm:=nm) (q:=qn) (N:=ns) (bs:=bs) (bm:=bm) (hdct:=hd) (sn:=sn) (sub:=sub) (ab:=ab) (col:=col) (dd:=dd) (k0:=k0) (k1:=k1) (k2:=k2) (k3:=k3) (k5:=k5) (newId:="ValueError.__new__") hbase (I.ok.hd rfl) ?_
 refine wpAny_Call_Name_kw (ld_glob I hg hm ?_ hdb)
 refine PySem.W.callWith_K0 I.kIn kp ?_
 obtain ⟨hp1,g1,d1,t1,os1⟩:=s
 refine wpAny_call_exc_subU PySem.F.excBase_ValueError (by decide +kernel) PySem.F.excBase_ValueError hT0 hC0 hN0 hi0 (fun h' a hx=>?_) (Nat.zero_le _)
 obtain ⟨t,e,_⟩:=hx.there
 exact ⟨a,t,none,rfl,hx.keeps _ _ hC0,e,fly_made I hx h⟩
end
structure ExcC (K:PySem.W.Frag) (C:Addr):Prop where
 ov:excOver K C=true
 sa:PySem.W.findIn K (.ref C) "__setattr__"=some (some (.builtin "object.__setattr__"))
 ga:PySem.W.findIn K (.ref C) "__getattribute__"=some (some (.builtin "BaseException.__getattribute__"))
 gt:PySem.W.findIn K (.ref C) "__getattr__"=some none
 mb:PySem.W.mroIn K C (.type "BaseException")=some true
 mo:PySem.W.mroIn K C (.type "object")=some true
 cl:PySem.W.findIn K (.ref C) "__class__"=some (some (.builtin "object.__class__"))
 cg:PySem.W.specialIn K (.builtin "object.__class__") "__get__"=some (some (.builtin "getset_descriptor.__get__"))
 ct:PySem.W.takesIn K (.builtin "object.__class__")=some true
section
variable {X:Cx} {o value:Expr} {fl:Str} {pos pos':Pos} {ta tv:TE}
def sFldX (K:PySem.W.Frag) (ta tv:TE) (fl:Str):TS:=fun D σ H=>tv σ H fun y H1=>ta σ H1 fun x H2=>∃ a C,x=.ref a∧H2 a=some (xo C a none)∧ExcC K C∧PySem.W.findIn K (.ref C) fl=some none∧∀ dx,H2 dx=none→D.nx σ (upd (upd H2 dx (.xd [(fl,y)])) a (xo C a (some dx)))
theorem ps_fldX (ha:PE X o ta) (hv:PE X value tv) (hs:swapsWith value (some (.Attribute o fl pos')) pos.line X.env=pure false):PS X (.Assign [.Attribute o fl pos'] value pos) (sFldX X.K ta tv fl):=by
 intro pins s σ H D I h
 refine plainObj_wpAny_Assign_Attribute (thn (hv pins s σ H _ I h) fun u s1 ⟨y,H1,I1,ry,q⟩=>thn (ha pins s1 σ H1 _ I1 q) fun ov s2 ⟨x,H2,I2,rx,a,C,ex,ea,ec,hf,q2⟩=>?_) hs
 subst ex
 obtain rfl:ov=Value.ref a:=rx
 obtain ⟨t,et⟩:=xo_get I2.hok ea
 refine set_exc I2.kIn et ec.ov hf ec.sa fun h' tk hx' hn' kp=>?_
 have fr:H2 s2.heap.objs.size=none:=I2.hok.fresh (Nat.le_refl _)
 have nda:s2.heap.objs.size ≠ a:=fun z=>by rw [z,ea] at fr; cases fr
 have ne:∀ {b:Addr} {o:HO},H2 b=some o→(∀ ψ,o ≠ .ext ψ)→b ≠ a:=fun {b o} e n z=>by
  rw [z,ea] at e
  exact n _ (Option.some.inj e).symm
 refine ⟨σ,_,I2.un (h':=h') (t':=tk) (H':=upd (upd H2 s2.heap.objs.size (.xd [(fl,y)])) a (xo C a (some s2.heap.objs.size))) ⟨fun b o e n _ _=>kp b o (fun z=>by rw [z,ea] at n; cases n) e,fun b o e n _ _=>⟨o.slots,kp b o (fun z=>by rw [z,ea] at n; cases n) e⟩,fun b o e n _=>?_,fun b o e _=>?_,fun b xs e=>?_,fun b o u e=>?_,fun b ps e=>⟨#[],?_⟩⟩ (fun b o e=>?_),q2 _ fr⟩
 ·rw [upd_ne (fun z=>by rw [z,ea] at n; cases n),upd_ne (Nat.ne_of_lt (Heap.lt_size e))]
  exact n
 ·by_cases z:b=a
  ·rw [z]; exact ⟨_,hx'⟩
  ·exact ⟨o,kp b o z e⟩
 ·rw [upd_ne (ne e fun ψ z=>by cases z),upd_ne (ne_of_none e fr)]
  exact e
 ·rw [upd_ne (ne e fun ψ z=>by cases z),upd_ne (ne_of_none e fr)]
  exact e
 ·rw [upd_ne (ne e fun ψ z=>by cases z),upd_ne (ne_of_none e fr),e]
  simp
 ·by_cases z:b=a
  ·subst z
   rw [upd_same] at e
   cases e
   exact xo_ok hx'
  ·rw [upd_ne z] at e
   by_cases z2:b=s2.heap.objs.size
   ·subst z2
    rw [upd_same] at e
    cases e
    refine ⟨_,hn',fun g=>?_⟩
    show RelO (List.lookup g [(fl,y)]) (if g=fl then some u else none)
    rw [List.lookup_cons]
    by_cases eg:g=fl
    ·rw [if_pos eg,show (g == fl)=true by simpa using eg]
     exact ry
    ·rw [if_neg eg,show (g == fl)=false by simpa using eg]
     exact True.intro
   ·rw [upd_ne z2] at e
    refine (I2.hok b o e).stay (fun c v hc q=>kp c v ?_ q) (fun c q=>?_) fun c xs q=>?_
    ·rcases hc with y1 | y1
     ·rw [y1]; exact z
     ·exact ne y1 fun ψ z=>by cases z
    ·rw [upd_ne (ne q fun ψ z=>by cases z),upd_ne (ne_of_none q fr)]
     exact q
    ·rw [upd_ne (ne q fun ψ z=>by cases z),upd_ne (ne_of_none q fr)]
     exact q
end
section
variable {X:Cx} {e:Expr} {fl:Str} {pos:Pos} {ta:TE}
end
end L2
namespace L2
open PySem PySem.Spec PyProof.Rows
section
variable {X:Cx} {pins:List (Addr × Obj)} {σ:St} {H:Hp} {s:Shared}
end
structure CatC (K:PySem.W.Frag) (D:Addr):Prop where
 cd:∃ cd,PySem.W.clsIn K D=some cd
 tp:PySem.W.instIn K (.ref D) (.type "tuple")=some false
 be:PySem.W.mroIn K D (.type "BaseException")=some true
section
variable {X:Cx} {k:Nat} {f C1 C2:Addr} {fd:FuncData} {ps:List Str} {sp:Sp} {x y n c1 c2:Str} {p yp pos apos np1 np2 hp1 hp2 tpos:Pos} {e:Expr} {es:List Expr} {t:TA} {T1 T2:TS} {b1 b2:Stmt} {su1 su2:List Stmt} {iy i:Nat}
end
end L2
namespace B64
open PySem L2
def top (i:Nat):Stmt:=PySem.Challenge.pw_boxgalley_k64_what_the_checker_of_rows_l.main.body.getD i (.Pass ⟨0,0,0,0⟩)
abbrev sTooInit:Stmt:=inClass (top 6) 0
abbrev sPieces:Stmt:=top 9
abbrev sJoints:Stmt:=top 10
abbrev sInit:Stmt:=inClass (top 11) 0
abbrev sWidth:Stmt:=inClass (top 11) 1
abbrev sLength:Stmt:=inClass (top 11) 2
abbrev sFits:Stmt:=inClass (top 11) 3
abbrev sCost:Stmt:=inClass (top 11) 4
abbrev sEmpty:Stmt:=inClass (top 11) 5
abbrev sMay:Stmt:=inClass (top 11) 6
abbrev sSteps:Stmt:=inClass (top 11) 7
abbrev sNext:Stmt:=top 12
abbrev sTable:Stmt:=top 13
abbrev sRefuse:Stmt:=top 14
abbrev sEnds:Stmt:=top 15
abbrev sBest:Stmt:=top 16
abbrev sLeads:Stmt:=top 17
abbrev sBefore:Stmt:=top 18
abbrev sBack:Stmt:=top 19
abbrev sSetRows:Stmt:=top 20
abbrev sWhole:Stmt:=top 1
abbrev sTupOf:Stmt:=top 2
abbrev sLstOf:Stmt:=top 3
abbrev sTriple:Stmt:=top 22
abbrev sTriples:Stmt:=top 23
abbrev sEntry:Stmt:=top 24
abbrev sEntries:Stmt:=top 25
abbrev sIsTable:Stmt:=top 26
abbrev sTrSet:Stmt:=top 27
abbrev sTotal:Stmt:=top 28
abbrev sStepsHeld:Stmt:=top 29
abbrev sEndsHeld:Stmt:=top 30
abbrev sShown:Stmt:=top 31
abbrev sCell:Stmt:=top 33
abbrev sNumbers:Stmt:=top 34
abbrev sWords:Stmt:=top 35
abbrev sLPieces:Stmt:=top 36
abbrev sSize:Stmt:=top 37
abbrev sLCost:Stmt:=top 38
abbrev sLStep:Stmt:=top 39
abbrev sLShows:Stmt:=top 40
abbrev sLIsNum:Stmt:=top 41
abbrev sLRight:Stmt:=top 42
abbrev sLDue:Stmt:=top 43
abbrev sLStepC:Stmt:=top 44
abbrev sLAhead:Stmt:=top 45
abbrev sLAnother:Stmt:=top 46
abbrev sLOthTr:Stmt:=top 47
abbrev sLOthTab:Stmt:=top 48
abbrev sLaw:Stmt:=top 49
theorem Same.put {H H2:Hp} {l:Addr} {o:HO} (s:Same H H2) (hn:H l=none):Same H (upd H2 l o):=fun b u e=>by
 rw [upd_ne (ne_of_none e hn)]
 exact s b u e
def WordsAt (H:Hp) (a:Addr) (ws:List (List Str)):Prop :=
 ∃ as:List Addr,H a=some (.tup (as.map V.ref))∧as.length=ws.length∧∀ (i:Nat) (p:Addr) (w:List Str),as[i]?=some p→ws[i]?=some w→H p=some (.tup (w.map V.str))
theorem WordsAt.same {H H2:Hp} {a:Addr} {ws:List (List Str)} (h:WordsAt H a ws) (s:Same H H2):WordsAt H2 a ws:=by
 obtain ⟨as,h1,h2,h3⟩:=h
 exact ⟨as,s _ _ h1,h2,fun i p w e1 e2=>s _ _ (h3 i p w e1 e2)⟩
theorem ref_get {as:List Addr} {i:Nat} {x:V} (h:(as.map V.ref)[i]?=some x):∃ p,as[i]?=some p∧x=V.ref p:=by
 rw [List.getElem?_map] at h
 cases e:as[i]? with
 | none=>rw [e] at h; cases h
 | some p=>rw [e] at h; exact ⟨p,rfl,(Option.some.inj h).symm⟩
theorem get_lt {α:Type} {l:List α} {i:Nat} {x:α} (h:l[i]?=some x):i < l.length:=(List.getElem?_eq_some_iff.mp h).1
theorem get_of {α β:Type} {l:List α} {m:List β} {i:Nat} {x:α} (h:l[i]?=some x) (e:l.length=m.length):∃ y,m[i]?=some y:=by
 have q:=get_lt h
 rw [e] at q
 exact ⟨m[i],by simp [q]⟩
theorem take_snoc {α:Type} {l:List α} {i:Nat} {x:α} (h:l[i]?=some x):l.take (i + 1)=l.take i ++ [x]:=by
 rw [List.take_add_one,h]
 rfl
theorem flat_take {α:Type} {l:List (List α)} {i:Nat} {x:List α} (h:l[i]?=some x):(l.take (i + 1)).flatten=(l.take i).flatten ++ x:=by
 rw [take_snoc h,List.flatten_append]
 simp
theorem flat_len_le {α:Type} (l:List (List α)) (i:Nat):(l.take i).flatten.length ≤ l.flatten.length:=by
 have e:l.flatten=(l.take i).flatten ++ (l.drop i).flatten:=by rw [← List.flatten_append,List.take_append_drop]
 rw [e,List.length_append]
 omega
theorem small {n:Nat} (h:n ≤ 100000):n < sizeLine:=Nat.lt_of_le_of_lt h (by decide)
theorem smallE {n:Nat} (h:n ≤ 100000):n ≤ sizeLine:=Nat.le_of_lt (small h)
def jw (n:Nat):List Bool:=(List.range n).map fun i=>decide (i + 1 < n)
def joints (ws:List (List Str)):List Bool:=false :: (ws.map fun w=>jw w.length).flatten
theorem jw_len (n:Nat):(jw n).length=n:=by simp [jw]
theorem jts_len:∀ ws:List (List Str),((ws.map fun w=>jw w.length).flatten).length=ws.flatten.length
 | []=>rfl
 | w :: ws=>by
  rw [List.map_cons,List.flatten_cons,List.flatten_cons,List.length_append,List.length_append,jw_len,jts_len ws]
theorem joints_len (ws:List (List Str)):(joints ws).length=ws.flatten.length + 1:=by
 unfold joints
 rw [List.length_cons,jts_len]
structure Names (mg:Str→Option Value):Prop where
 range:mg "range"=none
 len:mg "len"=none
 enum:mg "enumerate"=none
 list:mg "list"=none
 tuple:mg "tuple"=none
 min:mg "min"=none
 int:mg "int"=none
 bool:mg "bool"=none
 inst:mg "isinstance"=none
 max:mg "max"=none
 all:mg "all"=none
 sum:mg "sum"=none
def spPieces:Sp:=fun vs H Q _=>∃ (a:Addr) (ws:List (List Str)),vs=[.ref a]∧WordsAt H a ws∧ws.flatten.length ≤ 1000 ∧
 ∀ (l:Addr) (H':Hp),H l=none→Same H H'→H' l=some (.lst (ws.flatten.map V.str))→Q (.ref l) H'
def spJoints:Sp:=fun vs H Q _=>∃ (a:Addr) (ws:List (List Str)),vs=[.ref a]∧WordsAt H a ws∧ws.flatten.length ≤ 1000 ∧
 ∀ (l:Addr) (H':Hp),H l=none→Same H H'→H' l=some (.lst ((joints ws).map V.bl))→Q (.ref l) H'
section
variable {P:Program} {w:World} {K:PySem.W.Frag} {mg:Str→Option Value} {base:Heap}
theorem scPieces:FnScope ["words","pieces","word"] ["words"] (defScope sPieces):=⟨rfl,rfl,rfl,by decide +kernel,rfl,by decide +kernel,by decide +kernel⟩
theorem ok_pieces {f:Addr} {fd:FuncData} (F:Fun K "pieces_of" "pieces_of" sPieces f fd):FnOk P w K mg base CX0 1 f fd ["words"] spPieces:=by
 refine F.ok scPieces (fun vs H Q E h=>?_) (fun cdv A outer s H vs Q E hr h=>?_)
 ·obtain ⟨a,ws,e,_⟩:=h
  rw [e]
  rfl
 ·obtain ⟨a,ws,e,hW,hn,k⟩:=h
  subst e
  obtain ⟨as,h1,h2,h3⟩:=id hW
  refine ⟨_,pss_cons (ps_set (i:=1) scPieces.nd rfl (Or.inl rfl) (pe_lst pa_nil))
   (pss_cons (ps_for PassesOwn.never rfl (pi_tup (pv 0)) (pg_name (i:=2) scPieces.nd rfl (Or.inl rfl))
    (pss_one (ps_expr (pe_bm PySem.F.plainAttrs_list PySem.F.slot_list_extend PySem.F.type_list_extend mt_extendT (pv 1) (pa_cons (pv 2) pa_nil)))))
   (pss_one (ps_ret (pv 1)))),?_⟩
  refine ⟨smallE (by simp),fun l hl=>?_⟩
  refine ⟨_,rfl,a,rfl,⟨_,SqT.of (by rw [upd_ne (ne_of_none h1 hl)]; exact h1)⟩,for_tup (K:=K) (a:=a) (xs:=as.map V.ref)
   (fun i σ H2=>∃ v,σ=[some (.ref a),some (.ref l),v]∧Same H H2∧H2 l=some (.lst ((ws.take i).flatten.map V.str))) ⟨_,rfl,Same.put (Same.refl H) hl,by rw [upd_same]; rfl⟩ (fun i σ H2 _ ⟨_,_,s2,_⟩=>SqT.of (s2 _ _ h1)) ?_ ?_⟩
  ·rintro i x σ H2 hi ⟨v,rfl,s2,hl2⟩
   obtain ⟨p,hp,rfl⟩:=ref_get hi
   obtain ⟨wd,hw⟩:=get_of hp h2
   have hq:=s2 _ _ (h3 i p wd hp hw)
   have hb:((ws.take i).flatten ++ wd).length ≤ 1000:=by
    rw [← flat_take hw]
    exact Nat.le_trans (flat_len_le _ _) hn
   rw [List.length_append] at hb
   refine ⟨_,rfl,.inl ⟨rfl,_,SqL.of hl2⟩,_,rfl,l,p,_,_,rfl,rfl,hl2,SqT.of hq,smallE (by rw [List.length_map,List.length_map]; omega),_,rfl,Same.put s2 hl,?_⟩
   rw [upd_same,flat_take hw,List.map_append]
  ·rintro σ H2 ⟨v,rfl,s2,hl2⟩
   refine ⟨_,rfl,k l H2 hl s2 ?_⟩
   rw [hl2,List.length_map,h2,List.take_length]
theorem scJoints:FnScope ["words","joints","word","number"] ["words"] (defScope sJoints):=⟨rfl,rfl,rfl,by decide +kernel,rfl,by decide +kernel,by decide +kernel⟩
theorem ok_joints {f:Addr} {fd:FuncData} (F:Fun K "joints_of" "joints_of" sJoints f fd) (N:Names mg):FnOk P w K mg base CX0 1 f fd ["words"] spJoints:=by
 refine F.ok scJoints (fun vs H Q E h=>?_) (fun cdv A outer s H vs Q E hr h=>?_)
 ·obtain ⟨a,ws,e,_⟩:=h
  rw [e]
  rfl
 ·obtain ⟨a,ws,e,hW,hn,k⟩:=h
  subst e
  obtain ⟨as,h1,h2,h3⟩:=id hW
  refine ⟨_,pss_cons (ps_set (i:=1) scJoints.nd rfl (Or.inl rfl) (pe_lst (pa_cons pe_bl pa_nil)))
   (pss_cons (ps_for PassesOwn.never rfl (pi_tup (pv 0)) (pg_name (i:=2) scJoints.nd rfl (Or.inl rfl))
    (pss_one (ps_for PassesOwn.never rfl (pi_range2 rfl N.range (pa_cons pe_int (pa_cons (pe_op op_add (pe_callB call_len_seq (by rfl) N.len PySem.boot_len (pa_cons (pv 2) pa_nil)) pe_int) pa_nil))) (pg_name (i:=3) scJoints.nd rfl (Or.inl rfl))
     (pss_one (ps_expr (pe_bm PySem.F.plainAttrs_list PySem.F.slot_list_append PySem.F.type_list_append mt_append (pv 1) (pa_cons (pe_cmpR op_lt (pv 3) (pe_callB call_len_seq (by rfl) N.len PySem.boot_len (pa_cons (pv 2) pa_nil)) (nomark _)) pa_nil)))))))
   (pss_one (ps_ret (pv 1)))),?_⟩
  refine ⟨smallE (by simp),fun l hl=>?_⟩
  refine ⟨_,rfl,a,rfl,⟨_,SqT.of (by rw [upd_ne (ne_of_none h1 hl)]; exact h1)⟩,for_tup (K:=K) (a:=a) (xs:=as.map V.ref)
   (fun i σ H2=>∃ v u,σ=[some (.ref a),some (.ref l),v,u]∧Same H H2∧H2 l=some (.lst ((joints (ws.take i)).map V.bl))) ⟨_,_,rfl,Same.put (Same.refl H) hl,by rw [upd_same]; rfl⟩ (fun i σ H2 _ ⟨_,_,_,s2,_⟩=>SqT.of (s2 _ _ h1)) ?_ ?_⟩
  ·rintro i x σ H2 hi ⟨v,u,rfl,s2,hl2⟩
   obtain ⟨p,hp,rfl⟩:=ref_get hi
   obtain ⟨wd,hw⟩:=get_of hp h2
   have hq:=s2 _ _ (h3 i p wd hp hw)
   have hb:((ws.take i).flatten ++ wd).length ≤ 1000:=by
    rw [← flat_take hw]
    exact Nat.le_trans (flat_len_le _ _) hn
   rw [List.length_append] at hb
   have hj:joints (ws.take (i + 1))=joints (ws.take i) ++ jw wd.length:=by
    unfold joints
    rw [take_snoc hw,List.map_append,List.flatten_append]
    simp
   refine ⟨_,rfl,p,_,rfl,.inr (SqT.of hq),_,_,rfl,rfl,_,_,rfl,⟨by decide,by decide,?_,?_⟩,?_⟩
   ·rw [List.length_map]; omega
   ·rw [List.length_map]; omega
   ·have en:(((wd.map V.str).length:Int) + 1 - 1).toNat=wd.length:=by rw [List.length_map]; omega
    rw [en]
    refine for_range (n:=wd.length) (fun j σ H3=>∃ u,σ=[some (.ref a),some (.ref l),some (.ref p),u]∧Same H H3∧H3 l=some (.lst ((joints (ws.take i) ++ (jw wd.length).take j).map V.bl))) ⟨_,rfl,s2,?_⟩ ?_ ?_
    ·rw [hl2]; simp
    ·rintro j σ H3 hj3 ⟨u,rfl,s3,hl3⟩
     have hq3:=s3 _ _ (h3 i p wd hp hw)
     refine ⟨_,rfl,.inl ⟨rfl,_,SqL.of hl3⟩,_,rfl,_,rfl,p,_,rfl,.inr (SqT.of hq3),_,_,rfl,rfl,l,_,_,rfl,rfl,hl3,small ?_,_,rfl,Same.put s3 hl,?_⟩
     ·rw [List.length_map,List.length_append,joints_len,List.length_take,jw_len]
      omega
     ·have hg:(jw wd.length)[j]?=some (decide (j + 1 < wd.length)):=by
       unfold jw
       rw [List.getElem?_map,List.getElem?_range hj3]
       rfl
      have hd:decide ((1:Int) + (j:Int) < ((wd.map V.str).length:Int))=decide (j + 1 < wd.length):=by
       rw [List.length_map]
       exact decide_eq_decide.mpr (by omega)
      rw [upd_same,take_snoc hg]
      dsimp only
      rw [hd,← List.append_assoc,List.map_append (l₁:=joints (ws.take i) ++ (jw wd.length).take j)]
      rfl
    ·rintro σ H3 ⟨u,rfl,s3,hl3⟩
     refine ⟨_,_,rfl,s3,?_⟩
     rw [hl3,hj]
     have:(jw wd.length).take wd.length=jw wd.length:=by
      have e:=jw_len wd.length
      exact List.take_of_length_le (by omega)
     rw [this]
  ·rintro σ H2 ⟨v,u,rfl,s2,hl2⟩
   refine ⟨_,rfl,k l H2 hl s2 ?_⟩
   rw [hl2,List.length_map,h2,List.take_length]
end
end B64
namespace B64
open PySem L2
def gp (ps:List Str) (i:Nat):Str:=(ps[i]?).getD ""
def gj (js:List Bool) (i:Nat):Bool:=(js[i]?).getD false
def txt (ps:List Str) (js:List Bool) (i:Nat):Nat→Str
 | 0=>""
 | n + 1=>(if 0 < n∧gj js (i + n)=false then txt ps js i n ++ " " else txt ps js i n) ++ gp ps (i + n)
def full (ps:List Str) (js:List Bool) (i j:Nat):Str:=if gj js j=true then txt ps js i (j - i) ++ "-" else txt ps js i (j - i)
def off (ps:List Str) (js:List Bool):Nat→Int
 | 0=>0
 | n + 1=>off ps js n + ((gp ps n).length:Int) + (if gj js (n + 1)=true then 0 else 1)
def endAt (ps:List Str) (js:List Bool):Nat→Int
 | 0=>0
 | n + 1=>off ps js n + ((gp ps n).length:Int) + (if gj js (n + 1)=true then 1 else 0)
theorem len0:("":Str).length=0:=by decide +kernel
theorem len_sp:(" ":Str).length=1:=by decide +kernel
theorem len_da:("-":Str).length=1:=by decide +kernel
theorem txt_len (ps:List Str) (js:List Bool) (i:Nat):∀ n:Nat,((txt ps js i (n + 1)).length:Int)=off ps js (i + n) + ((gp ps (i + n)).length:Int) - off ps js i
 | 0=>by
  show (((if 0 < 0∧gj js (i + 0)=false then txt ps js i 0 ++ " " else txt ps js i 0) ++ gp ps (i + 0)).length:Int)=_
  rw [if_neg (by omega),Str.length_append,show txt ps js i 0="" from rfl,len0]
  simp only [Nat.add_zero,Nat.zero_add]
  omega
 | n + 1=>by
  have ih:=txt_len ps js i n
  show (((if 0 < n + 1∧gj js (i + (n + 1))=false then txt ps js i (n + 1) ++ " " else txt ps js i (n + 1)) ++ gp ps (i + (n + 1))).length:Int)=_
  have e:off ps js (i + (n + 1))=off ps js (i + n) + ((gp ps (i + n)).length:Int) + (if gj js (i + (n + 1))=true then 0 else 1):=rfl
  rw [e,Str.length_append]
  cases h:gj js (i + (n + 1)) with
  | true =>
   rw [if_neg (by simp),if_pos rfl]
   omega
  | false =>
   rw [if_pos ⟨by omega,rfl⟩,if_neg (by simp),Str.length_append,len_sp]
   omega
theorem full_len (ps:List Str) (js:List Bool) {i j:Nat} (h:i < j):((full ps js i j).length:Int)=endAt ps js j - off ps js i:=by
 obtain ⟨n,rfl⟩:∃ n,j=i + n + 1:=⟨j - i - 1,by omega⟩
 have e:endAt ps js (i + n + 1)=off ps js (i + n) + ((gp ps (i + n)).length:Int) + (if gj js (i + n + 1)=true then 1 else 0):=rfl
 have q:=txt_len ps js i n
 unfold full
 rw [e,show i + n + 1 - i=n + 1 by omega]
 cases hj:gj js (i + n + 1) with
 | true =>
  rw [if_pos rfl,if_pos rfl,Str.length_append,len_da]
  omega
 | false =>
  rw [if_neg (by simp),if_neg (by simp)]
  omega
theorem gp_len {ps:List Str} (h:∀ x ∈ ps,x.length ≤ 12) (i:Nat):(gp ps i).length ≤ 12:=by
 unfold gp
 cases e:ps[i]? with
 | none=>rw [Option.getD_none,len0]; omega
 | some x=>exact h x (List.mem_of_getElem? e)
theorem txt_le {ps:List Str} (js:List Bool) (h:∀ x ∈ ps,x.length ≤ 12) (i:Nat):∀ n,(txt ps js i n).length ≤ 13 * n
 | 0=>by show ("":Str).length ≤ 0; rw [len0]; omega
 | n + 1=>by
  have ih:=txt_le js h i n
  have g:=gp_len h (i + n)
  show ((if 0 < n∧gj js (i + n)=false then txt ps js i n ++ " " else txt ps js i n) ++ gp ps (i + n)).length ≤ _
  rw [Str.length_append]
  split
  ·rw [Str.length_append,len_sp]; omega
  ·omega
theorem full_le {ps:List Str} (js:List Bool) (h:∀ x ∈ ps,x.length ≤ 12) (i j:Nat):(full ps js i j).length ≤ 13 * (j - i) + 1:=by
 have q:=txt_le js h i (j - i)
 unfold full
 split
 ·rw [Str.length_append,len_da]; omega
 ·omega
theorem atI_of {α:Type} {xs:List α} {z:Int} {j:Nat} {v:α} (e:z=(j:Int)) (h:xs[j]?=some v):atI xs z=some v:=by
 rw [e]
 exact atI_nat h
theorem gp_at {ps:List Str} {i:Nat} (h:i < ps.length):(ps.map V.str)[i]?=some (V.str (gp ps i)):=by
 unfold gp
 rw [List.getElem?_map,List.getElem?_eq_getElem h]
 rfl
theorem gj_at {js:List Bool} {i:Nat} (h:i < js.length):(js.map V.bl)[i]?=some (V.bl (gj js i)):=by
 unfold gj
 rw [List.getElem?_map,List.getElem?_eq_getElem h]
 rfl
def Short (ws:List (List Str)):Prop:=∀ x ∈ ws.flatten,x.length ≤ 12
end B64
namespace B64
open PySem L2
def Keep (x:Addr) (H H':Hp):Prop:=∀ b o,H b=some o→b ≠ x→H' b=some o
theorem Keep.refl {x:Addr} (H:Hp):Keep x H H:=fun _ _ e _=>e
theorem Keep.putN {x l:Addr} {H H':Hp} {o:HO} (k:Keep x H H') (hn:H l=none):Keep x H (upd H' l o):=fun b u e hb=>by
 rw [upd_ne (ne_of_none e hn)]
 exact k b u e hb
theorem Keep.putX {x:Addr} {H H':Hp} {o:HO} (k:Keep x H H'):Keep x H (upd H' x o):=fun b u e hb=>by
 rw [upd_ne hb]
 exact k b u e hb
theorem Keep.same {x:Addr} {H H' H2:Hp} (k:Keep x H H') (s:Same H' H2):Keep x H H2:=fun b u e hb=>s b u (k b u e hb)
theorem Keep.free {x l:Addr} {H H':Hp} (k:Keep x H H') {o:HO} (hx:H' x=some o) (h:H' l=none):H l=none:=by
 cases e:H l with
 | none=>rfl
 | some u =>
  have ne:l ≠ x:=fun z=>by rw [z,hx] at h; cases h
  rw [k l u e ne] at h
  cases h
theorem WordsAt.keep {x:Addr} {H H':Hp} {a:Addr} {ws:List (List Str)} (h:WordsAt H a ws) {C dx:Addr} {fs:List (Str × V)} (hx:H x=some (.ins C dx fs)) (k:Keep x H H'):WordsAt H' a ws:=by
 obtain ⟨as,h1,h2,h3⟩:=h
 exact ⟨as,k _ _ h1 (ne_of h1 hx (by intro z; cases z)),h2,fun i p w e1 e2=>k _ _ (h3 i p w e1 e2) (ne_of (h3 i p w e1 e2) hx (by intro z; cases z))⟩
def f1 (lw:Addr):List (Str × V):=putF "widths" (.ref lw) []
def f2 (lw lp:Addr):List (Str × V):=putF "pieces" (.ref lp) (f1 lw)
def f3 (lw lp:Addr) (n:Int):List (Str × V):=putF "last" (.int n) (f2 lw lp)
def f4 (lw lp:Addr) (n:Int) (lq:Addr):List (Str × V):=putF "prices" (.ref lq) (f3 lw lp n)
def f5 (lw lp:Addr) (n:Int) (lq lb:Addr):List (Str × V):=putF "begins" (.ref lb) (f4 lw lp n lq)
def f6 (lw lp:Addr) (n:Int) (lq lb le:Addr):List (Str × V):=putF "ends" (.ref le) (f5 lw lp n lq lb)
theorem f1_len (lw:Addr):(f1 lw).length ≤ 1:=length_putF _ _ _
theorem f2_len (lw lp:Addr):(f2 lw lp).length ≤ 2:=Nat.le_trans (length_putF _ _ _) (Nat.succ_le_succ (f1_len _))
theorem f3_len (lw lp:Addr) (n:Int):(f3 lw lp n).length ≤ 3:=Nat.le_trans (length_putF _ _ _) (Nat.succ_le_succ (f2_len _ _))
theorem f4_len (lw lp:Addr) (n:Int) (lq:Addr):(f4 lw lp n lq).length ≤ 4:=Nat.le_trans (length_putF _ _ _) (Nat.succ_le_succ (f3_len _ _ _))
theorem f5_len (lw lp:Addr) (n:Int) (lq lb:Addr):(f5 lw lp n lq lb).length ≤ 5:=Nat.le_trans (length_putF _ _ _) (Nat.succ_le_succ (f4_len _ _ _ _))
theorem look_hit {f:Str} {v:V} {fs:List (Str × V)}:(putF f v fs).lookup f=some v:=by rw [lookup_putF,if_pos rfl]
theorem look_miss {f g:Str} {v:V} {fs:List (Str × V)} {o:Option V} (h:¬ g=f) (e:fs.lookup g=o):(putF f v fs).lookup g=o:=by rw [lookup_putF,if_neg h]; exact e
theorem f2_pieces (lw lp:Addr):(f2 lw lp).lookup ("pieces":Str)=some (.ref lp):=look_hit
theorem f6_ends (lw lp:Addr) (n:Int) (lq lb le:Addr):(f6 lw lp n lq lb le).lookup ("ends":Str)=some (.ref le):=look_hit
theorem f6_begins (lw lp:Addr) (n:Int) (lq lb le:Addr):(f6 lw lp n lq lb le).lookup ("begins":Str)=some (.ref lb):=look_miss (by decide +kernel) look_hit
theorem f6_prices (lw lp:Addr) (n:Int) (lq lb le:Addr):(f6 lw lp n lq lb le).lookup ("prices":Str)=some (.ref lq):=look_miss (by decide +kernel) (look_miss (by decide +kernel) look_hit)
theorem f6_last (lw lp:Addr) (n:Int) (lq lb le:Addr):(f6 lw lp n lq lb le).lookup ("last":Str)=some (.int n):=look_miss (by decide +kernel) (look_miss (by decide +kernel) (look_miss (by decide +kernel) look_hit))
theorem f6_pieces (lw lp:Addr) (n:Int) (lq lb le:Addr):(f6 lw lp n lq lb le).lookup ("pieces":Str)=some (.ref lp):=look_miss (by decide +kernel) (look_miss (by decide +kernel) (look_miss (by decide +kernel) (look_miss (by decide +kernel) look_hit)))
theorem f6_widths (lw lp:Addr) (n:Int) (lq lb le:Addr):(f6 lw lp n lq lb le).lookup ("widths":Str)=some (.ref lw):=look_miss (by decide +kernel) (look_miss (by decide +kernel) (look_miss (by decide +kernel) (look_miss (by decide +kernel) (look_miss (by decide +kernel) look_hit))))
theorem f6_no {m:Str} (lw lp:Addr) (n:Int) (lq lb le:Addr) (h1:¬ m="ends") (h2:¬ m="begins") (h3:¬ m="prices") (h4:¬ m="last") (h5:¬ m="pieces") (h6:¬ m="widths"):(f6 lw lp n lq lb le).lookup m=none :=
 look_miss h1 (look_miss h2 (look_miss h3 (look_miss h4 (look_miss h5 (look_miss h6 rfl)))))
structure TxtS (K:PySem.W.Frag) (C:Addr):Prop where
 cl:Cls K C
 w:NoAttr K C "widths"
 p:NoAttr K C "pieces"
 l:NoAttr K C "last"
 q:NoAttr K C "prices"
 b:NoAttr K C "begins"
 e:NoAttr K C "ends"
def begL (ps:List Str) (js:List Bool) (n:Nat):List V:=(List.range n).map fun i=>V.int (off ps js i)
def endL (ps:List Str) (js:List Bool) (n:Nat):List V:=(List.range (n + 1)).map fun i=>V.int (endAt ps js i)
def priceL (js:List Bool) (jt:Int):List V:=js.map fun b=>V.int (if b=true then jt else 0)
theorem begL_succ (ps:List Str) (js:List Bool) (n:Nat):begL ps js (n + 1)=begL ps js n ++ [V.int (off ps js n)]:=by
 unfold begL
 rw [List.range_succ,List.map_append]
 rfl
theorem endL_succ (ps:List Str) (js:List Bool) (n:Nat):endL ps js (n + 1)=endL ps js n ++ [V.int (endAt ps js (n + 1))]:=by
 unfold endL
 rw [List.range_succ (n:=n + 1),List.map_append]
 rfl
def SetAt (C:Addr) (H:Hp) (x:Addr) (ws:List (List Str)) (jt:Int) (wd:List Int):Prop :=
 ∃ dx lw lp lq lb le,H x=some (.ins C dx (f6 lw lp (ws.flatten.length:Int) lq lb le))∧H lw=some (.lst (wd.map V.int))∧H lp=some (.lst (ws.flatten.map V.str))∧H lq=some (.lst (priceL (joints ws) jt)) ∧
  H lb=some (.lst (begL ws.flatten (joints ws) ws.flatten.length))∧H le=some (.lst (endL ws.flatten (joints ws) ws.flatten.length))
def spInit (K:PySem.W.Frag) (C:Addr):Sp:=fun vs H Q _=>∃ (x dx a wl:Addr) (ws:List (List Str)) (jt:Int) (wd:List Int),vs=[.ref x,.ref a,.int jt,.ref wl]∧H x=some (.ins C dx [])∧WordsAt H a ws∧Short ws∧ws.flatten.length ≤ 1000 ∧
 H wl=some (.lst (wd.map V.int))∧∀ (H':Hp),Keep x H H'→SetAt C H' x ws jt wd→Q .non H'
section
variable {P:Program} {w:World} {K:PySem.W.Frag} {mg:Str→Option Value} {base:Heap}
theorem scInit:FnScope ["self","words","joint","widths","joints","across","place","piece"] ["self","words","joint","widths"] (defScope sInit):=⟨rfl,rfl,rfl,by decide +kernel,rfl,by decide +kernel,by decide +kernel⟩
theorem ok_init {f C fP fJ:Addr} {fd fdP fdJ:FuncData} (F:Fun K "__init__" "Setting.__init__" sInit f fd) (N:Names mg) (T:TxtS K C) (FP:Fun K "pieces_of" "pieces_of" sPieces fP fdP) (bP:Binds K fdP ["words"] []) (mP:mg "pieces_of"=some (.ref fP))
  (FJ:Fun K "joints_of" "joints_of" sJoints fJ fdJ) (bJ:Binds K fdJ ["words"] []) (mJ:mg "joints_of"=some (.ref fJ)):FnOk P w K mg base CX0 2 f fd ["self","words","joint","widths"] (spInit K C):=by
 have GP:FnOk P w K mg base CX0 1 fP fdP ["words"] spPieces:=ok_pieces FP
 have GJ:FnOk P w K mg base CX0 1 fJ fdJ ["words"] spJoints:=ok_joints FJ N
 refine F.ok scInit (fun vs H Q E h=>?_) (fun cdv A outer s H vs Q E hr h=>?_)
 ·obtain ⟨x,dx,a,wl,ws,jt,wd,e,_⟩:=h
  rw [e]
  rfl
 ·obtain ⟨x,dx,a,wl,ws,jt,wd,e,hx,hW,hS,hn,hwl,k⟩:=h
  subst e
  refine ⟨_,pss_cons (ps_fld (pv 0) (pe_callTy call_list_of (by rfl) N.list PyProof.Rows.boot_list (pa_cons (pv 3) pa_nil)) rfl)
   (pss_cons (ps_fld (pv 0) (pe_call GP hr rfl mP FP.kp bP .nil pass0 (pa_cons (pv 1) pa_nil)) rfl)
   (pss_cons (ps_fld (pv 0) (pe_callB call_len_seq (by rfl) N.len PySem.boot_len (pa_cons (pe_fld (pv 0) rfl) pa_nil)) rfl)
   (pss_cons (ps_set (i:=4) scInit.nd rfl (Or.inl rfl) (pe_call GJ hr rfl mJ FJ.kp bJ .nil pass0 (pa_cons (pv 1) pa_nil)))
   (pss_cons (ps_fld (pv 0) (pe_comp (compSc_mk (fs:=defScope sInit) (N:=["self","words","joint","widths","joints","across","place","piece"]) rfl rfl (by decide +kernel)) rfl (pi_list (pv 4)) (fun _ _ _ _ _=>pts_nil) (fun _ _ _ _ _=>pe_ifExp (pt_val (pv 0)) (pv 3) pe_int)) rfl)
   (pss_cons (ps_fld (pv 0) (pe_lst pa_nil) rfl)
   (pss_cons (ps_fld (pv 0) (pe_lst (pa_cons pe_int pa_nil)) rfl)
   (pss_cons (ps_set (i:=5) scInit.nd rfl (Or.inl rfl) pe_int)
   (pss_one (ps_for PassesOwn.never rfl (pi_enL rfl N.enum (pa_cons (pe_fld (pv 0) rfl) pa_nil) (pk_cons pe_int pk_nil)) (pg_tup rfl (pgs_cons (pg_name (i:=6) scInit.nd rfl (Or.inl rfl)) (pgs_cons (pg_name (i:=7) scInit.nd rfl (Or.inl rfl)) pgs_nil)))
    (pss_cons (ps_expr (pe_bm PySem.F.plainAttrs_list PySem.F.slot_list_append PySem.F.type_list_append mt_append (pe_fld (pv 0) rfl) (pa_cons (pv 5) pa_nil)))
    (pss_cons (ps_set (i:=5) scInit.nd rfl (Or.inl rfl) (pe_op op_add (pv 5) (pe_callB call_len_str (by rfl) N.len PySem.boot_len (pa_cons (pv 7) pa_nil))))
    (pss_one (ps_if (pt_val (pe_ix ix_list (pv 4) (pv 6) (fun _ _=>rfl)))
     (pss_one (ps_expr (pe_bm PySem.F.plainAttrs_list PySem.F.slot_list_append PySem.F.type_list_append mt_append (pe_fld (pv 0) rfl) (pa_cons (pe_op op_add (pv 5) pe_int) pa_nil))))
     (pss_cons (ps_expr (pe_bm PySem.F.plainAttrs_list PySem.F.slot_list_append PySem.F.type_list_append mt_append (pe_fld (pv 0) rfl) (pa_cons (pv 5) pa_nil)))
      (pss_one (ps_set (i:=5) scInit.nd rfl (Or.inl rfl) (pe_op op_add (pv 5) pe_int))))))))))))))))),?_⟩
  -- self.widths=list(widths)
  refine ⟨_,rfl,wl,_,rfl,.inl (SqL.of hwl),fun lw hlw=>?_⟩
  have nxw:x ≠ lw:=ne_of_none hx hlw
  refine ⟨_,rfl,x,C,dx,[],rfl,(by rw [upd_ne nxw]; exact hx),T.cl,T.w,(by show 0 < 1000; decide),?_⟩
  have k1:Keep x H (upd (upd H lw (.lst (wd.map V.int))) x (.ins C dx (f1 lw))):=((Keep.refl H).putN hlw).putX
  have w1:(upd (upd H lw (.lst (wd.map V.int))) x (.ins C dx (f1 lw))) lw=some (.lst (wd.map V.int)):=by rw [upd_ne (Ne.symm nxw),upd_same]
  have x1:(upd (upd H lw (.lst (wd.map V.int))) x (.ins C dx (f1 lw))) x=some (.ins C dx (f1 lw)):=upd_same
  generalize e1:upd (upd H lw (.lst (wd.map V.int))) x (.ins C dx (f1 lw))=H1 at k1 w1 x1
  show tSeq _ _ _ _ (upd (upd H lw (.lst (wd.map V.int))) x (.ins C dx (f1 lw)))
  rw [e1]
  -- self.pieces=pieces_of(words)
  refine ⟨_,rfl,a,ws,rfl,hW.keep hx k1,hn,fun lp H2 hlp s2 p2=>?_⟩
  have nxp:x ≠ lp:=ne_of_none x1 hlp
  have nwp:lw ≠ lp:=ne_of_none w1 hlp
  refine ⟨_,rfl,x,C,dx,_,rfl,s2 _ _ x1,T.cl,T.p,Nat.lt_of_le_of_lt (f1_len lw) (by decide),?_⟩
  have k2:Keep x H (upd H2 x (.ins C dx (f2 lw lp))):=(k1.same s2).putX
  have w2:(upd H2 x (.ins C dx (f2 lw lp))) lw=some (.lst (wd.map V.int)):=by rw [upd_ne (Ne.symm nxw)]; exact s2 _ _ w1
  have p2':(upd H2 x (.ins C dx (f2 lw lp))) lp=some (.lst (ws.flatten.map V.str)):=by rw [upd_ne (Ne.symm nxp)]; exact p2
  have x2:(upd H2 x (.ins C dx (f2 lw lp))) x=some (.ins C dx (f2 lw lp)):=upd_same
  generalize e2:upd H2 x (.ins C dx (f2 lw lp))=H3 at k2 w2 p2' x2
  show tSeq _ _ _ _ (upd H2 x (.ins C dx (f2 lw lp)))
  rw [e2]
  -- self.last=len(self.pieces)
  refine ⟨_,rfl,x,C,dx,_,_,rfl,x2,T.cl,T.p,f2_pieces _ _,lp,_,rfl,.inl (SqL.of p2'),?_⟩
  rw [List.length_map]
  refine ⟨_,rfl,x,C,dx,_,rfl,x2,T.cl,T.l,Nat.lt_of_le_of_lt (f2_len lw lp) (by decide),?_⟩
  have k3:Keep x H (upd H3 x (.ins C dx (f3 lw lp (ws.flatten.length:Int)))):=k2.putX
  have w3:(upd H3 x (.ins C dx (f3 lw lp (ws.flatten.length:Int)))) lw=some (.lst (wd.map V.int)):=by rw [upd_ne (Ne.symm nxw)]; exact w2
  have p3:(upd H3 x (.ins C dx (f3 lw lp (ws.flatten.length:Int)))) lp=some (.lst (ws.flatten.map V.str)):=by rw [upd_ne (Ne.symm nxp)]; exact p2'
  have x3:(upd H3 x (.ins C dx (f3 lw lp (ws.flatten.length:Int)))) x=some (.ins C dx (f3 lw lp (ws.flatten.length:Int))):=upd_same
  generalize e3:upd H3 x (.ins C dx (f3 lw lp (ws.flatten.length:Int)))=H4 at k3 w3 p3 x3
  show tSeq _ _ _ _ (upd H3 x (.ins C dx (f3 lw lp (ws.flatten.length:Int))))
  rw [e3]
  -- joints=joints_of(words)
  refine ⟨_,rfl,a,ws,rfl,hW.keep hx k3,hn,fun lj H5 hlj s5 j5=>?_⟩
  have nxj:x ≠ lj:=ne_of_none x3 hlj
  have k5:Keep x H H5:=k3.same s5
  have w5:=s5 _ _ w3
  have p5:=s5 _ _ p3
  have x5:=s5 _ _ x3
  -- self.prices=[.. for jointed in joints]
  refine ⟨_,rfl,lj,rfl,⟨_,SqL.of j5⟩,comp_list (K:=K) (fun v=>match v with | .bl b=>V.int (if b=true then jt else 0) | _=>.non) (SqL.of j5) (small (by rw [List.length_map,joints_len]; omega)) ?_ fun lq hlq=>?_⟩
  ·rintro D i y l Q' hD hy hQ'
   obtain ⟨b,rfl⟩:∃ b,y=V.bl b:=by
    rw [List.getElem?_map] at hy
    cases eb:(joints ws)[i]? with
    | none=>rw [eb] at hy; cases hy
    | some b=>rw [eb] at hy; exact ⟨b,(Option.some.inj hy).symm⟩
   refine ⟨_,rfl,_,rfl,?_⟩
   cases b with
   | true=>exact iteT ⟨_,rfl,hQ'⟩
   | false=>exact iteF hQ'
  have nxq:x ≠ lq:=ne_of_none x5 hlq
  have nwq:lw ≠ lq:=ne_of_none w5 hlq
  have npq:lp ≠ lq:=ne_of_none p5 hlq
  have njq:lj ≠ lq:=ne_of_none j5 hlq
  have eq:((joints ws).map V.bl).map (fun v=>match v with | .bl b=>V.int (if b=true then jt else 0) | _=>.non)=priceL (joints ws) jt:=by
   unfold priceL
   rw [List.map_map]
   rfl
  rw [eq]
  refine ⟨_,rfl,x,C,dx,_,rfl,(by rw [upd_ne nxq]; exact x5),T.cl,T.q,Nat.lt_of_le_of_lt (f3_len lw lp _) (by decide),?_⟩
  have fq:H lq=none:=k5.free x5 hlq
  have k6:Keep x H (upd (upd H5 lq (.lst (priceL (joints ws) jt))) x (.ins C dx (f4 lw lp (ws.flatten.length:Int) lq))):=(k5.putN fq).putX
  have w6:(upd (upd H5 lq (.lst (priceL (joints ws) jt))) x (.ins C dx (f4 lw lp (ws.flatten.length:Int) lq))) lw=some (.lst (wd.map V.int)):=by rw [upd_ne (Ne.symm nxw),upd_ne nwq]; exact w5
  have p6:(upd (upd H5 lq (.lst (priceL (joints ws) jt))) x (.ins C dx (f4 lw lp (ws.flatten.length:Int) lq))) lp=some (.lst (ws.flatten.map V.str)):=by rw [upd_ne (Ne.symm nxp),upd_ne npq]; exact p5
  have j6:(upd (upd H5 lq (.lst (priceL (joints ws) jt))) x (.ins C dx (f4 lw lp (ws.flatten.length:Int) lq))) lj=some (.lst ((joints ws).map V.bl)):=by rw [upd_ne (Ne.symm nxj),upd_ne njq]; exact j5
  have q6:(upd (upd H5 lq (.lst (priceL (joints ws) jt))) x (.ins C dx (f4 lw lp (ws.flatten.length:Int) lq))) lq=some (.lst (priceL (joints ws) jt)):=by rw [upd_ne (Ne.symm nxq),upd_same]
  have x6:(upd (upd H5 lq (.lst (priceL (joints ws) jt))) x (.ins C dx (f4 lw lp (ws.flatten.length:Int) lq))) x=some (.ins C dx (f4 lw lp (ws.flatten.length:Int) lq)):=upd_same
  generalize e6:upd (upd H5 lq (.lst (priceL (joints ws) jt))) x (.ins C dx (f4 lw lp (ws.flatten.length:Int) lq))=H6 at k6 w6 p6 j6 q6 x6
  show tSeq _ _ _ _ (upd (upd H5 lq (.lst (priceL (joints ws) jt))) x (.ins C dx (f4 lw lp (ws.flatten.length:Int) lq)))
  rw [e6]
  -- self.begins=[]
  refine ⟨smallE (by simp),fun lb hlb=>?_⟩
  have nxb:x ≠ lb:=ne_of_none x6 hlb
  have nwb:lw ≠ lb:=ne_of_none w6 hlb
  have npb:lp ≠ lb:=ne_of_none p6 hlb
  have njb:lj ≠ lb:=ne_of_none j6 hlb
  have nqb:lq ≠ lb:=ne_of_none q6 hlb
  have fb:H lb=none:=k6.free x6 hlb
  refine ⟨_,rfl,x,C,dx,_,rfl,(by rw [upd_ne nxb]; exact x6),T.cl,T.b,Nat.lt_of_le_of_lt (f4_len lw lp _ lq) (by decide),?_⟩
  have k7:Keep x H (upd (upd H6 lb (.lst [])) x (.ins C dx (f5 lw lp (ws.flatten.length:Int) lq lb))):=(k6.putN fb).putX
  have w7:(upd (upd H6 lb (.lst [])) x (.ins C dx (f5 lw lp (ws.flatten.length:Int) lq lb))) lw=some (.lst (wd.map V.int)):=by rw [upd_ne (Ne.symm nxw),upd_ne nwb]; exact w6
  have p7:(upd (upd H6 lb (.lst [])) x (.ins C dx (f5 lw lp (ws.flatten.length:Int) lq lb))) lp=some (.lst (ws.flatten.map V.str)):=by rw [upd_ne (Ne.symm nxp),upd_ne npb]; exact p6
  have j7:(upd (upd H6 lb (.lst [])) x (.ins C dx (f5 lw lp (ws.flatten.length:Int) lq lb))) lj=some (.lst ((joints ws).map V.bl)):=by rw [upd_ne (Ne.symm nxj),upd_ne njb]; exact j6
  have q7:(upd (upd H6 lb (.lst [])) x (.ins C dx (f5 lw lp (ws.flatten.length:Int) lq lb))) lq=some (.lst (priceL (joints ws) jt)):=by rw [upd_ne (Ne.symm nxq),upd_ne nqb]; exact q6
  have b7:(upd (upd H6 lb (.lst [])) x (.ins C dx (f5 lw lp (ws.flatten.length:Int) lq lb))) lb=some (.lst []):=by rw [upd_ne (Ne.symm nxb),upd_same]
  have x7:(upd (upd H6 lb (.lst [])) x (.ins C dx (f5 lw lp (ws.flatten.length:Int) lq lb))) x=some (.ins C dx (f5 lw lp (ws.flatten.length:Int) lq lb)):=upd_same
  generalize e7:upd (upd H6 lb (.lst [])) x (.ins C dx (f5 lw lp (ws.flatten.length:Int) lq lb))=H7 at k7 w7 p7 j7 q7 b7 x7
  show tSeq _ _ _ _ (upd (upd H6 lb (.lst [])) x (.ins C dx (f5 lw lp (ws.flatten.length:Int) lq lb)))
  rw [e7]
  -- self.ends=[0]
  refine ⟨smallE (by simp),fun le hle=>?_⟩
  have nxe:x ≠ le:=ne_of_none x7 hle
  have nwe:lw ≠ le:=ne_of_none w7 hle
  have npe:lp ≠ le:=ne_of_none p7 hle
  have nje:lj ≠ le:=ne_of_none j7 hle
  have nqe:lq ≠ le:=ne_of_none q7 hle
  have nbe:lb ≠ le:=ne_of_none b7 hle
  have fe:H le=none:=k7.free x7 hle
  refine ⟨_,rfl,x,C,dx,_,rfl,(by rw [upd_ne nxe]; exact x7),T.cl,T.e,Nat.lt_of_le_of_lt (f5_len lw lp _ lq lb) (by decide),?_⟩
  have k8:Keep x H (upd (upd H7 le (.lst [V.int 0])) x (.ins C dx (f6 lw lp (ws.flatten.length:Int) lq lb le))):=(k7.putN fe).putX
  have w8:(upd (upd H7 le (.lst [V.int 0])) x (.ins C dx (f6 lw lp (ws.flatten.length:Int) lq lb le))) lw=some (.lst (wd.map V.int)):=by rw [upd_ne (Ne.symm nxw),upd_ne nwe]; exact w7
  have p8:(upd (upd H7 le (.lst [V.int 0])) x (.ins C dx (f6 lw lp (ws.flatten.length:Int) lq lb le))) lp=some (.lst (ws.flatten.map V.str)):=by rw [upd_ne (Ne.symm nxp),upd_ne npe]; exact p7
  have j8:(upd (upd H7 le (.lst [V.int 0])) x (.ins C dx (f6 lw lp (ws.flatten.length:Int) lq lb le))) lj=some (.lst ((joints ws).map V.bl)):=by rw [upd_ne (Ne.symm nxj),upd_ne nje]; exact j7
  have q8:(upd (upd H7 le (.lst [V.int 0])) x (.ins C dx (f6 lw lp (ws.flatten.length:Int) lq lb le))) lq=some (.lst (priceL (joints ws) jt)):=by rw [upd_ne (Ne.symm nxq),upd_ne nqe]; exact q7
  have b8:(upd (upd H7 le (.lst [V.int 0])) x (.ins C dx (f6 lw lp (ws.flatten.length:Int) lq lb le))) lb=some (.lst []):=by rw [upd_ne (Ne.symm nxb),upd_ne nbe]; exact b7
  have n8:(upd (upd H7 le (.lst [V.int 0])) x (.ins C dx (f6 lw lp (ws.flatten.length:Int) lq lb le))) le=some (.lst [V.int 0]):=by rw [upd_ne (Ne.symm nxe),upd_same]
  have x8:(upd (upd H7 le (.lst [V.int 0])) x (.ins C dx (f6 lw lp (ws.flatten.length:Int) lq lb le))) x=some (.ins C dx (f6 lw lp (ws.flatten.length:Int) lq lb le)):=upd_same
  generalize e8:upd (upd H7 le (.lst [V.int 0])) x (.ins C dx (f6 lw lp (ws.flatten.length:Int) lq lb le))=H8 at k8 w8 p8 j8 q8 b8 n8 x8
  show tSeq _ _ _ _ (upd (upd H7 le (.lst [V.int 0])) x (.ins C dx (f6 lw lp (ws.flatten.length:Int) lq lb le)))
  rw [e8]
  clear e1 e2 e3 e6 e7 e8
  -- across=0; for place,piece in enumerate(self.pieces,start=1)
  refine ⟨_,rfl,x,C,dx,_,_,rfl,x8,T.cl,T.p,f6_pieces _ _ _ _ _ _,lp,1,rfl,rfl,rfl,⟨_,SqL.of p8⟩,?_⟩
  refine for_en (xs:=ws.flatten.map V.str) (fun i σ H9=>(∃ u v,σ=[some (.ref x),some (.ref a),some (.int jt),some (.ref wl),some (.ref lj),some (.int (off ws.flatten (joints ws) i)),u,v])∧Keep x H H9 ∧
    H9 x=some (.ins C dx (f6 lw lp (ws.flatten.length:Int) lq lb le))∧H9 lw=some (.lst (wd.map V.int))∧H9 lp=some (.lst (ws.flatten.map V.str))∧H9 lj=some (.lst ((joints ws).map V.bl))∧H9 lq=some (.lst (priceL (joints ws) jt)) ∧
    H9 lb=some (.lst (begL ws.flatten (joints ws) i))∧H9 le=some (.lst (endL ws.flatten (joints ws) i))) ⟨⟨_,_,rfl⟩,k8,x8,w8,p8,j8,q8,b8,n8⟩ (fun i σ H9 _ h9=>SqL.of h9.2.2.2.2.1) ?_ ?_
  ·rintro i y p σ H9 hy hp9 ⟨⟨u,v,rfl⟩,k9,x9,w9,p9,j9,q9,b9,n9⟩
   have hi:i < ws.flatten.length:=by
    have z:=get_lt hy
    rwa [List.length_map] at z
   obtain rfl:y=V.str (gp ws.flatten i):=by
    rw [gp_at hi] at hy
    exact (Option.some.inj hy).symm
   have fp:H p=none:=k9.free x9 hp9
   have nx:∀ {o:HO} {b:Addr} {z:HO},H9 b=some z→(upd H9 p o) b=some z:=fun {o b z} h=>by rw [upd_ne (ne_of_none h hp9)]; exact h
   refine ⟨p,_,rfl,SqT.of upd_same,rfl,_,_,rfl,_,_,rfl,rfl,?_⟩
   -- self.begins.append(across)
   refine ⟨_,rfl,x,C,dx,_,_,rfl,nx x9,T.cl,T.b,f6_begins _ _ _ _ _ _,.inl ⟨rfl,_,SqL.of (nx b9)⟩,_,rfl,lb,_,_,rfl,rfl,nx b9,small (by unfold begL; rw [List.length_map,List.length_range]; omega),?_⟩
   rw [← begL_succ]
   have gl:(gp ws.flatten i).length ≤ 12:=gp_len hS i
   -- across=across + len(piece)
   refine ⟨_,rfl,_,rfl,_,rfl,smallE (by omega),_,_,rfl,rfl,?_⟩
   have x10:(upd (upd H9 p (.tup [.int (1 + i),.str (gp ws.flatten i)])) lb (.lst (begL ws.flatten (joints ws) (i + 1)))) x=some (.ins C dx (f6 lw lp (ws.flatten.length:Int) lq lb le)):=by rw [upd_ne nxb]; exact nx x9
   have w10:(upd (upd H9 p (.tup [.int (1 + i),.str (gp ws.flatten i)])) lb (.lst (begL ws.flatten (joints ws) (i + 1)))) lw=some (.lst (wd.map V.int)):=by rw [upd_ne nwb]; exact nx w9
   have p10:(upd (upd H9 p (.tup [.int (1 + i),.str (gp ws.flatten i)])) lb (.lst (begL ws.flatten (joints ws) (i + 1)))) lp=some (.lst (ws.flatten.map V.str)):=by rw [upd_ne npb]; exact nx p9
   have j10:(upd (upd H9 p (.tup [.int (1 + i),.str (gp ws.flatten i)])) lb (.lst (begL ws.flatten (joints ws) (i + 1)))) lj=some (.lst ((joints ws).map V.bl)):=by rw [upd_ne njb]; exact nx j9
   have q10:(upd (upd H9 p (.tup [.int (1 + i),.str (gp ws.flatten i)])) lb (.lst (begL ws.flatten (joints ws) (i + 1)))) lq=some (.lst (priceL (joints ws) jt)):=by rw [upd_ne nqb]; exact nx q9
   have n10:(upd (upd H9 p (.tup [.int (1 + i),.str (gp ws.flatten i)])) lb (.lst (begL ws.flatten (joints ws) (i + 1)))) le=some (.lst (endL ws.flatten (joints ws) i)):=by rw [upd_ne (Ne.symm nbe)]; exact nx n9
   have b10:(upd (upd H9 p (.tup [.int (1 + i),.str (gp ws.flatten i)])) lb (.lst (begL ws.flatten (joints ws) (i + 1)))) lb=some (.lst (begL ws.flatten (joints ws) (i + 1))):=upd_same
   have k10:Keep x H (upd (upd H9 p (.tup [.int (1 + i),.str (gp ws.flatten i)])) lb (.lst (begL ws.flatten (joints ws) (i + 1)))):=(k9.putN fp).putN fb
   generalize upd (upd H9 p (.tup [.int (1 + i),.str (gp ws.flatten i)])) lb (.lst (begL ws.flatten (joints ws) (i + 1)))=H10 at *
   -- if joints[place]
   refine ⟨_,rfl,_,rfl,lj,_,_,_,rfl,rfl,SqL.of j10,atI_of (j:=i + 1) (by omega) (gj_at (by rw [joints_len]; omega)),_,rfl,?_⟩
   have el:(endL ws.flatten (joints ws) i).length ≤ 1001:=by unfold endL; rw [List.length_map,List.length_range]; omega
   have eo:off ws.flatten (joints ws) (i + 1)=off ws.flatten (joints ws) i + ((gp ws.flatten i).length:Int) + (if gj (joints ws) (i + 1)=true then 0 else 1):=rfl
   have ee:endAt ws.flatten (joints ws) (i + 1)=off ws.flatten (joints ws) i + ((gp ws.flatten i).length:Int) + (if gj (joints ws) (i + 1)=true then 1 else 0):=rfl
   cases hg:gj (joints ws) (i + 1) with
   | true =>
    rw [hg,if_pos rfl] at eo ee
    refine iteT ?_
    refine ⟨_,rfl,x,C,dx,_,_,rfl,x10,T.cl,T.e,f6_ends _ _ _ _ _ _,.inl ⟨rfl,_,SqL.of n10⟩,_,rfl,_,_,rfl,rfl,le,_,_,rfl,rfl,n10,small (by omega),?_⟩
    refine ⟨⟨_,_,by rw [eo,Int.add_zero]; rfl⟩,k10.putN fe,by rw [upd_ne nxe]; exact x10,by rw [upd_ne nwe]; exact w10,by rw [upd_ne npe]; exact p10,by rw [upd_ne nje]; exact j10,by rw [upd_ne nqe]; exact q10,by rw [upd_ne nbe]; exact b10,?_⟩
    rw [upd_same,endL_succ,ee]
   | false =>
    rw [hg,if_neg (by simp)] at eo ee
    refine iteF ?_
    refine ⟨_,rfl,x,C,dx,_,_,rfl,x10,T.cl,T.e,f6_ends _ _ _ _ _ _,.inl ⟨rfl,_,SqL.of n10⟩,_,rfl,le,_,_,rfl,rfl,n10,small (by omega),?_⟩
    refine ⟨_,rfl,_,_,rfl,rfl,?_⟩
    refine ⟨⟨_,_,by rw [eo]; rfl⟩,k10.putN fe,by rw [upd_ne nxe]; exact x10,by rw [upd_ne nwe]; exact w10,by rw [upd_ne npe]; exact p10,by rw [upd_ne nje]; exact j10,by rw [upd_ne nqe]; exact q10,by rw [upd_ne nbe]; exact b10,?_⟩
    rw [upd_same,endL_succ,ee,Int.add_zero]
  ·rintro σ H9 ⟨⟨u,v,rfl⟩,k9,x9,w9,p9,j9,q9,b9,n9⟩
   rw [List.length_map] at b9 n9
   exact k H9 k9 ⟨dx,lw,lp,lq,lb,le,x9,w9,p9,q9,b9,n9⟩
end
end B64
namespace B64
open PySem L2
def wAt (wd:List Int) (r:Nat):Int:=(wd[min r (wd.length - 1)]?).getD 0
def WideOk (wd:List Int):Prop:=wd ≠ []∧wd.length ≤ 1000∧∀ v ∈ wd,-1000000 ≤ v∧v ≤ 1000000
theorem WideOk.at {wd:List Int} (h:WideOk wd) (r:Nat):min r (wd.length - 1) < wd.length∧(wd.map V.int)[min r (wd.length - 1)]?=some (V.int (wAt wd r))∧-1000000 ≤ wAt wd r∧wAt wd r ≤ 1000000:=by
 have h0:0 < wd.length:=by
  cases e:wd with
  | nil=>exact absurd e h.1
  | cons x l=>simp
 have hl:min r (wd.length - 1) < wd.length:=by omega
 have e:wd[min r (wd.length - 1)]?=some (wAt wd r):=by
  unfold wAt
  rw [List.getElem?_eq_getElem hl]
  rfl
 have hm:=h.2.2 _ (List.mem_of_getElem? e)
 refine ⟨hl,?_,hm.1,hm.2⟩
 rw [List.getElem?_map,e]
 rfl
def price (js:List Bool) (jt:Int) (j:Nat):Int:=if gj js j=true then jt else 0
theorem price_at {js:List Bool} {jt:Int} {j:Nat} (h:j < js.length):(priceL js jt)[j]?=some (V.int (price js jt j)):=by
 unfold priceL price gj
 rw [List.getElem?_map,List.getElem?_eq_getElem h]
 rfl
theorem beg_at {ps:List Str} {js:List Bool} {n i:Nat} (h:i < n):(begL ps js n)[i]?=some (V.int (off ps js i)):=by
 unfold begL
 rw [List.getElem?_map,List.getElem?_range h]
 rfl
theorem end_at {ps:List Str} {js:List Bool} {n i:Nat} (h:i ≤ n):(endL ps js n)[i]?=some (V.int (endAt ps js i)):=by
 unfold endL
 rw [List.getElem?_map,List.getElem?_range (by omega)]
 rfl
def lenOf (ws:List (List Str)) (i j:Nat):Int:=endAt ws.flatten (joints ws) j - off ws.flatten (joints ws) i
def costOf (ws:List (List Str)) (jt:Int) (wd:List Int) (r i j:Nat):Int:=(wAt wd r - lenOf ws i j) ^ 2 + price (joints ws) jt j
def spWidth (C:Addr):Sp:=fun vs H Q _=>∃ (x:Addr) (ws:List (List Str)) (jt:Int) (wd:List Int) (r:Nat),vs=[.ref x,.int r]∧SetAt C H x ws jt wd∧WideOk wd∧Q (.int (wAt wd r)) H
def spLength (C:Addr):Sp:=fun vs H Q _=>∃ (x:Addr) (ws:List (List Str)) (jt:Int) (wd:List Int) (i j:Nat),vs=[.ref x,.int i,.int j]∧SetAt C H x ws jt wd∧i < j∧j ≤ ws.flatten.length∧Q (.int (lenOf ws i j)) H
def spCost (C:Addr):Sp:=fun vs H Q _=>∃ (x:Addr) (ws:List (List Str)) (jt:Int) (wd:List Int) (r i j:Nat),vs=[.ref x,.int r,.int i,.int j]∧SetAt C H x ws jt wd∧WideOk wd∧Short ws∧ws.flatten.length ≤ 1000∧i < j∧j ≤ ws.flatten.length∧Q (.int (costOf ws jt wd r i j)) H
section
variable {P:Program} {w:World} {K:PySem.W.Frag} {mg:Str→Option Value} {base:Heap}
theorem scWidth:FnScope ["self","row"] ["self","row"] (defScope sWidth):=⟨rfl,rfl,rfl,by decide +kernel,rfl,by decide +kernel,by decide +kernel⟩
theorem ok_width {f C:Addr} {fd:FuncData} (F:Fun K "width_at" "Setting.width_at" sWidth f fd) (N:Names mg) (T:TxtS K C):FnOk P w K mg base CX0 1 f fd ["self","row"] (spWidth C):=by
 refine F.ok scWidth (fun vs H Q E h=>?_) (fun cdv A outer s H vs Q E hr h=>?_)
 ·obtain ⟨x,ws,jt,wd,r,e,_⟩:=h
  rw [e]
  rfl
 ·obtain ⟨x,ws,jt,wd,r,e,⟨dx,lw,lp,lq,lb,le,hx,hw,hp,hq,hb,he⟩,ok,k⟩:=h
  subst e
  refine ⟨_,pss_one (ps_ret (pe_ix ix_list (pe_fld (pv 0) rfl) (pe_callB (call_min2 rfl) (by rfl) N.min PyProof.Rows.boot_min (pa_cons (pv 1) (pa_cons (pe_op op_sub (pe_callB call_len_seq (by rfl) N.len PySem.boot_len (pa_cons (pe_fld (pv 0) rfl) pa_nil)) pe_int) pa_nil))) (fun _ _=>rfl))),?_⟩
  obtain ⟨hl,hat,_⟩:=ok.at r
  refine ⟨_,rfl,x,C,dx,_,_,rfl,hx,T.cl,T.w,f6_widths _ _ _ _ _ _,_,rfl,_,rfl,x,C,dx,_,_,rfl,hx,T.cl,T.w,f6_widths _ _ _ _ _ _,lw,_,rfl,.inl (SqL.of hw),_,_,rfl,rfl,_,_,rfl,lw,_,_,_,rfl,rfl,SqL.of hw,atI_of ?_ hat,k⟩
  rw [List.length_map]
  split <;> omega
theorem scLength:FnScope ["self","start","till"] ["self","start","till"] (defScope sLength):=⟨rfl,rfl,rfl,by decide +kernel,rfl,by decide +kernel,by decide +kernel⟩
theorem ok_length {f C:Addr} {fd:FuncData} (F:Fun K "length_of" "Setting.length_of" sLength f fd) (T:TxtS K C):FnOk P w K mg base CX0 1 f fd ["self","start","till"] (spLength C):=by
 refine F.ok scLength (fun vs H Q E h=>?_) (fun cdv A outer s H vs Q E hr h=>?_)
 ·obtain ⟨x,ws,jt,wd,i,j,e,_⟩:=h
  rw [e]
  rfl
 ·obtain ⟨x,ws,jt,wd,i,j,e,⟨dx,lw,lp,lq,lb,le,hx,hw,hp,hq,hb,he⟩,hij,hj,k⟩:=h
  subst e
  refine ⟨_,pss_one (ps_ret (pe_op op_sub (pe_ix ix_list (pe_fld (pv 0) rfl) (pv 2) (fun _ _=>rfl)) (pe_ix ix_list (pe_fld (pv 0) rfl) (pv 1) (fun _ _=>rfl)))),?_⟩
  exact ⟨_,rfl,x,C,dx,_,_,rfl,hx,T.cl,T.e,f6_ends _ _ _ _ _ _,_,rfl,le,_,_,_,rfl,rfl,SqL.of he,atI_nat (end_at hj),_,rfl,x,C,dx,_,_,rfl,hx,T.cl,T.b,f6_begins _ _ _ _ _ _,_,rfl,lb,_,_,_,rfl,rfl,SqL.of hb,atI_nat (beg_at (by omega)),_,_,rfl,rfl,k⟩
theorem scCost:FnScope ["self","row","start","till"] ["self","row","start","till"] (defScope sCost):=⟨rfl,rfl,rfl,by decide +kernel,rfl,by decide +kernel,by decide +kernel⟩
theorem ok_cost {f C fW fL:Addr} {fd fdW fdL:FuncData} (F:Fun K "cost_at" "Setting.cost_at" sCost f fd) (N:Names mg) (T:TxtS K C) (FW:Fun K "width_at" "Setting.width_at" sWidth fW fdW) (bW:Binds K fdW ["self","row"] []) (mW:Meth K C "width_at" fW)
  (FL:Fun K "length_of" "Setting.length_of" sLength fL fdL) (bL:Binds K fdL ["self","start","till"] []) (mL:Meth K C "length_of" fL):FnOk P w K mg base CX0 2 f fd ["self","row","start","till"] (spCost C):=by
 have GW:FnOk P w K mg base CX0 1 fW fdW ["self","row"] (spWidth C):=ok_width FW N T
 have GL:FnOk P w K mg base CX0 1 fL fdL ["self","start","till"] (spLength C):=ok_length FL T
 refine F.ok scCost (fun vs H Q E h=>?_) (fun cdv A outer s H vs Q E hr h=>?_)
 ·obtain ⟨x,ws,jt,wd,r,i,j,e,_⟩:=h
  rw [e]
  rfl
 ·obtain ⟨x,ws,jt,wd,r,i,j,e,hS,ok,hSh,hn,hij,hj,k⟩:=h
  subst e
  obtain ⟨dx,lw,lp,lq,lb,le,hx,hw,hp,hq,hb,he⟩:=id hS
  refine ⟨_,pss_one (ps_ret (pe_op op_add (pe_op op_pow (pe_op op_sub (pe_meth (pv 0) T.cl mW GW hr bW .nil pass0 (pa_cons (pv 1) pa_nil)) (pe_meth (pv 0) T.cl mL GL hr bL .nil pass0 (pa_cons (pv 2) (pa_cons (pv 3) pa_nil)))) pe_int)
   (pe_ix ix_list (pe_fld (pv 0) rfl) (pv 3) (fun _ _=>rfl)))),?_⟩
  obtain ⟨_,_,lo,hi⟩:=ok.at r
  have fl:=full_len ws.flatten (joints ws) hij
  have fle:=full_le (joints ws) hSh i j
  have hlen:0 ≤ lenOf ws i j∧lenOf ws i j ≤ 13001:=by
   unfold lenOf
   omega
  refine ⟨_,rfl,x,dx,_,rfl,hx,f6_no _ _ _ _ _ _ (by decide +kernel) (by decide +kernel) (by decide +kernel) (by decide +kernel) (by decide +kernel) (by decide +kernel),_,rfl,x,ws,jt,wd,r,rfl,hS,ok,?_⟩
  refine ⟨_,rfl,x,dx,_,rfl,hx,f6_no _ _ _ _ _ _ (by decide +kernel) (by decide +kernel) (by decide +kernel) (by decide +kernel) (by decide +kernel) (by decide +kernel),_,rfl,_,rfl,x,ws,jt,wd,i,j,rfl,hS,hij,hj,?_⟩
  refine ⟨_,_,rfl,rfl,_,_,rfl,rfl,⟨by decide,by decide,by omega⟩,?_⟩
  exact ⟨_,rfl,x,C,dx,_,_,rfl,hx,T.cl,T.q,f6_prices _ _ _ _ _ _,_,rfl,lq,_,_,_,rfl,rfl,SqL.of hq,atI_nat (price_at (by rw [joints_len]; omega)),_,_,rfl,rfl,k⟩
end
end B64
namespace B64
open PySem L2
theorem cut_from1 (ns:List Int) {m:Nat} (h:ns.length=m + 1):∃ ms:List Int,cutV (ns.map V.int) (some 1) none=ms.map V.int∧ms.length=m:=by
 refine ⟨ns.drop 1,?_,by rw [List.length_drop]; omega⟩
 unfold cutV
 have e1:HT.sIx (ns.map V.int).length 0 (some (1:Int))=1:=by
  have q:=HT.sIx_nat (ns.map V.int).length 0 1
  rw [List.length_map] at *
  have c:((1:Nat):Int)=(1:Int):=rfl
  rw [c] at q
  rw [q]
  omega
 rw [e1,HT.sIx_none,← List.map_drop,List.take_of_length_le]
 rw [List.length_map,List.length_map,List.length_drop]
 omega
def spCell (K:PySem.W.Frag):Sp:=fun vs H Q _=>∃ (a:Addr) (k:Nat) (ns:List Int),vs=[.ref a,.int k]∧SqL K H a (ns.map V.int)∧ns.length ≤ 63∧∀ z:Int,Q (.int z) H
def spNumbers:Sp:=fun vs H Q _=>∃ (c:Int) (m:Nat),vs=[.int c,.int m]∧m ≤ 100∧∀ (l:Addr) (ns:List Int) (H':Hp),H l=none→Same H H'→H' l=some (.lst (ns.map V.int))→ns.length=m→Q (.ref l) H'
section
variable {P:Program} {w:World} {K:PySem.W.Frag} {mg:Str→Option Value} {base:Heap}
theorem scCell:FnScope ["_law_script","_law_k"] ["_law_script","_law_k"] (defScope sCell):=⟨rfl,rfl,rfl,by decide +kernel,rfl,by decide +kernel,by decide +kernel⟩
theorem ok_cell {f:Addr} {fd:FuncData} (F:Fun K "_law_cell_at" "_law_cell_at" sCell f fd) (N:Names mg):FnOk P w K mg base CX0 1 f fd ["_law_script","_law_k"] (spCell K):=by
 refine F.ok scCell (fun vs H Q E h=>?_) (fun cdv A outer s H vs Q E hr h=>?_)
 ·obtain ⟨a,k,ns,e,_⟩:=h
  rw [e]
  rfl
 ·obtain ⟨a,k,ns,e,hS,hn,q⟩:=h
  subst e
  refine ⟨_,pss_cons (ps_if (pt_cmpR op_lt (pv 1) (pe_callB call_len_seq (by rfl) N.len PySem.boot_len (pa_cons (pv 0) pa_nil)) (nomark _)) (pss_one (ps_ret (pe_ix ix_list (pv 0) (pv 1) (fun _ _=>rfl)))) pss_nil) (pss_one (ps_ret pe_int)),?_⟩
  refine ⟨_,rfl,_,rfl,a,_,rfl,.inl hS,_,_,rfl,rfl,_,rfl,?_⟩
  refine ite2 (fun hc=>?_) (fun hc=>q 0)
  have hk:k < ns.length:=by
   have z:=of_decide_eq_true hc
   rw [List.length_map] at z
   omega
  exact ⟨_,rfl,_,rfl,a,_,_,_,rfl,rfl,hS,atI_nat (by rw [List.getElem?_map,List.getElem?_eq_getElem hk]; rfl),q _⟩
theorem scNumbers:FnScope ["_law_cell","_law_many","_law_found","_law_number","_law_k"] ["_law_cell","_law_many"] (defScope sNumbers):=⟨rfl,rfl,rfl,by decide +kernel,rfl,by decide +kernel,by decide +kernel⟩
theorem ok_numbers {f:Addr} {fd:FuncData} (F:Fun K "_law_numbers" "_law_numbers" sNumbers f fd) (N:Names mg):FnOk P w K mg base CX0 1 f fd ["_law_cell","_law_many"] spNumbers:=by
 refine F.ok scNumbers (fun vs H Q E h=>?_) (fun cdv A outer s H vs Q E hr h=>?_)
 ·obtain ⟨c,m,e,_⟩:=h
  rw [e]
  rfl
 ·obtain ⟨c,m,e,hm,q⟩:=h
  subst e
  have app:=fun {X:Cx}=>@mt_append X
  refine ⟨_,pss_cons (ps_set (i:=2) scNumbers.nd rfl (Or.inl rfl) (pe_lst pa_nil))
   (pss_cons (ps_set (i:=3) scNumbers.nd rfl (Or.inl rfl) (pe_op op_sub (pv 0) (pe_op op_pow pe_int pe_int)))
   (pss_cons (ps_if (pt_cmpR op_ge (pv 3) pe_int (nomark _))
    (pss_cons (ps_for PassesOwn.never rfl (pi_range1 rfl N.range (pa_cons (pv 1) pa_nil)) (pg_name (i:=4) scNumbers.nd rfl (Or.inl rfl))
     (pss_cons (ps_expr (pe_bm PySem.F.plainAttrs_list PySem.F.slot_list_append PySem.F.type_list_append mt_append (pv 2) (pa_cons (pe_op op_mod (pv 3) pe_int) pa_nil)))
      (pss_one (ps_set (i:=3) scNumbers.nd rfl (Or.inl rfl) (pe_op op_fdiv (pv 3) pe_int)))))
     (pss_one (ps_ret (pv 2)))) pss_nil)
   (pss_cons (ps_set (i:=3) scNumbers.nd rfl (Or.inl rfl) (pe_op op_mod (pv 0) pe_int))
   (pss_cons (ps_for PassesOwn.never rfl (pi_range1 rfl N.range (pa_cons (pe_op op_add (pv 1) pe_int) pa_nil)) (pg_name (i:=4) scNumbers.nd rfl (Or.inl rfl))
     (pss_cons (ps_set (i:=3) scNumbers.nd rfl (Or.inl rfl) (pe_op op_mod (pe_op op_mul (pe_op op_add (pe_op op_add (pv 3) (pv 4)) pe_int) pe_int) pe_int))
      (pss_one (ps_expr (pe_bm PySem.F.plainAttrs_list PySem.F.slot_list_append PySem.F.type_list_append mt_append (pv 2) (pa_cons (pe_op op_mod (pe_op op_mul (pv 3) pe_int) pe_int) pa_nil))))))
   (pss_one (ps_ret (pe_slice sl_list (pv 2) (po_some pe_int) po_none))))))),?_⟩
  refine ⟨smallE (by simp),fun l hl=>?_⟩
  refine ⟨_,rfl,_,_,rfl,rfl,⟨by decide,by decide,by decide⟩,_,_,rfl,rfl,?_⟩
  refine ⟨_,rfl,_,_,rfl,rfl,_,rfl,?_⟩
  refine ite2 (fun _=>?_) (fun _=>?_)
  ·refine ⟨_,rfl,(m:Int),rfl,by omega,by omega,?_⟩
   have en:((m:Int)).toNat=m:=by omega
   rw [en]
   refine for_range (n:=m) (fun i σ H2=>∃ (z:Int) (v:Option V) (ns:List Int),σ=[some (.int c),some (.int m),some (.ref l),some (.int z),v]∧Same H H2∧H2 l=some (.lst (ns.map V.int))∧ns.length=i) ⟨_,_,[],rfl,Same.put (Same.refl H) hl,upd_same,rfl⟩ ?_ ?_
   ·rintro i σ H2 hi ⟨z,v,ns,rfl,s2,h2,hlen⟩
    refine ⟨_,rfl,.inl ⟨rfl,_,SqL.of h2⟩,_,rfl,_,_,rfl,rfl,(by show (0:Int) < 5040; decide),l,_,_,rfl,rfl,h2,small (by rw [List.length_map]; omega),?_⟩
    refine ⟨_,rfl,_,_,rfl,rfl,⟨by decide,by decide⟩,?_⟩
    refine ⟨_,_,ns ++ [z % 5040],rfl,Same.put s2 hl,?_,by rw [List.length_append,hlen]; rfl⟩
    rw [upd_same,List.map_append]
    rfl
   ·rintro σ H2 ⟨z,v,ns,rfl,s2,h2,hlen⟩
    exact ⟨_,rfl,q l ns H2 hl s2 h2 hlen⟩
  ·refine ⟨_,rfl,_,_,rfl,rfl,(by show (0:Int) < 2147483647; decide),?_⟩
   refine ⟨_,rfl,_,_,rfl,rfl,(m:Int) + 1,rfl,by omega,by omega,?_⟩
   have en:((m:Int) + 1).toNat=m + 1:=by omega
   rw [en]
   refine for_range (n:=m + 1) (fun i σ H2=>∃ (z:Int) (v:Option V) (ns:List Int),σ=[some (.int c),some (.int m),some (.ref l),some (.int z),v]∧Same H H2∧H2 l=some (.lst (ns.map V.int))∧ns.length=i) ⟨_,_,[],rfl,Same.put (Same.refl H) hl,upd_same,rfl⟩ ?_ ?_
   ·rintro i σ H2 hi ⟨z,v,ns,rfl,s2,h2,hlen⟩
    refine ⟨_,rfl,_,rfl,_,_,rfl,rfl,_,_,rfl,rfl,_,_,rfl,rfl,.inr ⟨by decide,by decide⟩,_,_,rfl,rfl,(by show (0:Int) < 2147483647; decide),?_⟩
    refine ⟨_,rfl,.inl ⟨rfl,_,SqL.of h2⟩,_,rfl,_,_,rfl,rfl,.inr ⟨by decide,by decide⟩,_,_,rfl,rfl,(by show (0:Int) < 2147483629; decide),l,_,_,rfl,rfl,h2,small (by rw [List.length_map]; omega),?_⟩
    refine ⟨_,_,ns ++ [(z + (0 + (i:Int)) + 1) * 48271 % 2147483647 * 69621 % 2147483629],rfl,Same.put s2 hl,?_,by rw [List.length_append,hlen]; rfl⟩
    rw [upd_same,List.map_append]
    rfl
   ·rintro σ H2 ⟨z,v,ns,rfl,s2,h2,hlen⟩
    obtain ⟨ms,ecut,hms⟩:=cut_from1 ns hlen
    refine ⟨_,rfl,_,rfl,l,_,rfl,SqL.of h2,fun p hp=>?_⟩
    rw [ecut]
    exact q p ms _ (s2.free hp) (Same.put s2 (s2.free hp)) upd_same hms
end
end B64
namespace B64
open PySem L2
structure Mid (H H2:Hp) (l lw:Addr) (ws:List (List Str)) (cur:List Str):Prop where
 same:Same H H2
 fl:H l=none
 fw:H lw=none
 ne:lw ≠ l
 ex:∃ as:List Addr,H2 l=some (.lst (as.map V.ref))∧as.length=ws.length∧∀ (i:Nat) (p:Addr) (w:List Str),as[i]?=some p→ws[i]?=some w→H2 p=some (.tup (w.map V.str))
 hw:H2 lw=some (.lst (cur.map V.str))
 full:∀ w ∈ ws,w ≠ []
 shrt:∀ x ∈ ws.flatten,x.length ≤ 12
 shrtC:∀ x ∈ cur,x.length ≤ 12
theorem Mid.step {H H2 H3:Hp} {l lw:Addr} {ws:List (List Str)} {cur:List Str} (m:Mid H H2 l lw ws cur) (s:Same H2 H3):Mid H H3 l lw ws cur:=by
 obtain ⟨as,h1,h2,h3⟩:=m.ex
 exact ⟨Same.trans m.same s,m.fl,m.fw,m.ne,⟨as,s _ _ h1,h2,fun i p w e1 e2=>s _ _ (h3 i p w e1 e2)⟩,s _ _ m.hw,m.full,m.shrt,m.shrtC⟩
theorem Mid.app {H H2:Hp} {l lw:Addr} {ws:List (List Str)} {cur:List Str} {x:Str} (m:Mid H H2 l lw ws cur) (hx:x.length ≤ 12):Mid H (upd H2 lw (.lst (cur.map V.str ++ [V.str x]))) l lw ws (cur ++ [x]):=by
 obtain ⟨as,h1,h2,h3⟩:=m.ex
 refine ⟨Same.put m.same m.fw,m.fl,m.fw,m.ne,⟨as,by rw [upd_ne (Ne.symm m.ne)]; exact h1,h2,fun i p w e1 e2=>?_⟩,by rw [upd_same,List.map_append]; rfl,m.full,m.shrt,fun y hy=>?_⟩
 ·have q:=h3 i p w e1 e2
  rw [upd_ne (ne_of q m.hw (by intro z; cases z))]
  exact q
 ·rcases List.mem_append.mp hy with z | z
  ·exact m.shrtC y z
  ·rw [List.mem_singleton.mp z]; exact hx
theorem snoc_get {α:Type} {l:List α} {x y:α} {i:Nat} (h:(l ++ [x])[i]?=some y):l[i]?=some y ∨ (i=l.length∧y=x):=by
 by_cases hi:i < l.length
 ·rw [List.getElem?_append_left hi] at h
  exact .inl h
 ·rw [List.getElem?_append_right (by omega)] at h
  have hz:i - l.length < 1:=by
   have z:=get_lt h
   simpa using z
  have e:i=l.length:=by omega
  subst e
  simp at h
  exact .inr ⟨rfl,h.symm⟩
theorem Mid.flush {H H2:Hp} {l lw p:Addr} {ws:List (List Str)} {cur:List Str} (m:Mid H H2 l lw ws cur) (hp:H2 p=none) (hc:cur ≠ []) :
  ∃ as:List Addr,(upd H2 p (.tup (cur.map V.str))) l=some (.lst (as.map V.ref))∧as.length=ws.length∧Same H (upd (upd H2 p (.tup (cur.map V.str))) l (.lst (as.map V.ref ++ [V.ref p]))) ∧
   ∀ (i:Nat) (q:Addr) (w:List Str),(as ++ [p])[i]?=some q→(ws ++ [cur])[i]?=some w→(upd (upd H2 p (.tup (cur.map V.str))) l (.lst (as.map V.ref ++ [V.ref p]))) q=some (.tup (w.map V.str)):=by
 obtain ⟨as,h1,h2,h3⟩:=m.ex
 have npl:l ≠ p:=ne_of_none h1 hp
 refine ⟨as,by rw [upd_ne npl]; exact h1,h2,Same.put (Same.put m.same (m.same.free hp)) m.fl,fun i q w e1 e2=>?_⟩
 rcases snoc_get e1 with z | ⟨z1,z2⟩
 ·have hi:=get_lt z
  have e2':ws[i]?=some w:=by
   rw [List.getElem?_append_left (by omega)] at e2
   exact e2
  have g:=h3 i q w z e2'
  rw [upd_ne (ne_of g h1 (by intro z; cases z)),upd_ne (ne_of_none g hp)]
  exact g
 ·subst z2
  have ew:w=cur:=by
   rcases snoc_get e2 with y | ⟨_,y⟩
   ·have:=get_lt y
    omega
   ·exact y
  subst ew
  rw [upd_ne (Ne.symm npl),upd_same]
theorem abc_len:("abcde":Str).length=5:=by decide +kernel
def spWords (K:PySem.W.Frag):Sp:=fun vs H Q _=>∃ (a:Addr) (ns:List Int),vs=[.ref a]∧SqL K H a (ns.map V.int)∧ns.length ≤ 63 ∧
 ∀ (t:Addr) (ws:List (List Str)) (H':Hp),Same H H'→WordsAt H' t ws→Short ws→(∀ w ∈ ws,w ≠ [])→ws.flatten.length=ns.length→Q (.ref t) H'
section
variable {P:Program} {w:World} {K:PySem.W.Frag} {mg:Str→Option Value} {base:Heap}
theorem scWords:FnScope ["_law_cells","_law_words_here","_law_word","_law_cell","_law_some"] ["_law_cells"] (defScope sWords):=⟨rfl,rfl,rfl,by decide +kernel,rfl,by decide +kernel,by decide +kernel⟩
theorem ok_words {f fN:Addr} {fd fdN:FuncData} (F:Fun K "_law_words" "_law_words" sWords f fd) (N:Names mg) (FN:Fun K "_law_numbers" "_law_numbers" sNumbers fN fdN) (bN:Binds K fdN ["_law_cell","_law_many"] []) (mN:mg "_law_numbers"=some (.ref fN))
  : FnOk P w K mg base CX0 2 f fd ["_law_cells"] (spWords K):=by
 have GN:FnOk P w K mg base CX0 1 fN fdN ["_law_cell","_law_many"] spNumbers:=ok_numbers FN N
 refine F.ok scWords (fun vs H Q E h=>?_) (fun cdv A outer s H vs Q E hr h=>?_)
 ·obtain ⟨a,ns,e,_⟩:=h
  rw [e]
  rfl
 ·obtain ⟨a,ns,e,hS,hn,q⟩:=h
  subst e
  refine ⟨_,pss_cons (ps_set (i:=1) scWords.nd rfl (Or.inl rfl) (pe_lst pa_nil))
   (pss_cons (ps_set (i:=2) scWords.nd rfl (Or.inl rfl) (pe_lst pa_nil))
   (pss_cons (ps_for PassesOwn.never rfl (pi_list (pv 0)) (pg_name (i:=3) scWords.nd rfl (Or.inl rfl))
    (pss_cons (ps_set (i:=4) scWords.nd rfl (Or.inl rfl) (pe_call GN hr rfl mN FN.kp bN .nil pass0 (pa_cons (pv 3) (pa_cons pe_int pa_nil))))
    (pss_cons (ps_expr (pe_bm PySem.F.plainAttrs_list PySem.F.slot_list_append PySem.F.type_list_append mt_append (pv 2) (pa_cons (pe_slice sl_str pe_str po_none (po_some (pe_op op_add pe_int (pe_op op_mod (pe_ix ix_list (pv 4) pe_int (fun _ _=>rfl)) pe_int)))) pa_nil)))
    (pss_one (ps_if (pw_or (pt_cmpR op_eq (pe_op op_mod (pe_ix ix_list (pv 4) pe_int (fun _ _=>rfl)) pe_int) pe_int (nomark _)) (pw_or1 (pt_cmpR op_eq (pe_callB call_len_seq (by rfl) N.len PySem.boot_len (pa_cons (pv 2) pa_nil)) pe_int (nomark _)))).pt
     (pss_cons (ps_expr (pe_bm PySem.F.plainAttrs_list PySem.F.slot_list_append PySem.F.type_list_append mt_append (pv 1) (pa_cons (pe_callTy call_tuple_of (by rfl) N.tuple PyProof.Rows.boot_tuple (pa_cons (pv 2) pa_nil)) pa_nil)))
      (pss_one (ps_set (i:=2) scWords.nd rfl (Or.inl rfl) (pe_lst pa_nil)))) pss_nil)))))
   (pss_cons (ps_if (pt_cmpR op_gt (pe_callB call_len_seq (by rfl) N.len PySem.boot_len (pa_cons (pv 2) pa_nil)) pe_int (nomark _))
     (pss_one (ps_expr (pe_bm PySem.F.plainAttrs_list PySem.F.slot_list_append PySem.F.type_list_append mt_append (pv 1) (pa_cons (pe_callTy call_tuple_of (by rfl) N.tuple PyProof.Rows.boot_tuple (pa_cons (pv 2) pa_nil)) pa_nil)))) pss_nil)
   (pss_one (ps_ret (pe_callTy call_tuple_of (by rfl) N.tuple PyProof.Rows.boot_tuple (pa_cons (pv 1) pa_nil))))))),?_⟩
  refine ⟨smallE (by simp),fun l hl=>?_⟩
  refine ⟨smallE (by simp),fun lw0 hlw0=>?_⟩
  have f0:H lw0=none:=(Same.put (Same.refl H) hl).free hlw0
  have n0:lw0 ≠ l:=fun z=>by rw [z,upd_same] at hlw0; cases hlw0
  have m0:Mid H (upd (upd H l (.lst [])) lw0 (.lst [])) l lw0 [] []:=⟨Same.put (Same.put (Same.refl H) hl) f0,hl,f0,n0,⟨[],by rw [upd_ne (Ne.symm n0),upd_same]; rfl,rfl,fun i p w e=>by simp at e⟩,upd_same,by simp,by simp,by simp⟩
  refine ⟨_,rfl,a,rfl,⟨_,m0.same.seq hS⟩,for_list (K:=K) (a:=a) (xs:=ns.map V.int) (fun i σ H2=>∃ (lw:Addr) (ws:List (List Str)) (cur:List Str) (u v:Option V),σ=[some (.ref a),some (.ref l),some (.ref lw),u,v]∧Mid H H2 l lw ws cur∧cur.length < 3∧ws.flatten.length + cur.length=i∧ws.length ≤ i)
   ⟨lw0,[],[],_,_,rfl,m0,by simp,by simp,by simp⟩ (fun i σ H2 _ ⟨_,_,_,_,_,_,m,_⟩=>m.same.seq hS) ?_ ?_⟩
  ·rintro i y σ H2 hy ⟨lw,ws,cur,u,v,rfl,m,h6,hsum,hle⟩
   have hi:i < 63:=by
    have z:=get_lt hy
    rw [List.length_map] at z
    omega
   obtain ⟨z,rfl⟩:∃ z,y=V.int z:=by
    rw [List.getElem?_map] at hy
    cases e:ns[i]? with
    | none=>rw [e] at hy; cases hy
    | some z=>rw [e] at hy; exact ⟨z,(Option.some.inj hy).symm⟩
   refine ⟨_,rfl,z,2,rfl,by decide,fun ls nn H3 hls s3 h3 hnn=>?_⟩
   have m3:=m.step s3
   have g0:(nn.map V.int)[0]?=some (V.int (nn.getD 0 0)):=by
    match nn,hnn with
    | [_,_],_=>rfl
   have g1:(nn.map V.int)[1]?=some (V.int (nn.getD 1 0)):=by
    match nn,hnn with
    | [_,_],_=>rfl
   refine ⟨_,rfl,.inl ⟨rfl,_,SqL.of m3.hw⟩,_,rfl,ls,_,_,_,rfl,rfl,SqL.of h3,atI_nat (j:=0) g0,_,_,rfl,rfl,(by show (0:Int) < 5; decide),_,_,rfl,rfl,_,rfl,"abcde",rfl,smallE (by rw [abc_len]; omega),fun x hx5=>?_⟩
   have hx:x.length ≤ 12:=by rw [abc_len] at hx5; omega
   have m4:=m3
   have h4:=h3
   refine ⟨lw,_,_,rfl,rfl,m4.hw,small (by rw [List.length_map]; omega),?_⟩
   have m5:=m4.app hx
   have nls:ls ≠ lw:=fun e=>by
    subst e
    rw [m.hw] at hls
    cases hls
   have h5:(upd H3 lw (.lst (cur.map V.str ++ [V.str x]))) ls=some (.lst (nn.map V.int)):=by rw [upd_ne nls]; exact h4
   generalize upd H3 lw (.lst (cur.map V.str ++ [V.str x]))=H5 at m5 h5
   have hcl:(cur ++ [x]).length=cur.length + 1:=by simp
   have go:∀ (D:Ends),(∀ (lw':Addr) (u v:Option V) (H9:Hp),Mid H H9 l lw' (ws ++ [cur ++ [x]]) []→D.nx [some (.ref a),some (.ref l),some (.ref lw'),u,v] H9) →
     tSeq (tDrop (tBM K "list" rAppend (tVar 1) (tCons (tCB (fun xs H Q=>∃ p ys,xs=[.ref p]∧((SqL K H p ys∧∀ l,H l=none→Q (.ref l) (upd H l (.tup ys))) ∨ (SqT K H p ys∧Q (.ref p) H))) (tCons (tVar 2) tNil)) tNil))) (tAsg (tLst tNil) (gName 2)) D
      [some (.ref a),some (.ref l),some (.ref lw),some (.int z),some (.ref ls)] H5:=fun D hD=>by
    obtain ⟨as0,e0,_⟩:=m5.ex
    refine ⟨_,rfl,.inl ⟨rfl,_,SqL.of e0⟩,_,rfl,lw,_,rfl,.inl ⟨SqL.of m5.hw,fun p hp=>?_⟩⟩
    obtain ⟨as,g1,g2,g3,g4⟩:=m5.flush hp (by simp)
    refine ⟨l,_,_,rfl,rfl,g1,small (by rw [List.length_map]; omega),?_⟩
    refine ⟨smallE (by simp),fun lw' hlw'=>?_⟩
    have fw':H lw'=none:=g3.free hlw'
    have nl':lw' ≠ l:=fun e=>by rw [e,upd_same] at hlw'; cases hlw'
    refine hD lw' _ _ _ ⟨Same.put g3 fw',m5.fl,fw',nl',⟨as ++ [p],by rw [upd_ne (Ne.symm nl'),upd_same,List.map_append]; rfl,by rw [List.length_append,List.length_append,g2]; rfl,fun i q w e1 e2=>?_⟩,upd_same,?_,?_,by simp⟩
    ·have g:=g4 i q w e1 e2
     rw [upd_ne (ne_of_none g hlw')]
     exact g
    ·intro w hw
     rcases List.mem_append.mp hw with y | y
     ·exact m5.full w y
     ·rw [List.mem_singleton.mp y]; simp
    ·intro y hy
     rw [List.flatten_append] at hy
     rcases List.mem_append.mp hy with y' | y'
     ·exact m5.shrt y y'
     ·have:y ∈ cur ++ [x]:=by simpa using y'
      exact m5.shrtC y this
   have done:∀ (lw':Addr) (u v:Option V) (H9:Hp),Mid H H9 l lw' (ws ++ [cur ++ [x]]) []→∃ (lw:Addr) (ws:List (List Str)) (cur:List Str) (u' v':Option V),([some (.ref a),some (.ref l),some (.ref lw'),u,v]:List (Option V))=[some (.ref a),some (.ref l),some (.ref lw),u',v']∧Mid H H9 l lw ws cur∧cur.length < 3∧ws.flatten.length + cur.length=i + 1∧ws.length ≤ i + 1:=fun lw' u v H9 m9=>by
    refine ⟨lw',_,_,u,v,rfl,m9,by simp,?_,by rw [List.length_append]; simp; omega⟩
    rw [List.flatten_append,List.length_append,show ([cur ++ [x]]:List (List Str)).flatten=cur ++ [x] from by simp,List.length_nil]
    omega
   refine ⟨_,rfl,ls,_,_,_,rfl,rfl,SqL.of h5,atI_nat (j:=1) g1,_,_,rfl,rfl,(by show (0:Int) < 2; decide),rfl,_,rfl,?_⟩
   refine ite2 (fun _=>?_) (fun _=>?_)
   ·refine iteT ?_
    exact go _ done
   ·refine ⟨_,rfl,lw,_,rfl,.inl (SqL.of m5.hw),rfl,_,rfl,?_⟩
    refine ite2 (fun _=>?_) (fun hc=>?_)
    ·exact go _ done
    ·have hlt:(cur ++ [x]).length < 3:=by
      have hne:¬ (V.int (((cur ++ [x]).map V.str).length:Int)=V.int 3):=fun e=>hc (decide_eq_true e)
      rw [List.length_map] at hne
      have:¬ ((cur ++ [x]).length:Int)=3:=fun e=>hne (by rw [e])
      omega
     exact ⟨lw,ws,cur ++ [x],_,_,rfl,m5,hlt,by omega,by omega⟩
  ·rintro σ H2 ⟨lw,ws,cur,u,v,rfl,m,h6,hsum,hle⟩
   rw [List.length_map] at hsum hle
   refine ⟨_,rfl,lw,_,rfl,.inl (SqL.of m.hw),_,_,rfl,rfl,_,rfl,?_⟩
   have fin:∀ (H9:Hp) (as:List Addr) (vs:List (List Str)),Same H H9→H9 l=some (.lst (as.map V.ref))→as.length=vs.length→(∀ (i:Nat) (p:Addr) (w:List Str),as[i]?=some p→vs[i]?=some w→H9 p=some (.tup (w.map V.str)))→Short vs→(∀ w ∈ vs,w ≠ [])→vs.flatten.length=ns.length →
     tRet (tCB (fun xs H Q=>∃ p ys,xs=[.ref p]∧((SqL K H p ys∧∀ l,H l=none→Q (.ref l) (upd H l (.tup ys))) ∨ (SqT K H p ys∧Q (.ref p) H))) (tCons (tVar 1) tNil)) { nx:=fun _ H'=>Q .non H',rt:=Q } [some (.ref a),some (.ref l),some (.ref lw),u,v] H9:=fun H9 as vs s9 h9 e9 g9 sh9 fu9 le9=>by
    refine ⟨_,rfl,l,_,rfl,.inl ⟨SqL.of h9,fun t ht=>?_⟩⟩
    refine q t vs _ (Same.put s9 (s9.free ht)) ⟨as,upd_same,e9,fun i p w e1 e2=>?_⟩ sh9 fu9 le9
    have g:=g9 i p w e1 e2
    rw [upd_ne (ne_of_none g ht)]
    exact g
   refine ite2 (fun hc=>?_) (fun hc=>?_)
   ·have hcur:cur ≠ []:=fun e=>by
     subst e
     simp at hc
    obtain ⟨as0,e0,_⟩:=m.ex
    refine ⟨_,rfl,.inl ⟨rfl,_,SqL.of e0⟩,_,rfl,lw,_,rfl,.inl ⟨SqL.of m.hw,fun p hp=>?_⟩⟩
    obtain ⟨as,g1,g2,g3,g4⟩:=m.flush hp hcur
    refine ⟨l,_,_,rfl,rfl,g1,small (by rw [List.length_map]; omega),?_⟩
    refine fin _ (as ++ [p]) (ws ++ [cur]) g3 (by rw [upd_same,List.map_append]; rfl) (by rw [List.length_append,List.length_append,g2]; rfl) g4 ?_ ?_ ?_
    ·intro y hy
     rw [List.flatten_append] at hy
     rcases List.mem_append.mp hy with y' | y'
     ·exact m.shrt y y'
     ·have:y ∈ cur:=by simpa using y'
      exact m.shrtC y this
    ·intro w hw
     rcases List.mem_append.mp hw with y | y
     ·exact m.full w y
     ·rw [List.mem_singleton.mp y]; exact hcur
    ·rw [List.flatten_append,List.length_append,show ([cur]:List (List Str)).flatten=cur from by simp]
     omega
   ·have hcur:cur=[]:=by
     cases e:cur with
     | nil=>rfl
     | cons b c =>
      rw [e] at hc
      exact absurd (by simp) hc
    subst hcur
    obtain ⟨as,e1,e2,e3⟩:=m.ex
    exact fin H2 as ws m.same e1 e2 e3 m.shrt m.full (by simpa using hsum)
end
end B64
namespace B64
open PySem L2
theorem SetAt.same {C:Addr} {H H':Hp} {x:Addr} {ws:List (List Str)} {jt:Int} {wd:List Int} (h:SetAt C H x ws jt wd) (s:Same H H'):SetAt C H' x ws jt wd:=by
 obtain ⟨dx,lw,lp,lq,lb,le,h1,h2,h3,h4,h5,h6⟩:=h
 exact ⟨dx,lw,lp,lq,lb,le,s _ _ h1,s _ _ h2,s _ _ h3,s _ _ h4,s _ _ h5,s _ _ h6⟩
def fitB (ws:List (List Str)) (wd:List Int) (r i j:Nat):Bool:=decide (lenOf ws i j ≤ wAt wd r)
def emptyC (wd:List Int) (r:Nat):Int:=wAt wd r ^ 2
def mayB (ws:List (List Str)) (wd:List Int) (r p:Nat):Bool:=decide (p < ws.flatten.length) && !fitB ws wd r p (p + 1)
def tillsL (ws:List (List Str)) (wd:List Int) (r i m:Nat):List Nat:=((List.range m).map fun k=>i + 1 + k).filter fun j=>fitB ws wd r i j
def stepsL (ws:List (List Str)) (jt:Int) (wd:List Int) (r i:Nat):List (Nat × Int) :=
 (tillsL ws wd r i (ws.flatten.length - (i + 1))).map (fun j=>(j,costOf ws jt wd r i j)) ++ if mayB ws wd r i=true then [(i,emptyC wd r)] else []
theorem tillsL_succ (ws:List (List Str)) (wd:List Int) (r i m:Nat):tillsL ws wd r i (m + 1)=tillsL ws wd r i m ++ if fitB ws wd r i (i + 1 + m)=true then [i + 1 + m] else []:=by
 unfold tillsL
 rw [List.range_succ,List.map_append,List.filter_append]
 congr 1
 show List.filter _ [i + 1 + m]=_
 rw [List.filter_cons,List.filter_nil]
theorem tillsL_len (ws:List (List Str)) (wd:List Int) (r i m:Nat):(tillsL ws wd r i m).length ≤ m:=by
 unfold tillsL
 refine Nat.le_trans (List.length_filter_le _ _) ?_
 rw [List.length_map,List.length_range]
 exact Nat.le_refl _
theorem tillsL_mem {ws:List (List Str)} {wd:List Int} {r i m j:Nat} (h:j ∈ tillsL ws wd r i m):i < j∧j < i + 1 + m:=by
 unfold tillsL at h
 obtain ⟨k,hk,e⟩:=List.mem_map.mp (List.mem_filter.mp h).1
 have:=List.mem_range.mp hk
 omega
theorem stepsL_len (ws:List (List Str)) (jt:Int) (wd:List Int) (r i:Nat):(stepsL ws jt wd r i).length ≤ ws.flatten.length + 1:=by
 unfold stepsL
 have:=tillsL_len ws wd r i (ws.flatten.length - (i + 1))
 rw [List.length_append,List.length_map]
 split
 ·rw [List.length_singleton]; omega
 ·rw [List.length_nil]; omega
def Base (C:Addr) (H:Hp) (x:Addr) (ws:List (List Str)) (jt:Int) (wd:List Int):Prop:=SetAt C H x ws jt wd∧WideOk wd∧Short ws∧ws.flatten.length ≤ 1000
theorem Base.same {C:Addr} {H H':Hp} {x:Addr} {ws:List (List Str)} {jt:Int} {wd:List Int} (h:Base C H x ws jt wd) (s:Same H H'):Base C H' x ws jt wd:=⟨h.1.same s,h.2⟩
def spFits (C:Addr):Sp:=fun vs H Q _=>∃ (x:Addr) (ws:List (List Str)) (jt:Int) (wd:List Int) (r i j:Nat),vs=[.ref x,.int r,.int i,.int j]∧Base C H x ws jt wd∧i < j∧j ≤ ws.flatten.length∧Q (.bl (fitB ws wd r i j)) H
def spEmpty (C:Addr):Sp:=fun vs H Q _=>∃ (x:Addr) (ws:List (List Str)) (jt:Int) (wd:List Int) (r:Nat),vs=[.ref x,.int r]∧Base C H x ws jt wd∧Q (.int (emptyC wd r)) H
def spMay (C:Addr):Sp:=fun vs H Q _=>∃ (x:Addr) (ws:List (List Str)) (jt:Int) (wd:List Int) (r p:Nat),vs=[.ref x,.int r,.int p]∧Base C H x ws jt wd∧Q (.bl (mayB ws wd r p)) H
def PairsAt (H:Hp) (l:Addr) (ps:List (Nat × Int)):Prop:=∃ as:List Addr,H l=some (.lst (as.map V.ref))∧as.length=ps.length∧∀ (k:Nat) (p:Addr) (q:Nat × Int),as[k]?=some p→ps[k]?=some q→H p=some (.tup [.int (q.1:Int),.int q.2])
def spSteps (C:Addr):Sp:=fun vs H Q _=>∃ (x:Addr) (ws:List (List Str)) (jt:Int) (wd:List Int) (r i:Nat),vs=[.ref x,.int r,.int i]∧Base C H x ws jt wd∧i ≤ ws.flatten.length ∧
 ∀ (l:Addr) (H':Hp),Same H H'→PairsAt H' l (stepsL ws jt wd r i)→Q (.ref l) H'
section
variable {P:Program} {w:World} {K:PySem.W.Frag} {mg:Str→Option Value} {base:Heap}
theorem scFits:FnScope ["self","row","start","till"] ["self","row","start","till"] (defScope sFits):=⟨rfl,rfl,rfl,by decide +kernel,rfl,by decide +kernel,by decide +kernel⟩
theorem ok_fits {f C fW fL:Addr} {fd fdW fdL:FuncData} (F:Fun K "fits" "Setting.fits" sFits f fd) (N:Names mg) (T:TxtS K C) (FW:Fun K "width_at" "Setting.width_at" sWidth fW fdW) (bW:Binds K fdW ["self","row"] []) (mW:Meth K C "width_at" fW)
  (FL:Fun K "length_of" "Setting.length_of" sLength fL fdL) (bL:Binds K fdL ["self","start","till"] []) (mL:Meth K C "length_of" fL):FnOk P w K mg base CX0 2 f fd ["self","row","start","till"] (spFits C):=by
 have GW:FnOk P w K mg base CX0 1 fW fdW ["self","row"] (spWidth C):=ok_width FW N T
 have GL:FnOk P w K mg base CX0 1 fL fdL ["self","start","till"] (spLength C):=ok_length FL T
 refine F.ok scFits (fun vs H Q E h=>?_) (fun cdv A outer s H vs Q E hr h=>?_)
 ·obtain ⟨x,ws,jt,wd,r,i,j,e,_⟩:=h
  rw [e]
  rfl
 ·obtain ⟨x,ws,jt,wd,r,i,j,e,⟨hS,ok,hSh,hn⟩,hij,hj,k⟩:=h
  subst e
  obtain ⟨dx,lw,lp,lq,lb,le,hx,hw,hp,hq,hb,he⟩:=id hS
  refine ⟨_,pss_one (ps_ret (pe_cmpR op_le (pe_meth (pv 0) T.cl mL GL hr bL .nil pass0 (pa_cons (pv 2) (pa_cons (pv 3) pa_nil))) (pe_meth (pv 0) T.cl mW GW hr bW .nil pass0 (pa_cons (pv 1) pa_nil)) (nomark _))),?_⟩
  refine ⟨_,rfl,x,dx,_,rfl,hx,f6_no _ _ _ _ _ _ (by decide +kernel) (by decide +kernel) (by decide +kernel) (by decide +kernel) (by decide +kernel) (by decide +kernel),_,rfl,_,rfl,x,ws,jt,wd,i,j,rfl,hS,hij,hj,?_⟩
  refine ⟨_,rfl,x,dx,_,rfl,hx,f6_no _ _ _ _ _ _ (by decide +kernel) (by decide +kernel) (by decide +kernel) (by decide +kernel) (by decide +kernel) (by decide +kernel),_,rfl,x,ws,jt,wd,r,rfl,hS,ok,?_⟩
  exact ⟨_,_,rfl,rfl,k⟩
theorem scEmpty:FnScope ["self","row"] ["self","row"] (defScope sEmpty):=⟨rfl,rfl,rfl,by decide +kernel,rfl,by decide +kernel,by decide +kernel⟩
theorem ok_empty {f C fW:Addr} {fd fdW:FuncData} (F:Fun K "empty_cost_at" "Setting.empty_cost_at" sEmpty f fd) (N:Names mg) (T:TxtS K C) (FW:Fun K "width_at" "Setting.width_at" sWidth fW fdW) (bW:Binds K fdW ["self","row"] []) (mW:Meth K C "width_at" fW) :
  FnOk P w K mg base CX0 2 f fd ["self","row"] (spEmpty C):=by
 have GW:FnOk P w K mg base CX0 1 fW fdW ["self","row"] (spWidth C):=ok_width FW N T
 refine F.ok scEmpty (fun vs H Q E h=>?_) (fun cdv A outer s H vs Q E hr h=>?_)
 ·obtain ⟨x,ws,jt,wd,r,e,_⟩:=h
  rw [e]
  rfl
 ·obtain ⟨x,ws,jt,wd,r,e,⟨hS,ok,hSh,hn⟩,k⟩:=h
  subst e
  obtain ⟨dx,lw,lp,lq,lb,le,hx,hw,hp,hq,hb,he⟩:=id hS
  obtain ⟨_,_,lo,hi⟩:=ok.at r
  refine ⟨_,pss_one (ps_ret (pe_op op_pow (pe_meth (pv 0) T.cl mW GW hr bW .nil pass0 (pa_cons (pv 1) pa_nil)) pe_int)),?_⟩
  refine ⟨_,rfl,x,dx,_,rfl,hx,f6_no _ _ _ _ _ _ (by decide +kernel) (by decide +kernel) (by decide +kernel) (by decide +kernel) (by decide +kernel) (by decide +kernel),_,rfl,x,ws,jt,wd,r,rfl,hS,ok,?_⟩
  exact ⟨_,_,rfl,rfl,⟨by decide,by decide,by omega⟩,k⟩
theorem scMay:FnScope ["self","row","place"] ["self","row","place"] (defScope sMay):=⟨rfl,rfl,rfl,by decide +kernel,rfl,by decide +kernel,by decide +kernel⟩
theorem ok_may {f C fF:Addr} {fd fdF:FuncData} (F:Fun K "may_be_empty" "Setting.may_be_empty" sMay f fd) (T:TxtS K C) (GF:FnOk P w K mg base CX0 2 fF fdF ["self","row","start","till"] (spFits C)) (bF:Binds K fdF ["self","row","start","till"] []) (mF:Meth K C "fits" fF) :
  FnOk P w K mg base CX0 3 f fd ["self","row","place"] (spMay C):=by
 refine F.ok scMay (fun vs H Q E h=>?_) (fun cdv A outer s H vs Q E hr h=>?_)
 ·obtain ⟨x,ws,jt,wd,r,p,e,_⟩:=h
  rw [e]
  rfl
 ·obtain ⟨x,ws,jt,wd,r,p,e,hB,k⟩:=h
  subst e
  obtain ⟨dx,lw,lp,lq,lb,le,hx,hw,hp,hq,hb,he⟩:=id hB.1
  refine ⟨_,pss_one (ps_ret (pe_and (pe_cmpR op_lt (pv 2) (pe_fld (pv 0) rfl) (nomark _)) (pe_one (pe_not (pe_meth (pv 0) T.cl mF GF hr bF .nil pass0 (pa_cons (pv 1) (pa_cons (pv 2) (pa_cons (pe_op op_add (pv 2) pe_int) pa_nil)))))))),?_⟩
  refine ⟨_,rfl,_,rfl,x,C,dx,_,_,rfl,hx,T.cl,T.l,f6_last _ _ _ _ _ _,_,_,rfl,rfl,_,rfl,?_⟩
  unfold mayB at k
  by_cases hlt:p < ws.flatten.length
  ·rw [decide_eq_true (show (p:Int) < ((ws.flatten.length:Nat):Int) by omega)]
   refine iteT ?_
   refine ⟨_,rfl,x,dx,_,rfl,hx,f6_no _ _ _ _ _ _ (by decide +kernel) (by decide +kernel) (by decide +kernel) (by decide +kernel) (by decide +kernel) (by decide +kernel),_,rfl,_,rfl,_,rfl,_,_,rfl,rfl,x,ws,jt,wd,r,p,p + 1,rfl,hB,by omega,by omega,_,rfl,?_⟩
   rw [decide_eq_true hlt,Bool.true_and] at k
   exact k
  ·rw [decide_eq_false (show ¬ (p:Int) < ((ws.flatten.length:Nat):Int) by omega)]
   refine iteF ?_
   rw [decide_eq_false hlt,Bool.false_and] at k
   exact k
abbrev nSteps:List Str:=["self","row","start","tills","told"]
theorem scSteps:FnScope nSteps ["self","row","start"] (defScope sSteps):=⟨rfl,rfl,rfl,by decide +kernel,rfl,by decide +kernel,by decide +kernel⟩
theorem ok_steps {f C fF fC fE fM:Addr} {fd dF dC dE dM:FuncData} (F:Fun K "steps_at" "Setting.steps_at" sSteps f fd) (N:Names mg) (T:TxtS K C)
  (GF:FnOk P w K mg base CX0 2 fF dF ["self","row","start","till"] (spFits C)) (bF:Binds K dF ["self","row","start","till"] []) (mF:Meth K C "fits" fF)
  (GC:FnOk P w K mg base CX0 2 fC dC ["self","row","start","till"] (spCost C)) (bC:Binds K dC ["self","row","start","till"] []) (mC:Meth K C "cost_at" fC)
  (GE:FnOk P w K mg base CX0 2 fE dE ["self","row"] (spEmpty C)) (bE:Binds K dE ["self","row"] []) (mE:Meth K C "empty_cost_at" fE)
  (GM:FnOk P w K mg base CX0 3 fM dM ["self","row","place"] (spMay C)) (bM:Binds K dM ["self","row","place"] []) (mM:Meth K C "may_be_empty" fM) :
  FnOk P w K mg base CX0 4 f fd ["self","row","start"] (spSteps C):=by
 refine F.ok scSteps (fun vs H Q E h=>?_) (fun cdv A outer s H vs Q E hr h=>?_)
 ·obtain ⟨x,ws,jt,wd,r,i,e,_⟩:=h
  rw [e]
  rfl
 ·obtain ⟨x,ws,jt,wd,r,i,e,hB,hi,k⟩:=h
  subst e
  have hr2:Room 2 _:=hr.mono (by decide)
  obtain ⟨dx,lw,lp,lq,lb,le,hx,_⟩:=id hB.1
  have hn:=hB.2.2.2
  refine ⟨_,pss_cons (ps_setComp (i:=3) (compSc_mk (fs:=defScope sSteps) (N:=nSteps) rfl rfl (by decide +kernel)) rfl scSteps.nd rfl (Or.inl rfl) (pi_range2 rfl N.range (pa_cons (pe_op op_add (pv 2) pe_int) (pa_cons (pe_fld (pv 0) rfl) pa_nil)))
     (fun _ _ _ _ _=>pts_one (pt_val (pe_meth (pv 1) T.cl mF GF hr2 bF .nil pass0 (pa_cons (pv 2) (pa_cons (pv 3) (pa_cons (pv 0) pa_nil)))))) (fun _ _ _ _ _=>pv 0) rfl)
   (pss_cons (ps_setComp (i:=4) (compSc_mk (fs:=defScope sSteps) (N:=nSteps) rfl rfl (by decide +kernel)) rfl scSteps.nd rfl (Or.inl rfl) (pi_list (pv 3)) (fun _ _ _ _ _=>pts_nil)
     (fun _ _ _ _ _=>pe_tup (pa_cons (pv 0) (pa_cons (pe_meth (pv 1) T.cl mC GC hr2 bC .nil pass0 (pa_cons (pv 2) (pa_cons (pv 3) (pa_cons (pv 0) pa_nil)))) pa_nil))) rfl)
   (pss_cons (ps_if (pt_val (pe_meth (pv 0) T.cl mM GM hr bM .nil pass0 (pa_cons (pv 1) (pa_cons (pv 2) pa_nil))))
     (pss_one (ps_expr (pe_bm PySem.F.plainAttrs_list PySem.F.slot_list_append PySem.F.type_list_append mt_append (pv 4) (pa_cons (pe_tup (pa_cons (pv 2) (pa_cons (pe_meth (pv 0) T.cl mE GE hr2 bE .nil pass0 (pa_cons (pv 1) pa_nil)) pa_nil))) pa_nil)))) pss_nil)
   (pss_one (ps_ret (pv 4))))),?_⟩
  have no6:∀ {m:Str} {n:Int},(¬ m="ends")→(¬ m="begins")→(¬ m="prices")→(¬ m="last")→(¬ m="pieces")→(¬ m="widths")→(f6 lw lp n lq lb le).lookup m=none:=fun h1 h2 h3 h4 h5 h6=>f6_no _ _ _ _ _ _ h1 h2 h3 h4 h5 h6
  -- tills
  refine ⟨_,rfl,_,_,rfl,rfl,_,rfl,x,C,dx,_,_,rfl,hx,T.cl,T.l,f6_last _ _ _ _ _ _,_,_,rfl,⟨by omega,by omega,by omega,by omega⟩,?_⟩
  have en:(((ws.flatten.length:Nat):Int) - ((i:Int) + 1)).toNat=ws.flatten.length - (i + 1):=by omega
  refine (show CompGo (Itr ((i:Int) + 1) (((ws.flatten.length:Nat):Int) - ((i:Int) + 1)).toNat) _ _ _ _ _ from ?_)
  rw [en]
  refine comp_rangeG (fun D m l H'=>H'=upd H D (.lst l)∧H D=none∧l=(tillsL ws wd r i m).map (fun (j:Nat)=>V.int (j:Int))) (small (by omega)) (fun D hD=>⟨rfl,hD,rfl⟩) (fun D m l H' h=>by rw [h.2.2,List.length_map]; exact tillsL_len _ _ _ _ _) ?_ ?_
  ·rintro D m l H' Q1 hm ⟨rfl,hD,rfl⟩ kk
   have s1:Same H (upd H D (.lst ((tillsL ws wd r i m).map fun (j:Nat)=>V.int (j:Int)))):=Same.put (Same.refl H) hD
   have ej:(i:Int) + 1 + (m:Int)=((i + 1 + m:Nat):Int):=by omega
   refine ⟨_,rfl,x,dx,_,rfl,s1 _ _ hx,no6 (by decide +kernel) (by decide +kernel) (by decide +kernel) (by decide +kernel) (by decide +kernel) (by decide +kernel),_,rfl,_,rfl,_,rfl,x,ws,jt,wd,r,i,i + 1 + m,by rw [ej]; rfl,hB.same s1,by omega,by omega,_,rfl,?_⟩
   refine kk _ _ (fun hb=>⟨rfl,hD,?_⟩) fun hb Q' hQ'=>⟨_,rfl,hQ' _ _ upd_same ⟨by rw [upd_upd],hD,?_⟩⟩
   ·rw [tillsL_succ,hb,if_neg (by simp),List.append_nil]
   ·rw [tillsL_succ,hb,if_pos rfl,List.map_append,ej]
    rfl
  rintro lt l H1 ⟨rfl,hlt,rfl⟩
  have s1:Same H (upd H lt (.lst ((tillsL ws wd r i (ws.flatten.length - (i + 1))).map fun (j:Nat)=>V.int (j:Int)))):=Same.put (Same.refl H) hlt
  have t1:(upd H lt (.lst ((tillsL ws wd r i (ws.flatten.length - (i + 1))).map fun (j:Nat)=>V.int (j:Int)))) lt=some (.lst ((tillsL ws wd r i (ws.flatten.length - (i + 1))).map fun (j:Nat)=>V.int (j:Int))):=upd_same
  have tl:=tillsL_len ws wd r i (ws.flatten.length - (i + 1))
  have tm:∀ j ∈ tillsL ws wd r i (ws.flatten.length - (i + 1)),i < j∧j ≤ ws.flatten.length:=fun j hj=>by
   have:=tillsL_mem hj
   omega
  have eS:stepsL ws jt wd r i=(tillsL ws wd r i (ws.flatten.length - (i + 1))).map (fun j=>(j,costOf ws jt wd r i j)) ++ if mayB ws wd r i=true then [(i,emptyC wd r)] else []:=rfl
  generalize tillsL ws wd r i (ws.flatten.length - (i + 1))=ts at *
  generalize upd H lt (.lst (ts.map fun (j:Nat)=>V.int (j:Int)))=H1 at *
  have hx1:=s1 _ _ hx
  have hB1:=hB.same s1
  -- told
  refine ⟨_,rfl,lt,rfl,⟨_,SqL.of t1⟩,comp_listG (K:=K) (xs:=ts.map fun (j:Nat)=>V.int (j:Int)) (fun D m l H'=>Same H1 H'∧H1 D=none∧m ≤ ts.length∧H' D=some (.lst l)∧∃ as:List Addr,l=as.map V.ref∧as.length=m∧∀ (q:Nat) (p:Addr) (j:Nat),as[q]?=some p→ts[q]?=some j→H' p=some (.tup [.int (j:Int),.int (costOf ws jt wd r i j)])) (small (by rw [List.length_map]; omega))
   (fun D hD=>⟨Same.put (Same.refl _) hD,hD,Nat.zero_le _,upd_same,[],rfl,rfl,fun q p j e=>by simp at e⟩) (fun D m l H' h=>SqL.of (h.1 _ _ t1)) (fun D m l H' h=>by obtain ⟨_,_,_,_,as,e,e2,_⟩:=h; rw [e,List.length_map,e2]; exact Nat.le_refl _) ?_ ?_⟩
  ·rintro D m v l H' Q' hv ⟨s2,hD,hm,hDl,as,rfl,has,hg⟩ hQ'
   obtain ⟨j,hj,rfl⟩:∃ j:Nat,ts[m]?=some j∧v=V.int (j:Int):=by
    rw [List.getElem?_map] at hv
    cases ej:ts[m]? with
    | none=>rw [ej] at hv; cases hv
    | some j=>rw [ej] at hv; exact ⟨j,rfl,(Option.some.inj hv).symm⟩
   have hjr:=tm j (List.mem_of_getElem? hj)
   have hB2:=hB1.same s2
   refine ⟨_,rfl,_,rfl,x,dx,_,rfl,s2 _ _ hx1,no6 (by decide +kernel) (by decide +kernel) (by decide +kernel) (by decide +kernel) (by decide +kernel) (by decide +kernel),_,rfl,_,rfl,_,rfl,x,ws,jt,wd,r,i,j,rfl,hB2.1,hB2.2.1,hB2.2.2.1,hB2.2.2.2,hjr.1,hjr.2,?_⟩
   refine ⟨by show 2 ≤ sizeLine; decide,fun p hp=>?_⟩
   have nDp:D ≠ p:=ne_of_none hDl hp
   have hlm:=get_lt hj
   refine hQ' _ _ (by rw [upd_ne nDp]; exact hDl) ⟨Same.put (Same.put s2 (s2.free hp)) hD,hD,hlm,upd_same,as ++ [p],by rw [List.map_append]; rfl,by rw [List.length_append,has]; rfl,fun q p' j' e1 e2=>?_⟩
   rcases snoc_get e1 with z | ⟨z1,z2⟩
   ·have g:=hg q p' j' z e2
    rw [upd_ne (ne_of g hDl (by intro z; cases z)),upd_ne (ne_of_none g hp)]
    exact g
   ·subst z2
    have:j'=j:=by
     rw [z1,has,hj] at e2
     exact (Option.some.inj e2).symm
    subst this
    rw [upd_ne (Ne.symm nDp),upd_same]
  rintro ld l H2 ⟨s2,hD,_,hDl,as,rfl,has,hg⟩
  rw [List.length_map] at has
  have hx2:=s2 _ _ hx1
  have hB2:=hB1.same s2
  have s12:=Same.trans s1 s2
  have fld:H ld=none:=s1.free hD
  -- the empty row
  refine ⟨_,rfl,x,dx,_,rfl,hx2,no6 (by decide +kernel) (by decide +kernel) (by decide +kernel) (by decide +kernel) (by decide +kernel) (by decide +kernel),_,rfl,_,rfl,x,ws,jt,wd,r,i,rfl,hB2,_,rfl,?_⟩
  cases hm:mayB ws wd r i with
  | true =>
   rw [hm,if_pos rfl] at eS
   refine iteT ?_
   refine ⟨_,rfl,.inl ⟨rfl,_,SqL.of hDl⟩,_,rfl,_,rfl,x,dx,_,rfl,hx2,no6 (by decide +kernel) (by decide +kernel) (by decide +kernel) (by decide +kernel) (by decide +kernel) (by decide +kernel),_,rfl,x,ws,jt,wd,r,rfl,hB2,?_⟩
   refine ⟨by show 2 ≤ sizeLine; decide,fun p hp=>?_⟩
   have nDp:ld ≠ p:=ne_of_none hDl hp
   refine ⟨ld,_,_,rfl,rfl,by rw [upd_ne nDp]; exact hDl,small (by rw [List.length_map]; omega),?_⟩
   refine ⟨_,rfl,k ld _ (Same.put (Same.put s12 (s12.free hp)) fld) ⟨as ++ [p],by rw [upd_same,List.map_append]; rfl,by rw [eS,List.length_append,List.length_append,List.length_map,has]; rfl,fun q p' v e1 e2=>?_⟩⟩
   rw [eS] at e2
   rcases snoc_get e1 with z | ⟨z1,z2⟩
   ·have hq:=get_lt z
    rw [List.getElem?_append_left (by rw [List.length_map]; omega),List.getElem?_map] at e2
    cases ej:ts[q]? with
    | none=>rw [ej] at e2; cases e2
    | some j =>
     rw [ej] at e2
     have e3:v=(j,costOf ws jt wd r i j):=(Option.some.inj e2).symm
     subst e3
     have g:=hg q p' j z ej
     rw [upd_ne (ne_of g hDl (by intro z; cases z)),upd_ne (ne_of_none g hp)]
     exact g
   ·subst z2
    have e3:v=(i,emptyC wd r):=by
     rw [z1,has,List.getElem?_append_right (by rw [List.length_map]; exact Nat.le_refl _),List.length_map,Nat.sub_self] at e2
     exact (Option.some.inj e2).symm
    subst e3
    rw [upd_ne (Ne.symm nDp),upd_same]
  | false =>
   rw [hm,if_neg (by simp),List.append_nil] at eS
   refine iteF ?_
   refine ⟨_,rfl,k ld H2 s12 ⟨as,hDl,by rw [eS,List.length_map,has],fun q p' v e1 e2=>?_⟩⟩
   rw [eS,List.getElem?_map] at e2
   cases ej:ts[q]? with
   | none=>rw [ej] at e2; cases e2
   | some j =>
    rw [ej] at e2
    have e3:v=(j,costOf ws jt wd r i j):=(Option.some.inj e2).symm
    subst e3
    exact hg q p' j e1 ej
end
end B64
namespace B64
open PySem L2
def oV:Option Int→V
 | none=>.non
 | some z=>.int z
def omin:Option Int→Int→Option Int
 | none,v=>some v
 | some u,v=>if v < u then some v else some u
def relax (c:Int) (a:List (Option Int)) (s:Nat × Int):List (Option Int):=a.set s.1 (omin ((a[s.1]?).getD none) (c + s.2))
theorem relax_len (c:Int) (a:List (Option Int)) (s:Nat × Int):(relax c a s).length=a.length:=by unfold relax; rw [List.length_set]
theorem relaxs_len (c:Int):∀ (st:List (Nat × Int)) (a:List (Option Int)),(st.foldl (relax c) a).length=a.length
 | [],_=>rfl
 | s :: st,a=>by rw [List.foldl_cons,relaxs_len c st,relax_len]
def nextStep (ws:List (List Str)) (jt:Int) (wd:List Int) (r:Nat) (costs:List (Option Int)) (a:List (Option Int)) (i:Nat):List (Option Int):=match (costs[i]?).getD none with
 | some c=>(stepsL ws jt wd r i).foldl (relax c) a
 | none=>a
theorem nextStep_len (ws:List (List Str)) (jt:Int) (wd:List Int) (r:Nat) (costs a:List (Option Int)) (i:Nat):(nextStep ws jt wd r costs a i).length=a.length:=by
 unfold nextStep
 cases (costs[i]?).getD none with
 | none=>rfl
 | some c=>exact relaxs_len _ _ _
def nextTo (ws:List (List Str)) (jt:Int) (wd:List Int) (r:Nat) (costs:List (Option Int)) (m:Nat):List (Option Int):=(List.range m).foldl (nextStep ws jt wd r costs) (List.replicate costs.length none)
theorem nextTo_succ (ws:List (List Str)) (jt:Int) (wd:List Int) (r:Nat) (costs:List (Option Int)) (m:Nat):nextTo ws jt wd r costs (m + 1)=nextStep ws jt wd r costs (nextTo ws jt wd r costs m) m:=by
 unfold nextTo
 rw [List.range_succ,List.foldl_append]
 rfl
theorem nextTo_len (ws:List (List Str)) (jt:Int) (wd:List Int) (r:Nat) (costs:List (Option Int)):∀ m,(nextTo ws jt wd r costs m).length=costs.length
 | 0=>by unfold nextTo; simp
 | m + 1=>by rw [nextTo_succ,nextStep_len,nextTo_len ws jt wd r costs m]
def nextC (ws:List (List Str)) (jt:Int) (wd:List Int) (r:Nat) (costs:List (Option Int)):List (Option Int):=nextTo ws jt wd r costs costs.length
theorem nextC_len (ws:List (List Str)) (jt:Int) (wd:List Int) (r:Nat) (costs:List (Option Int)):(nextC ws jt wd r costs).length=costs.length:=nextTo_len _ _ _ _ _ _
def tab (ws:List (List Str)) (jt:Int) (wd:List Int):Nat→List (Option Int)
 | 0=>some 0 :: List.replicate ws.flatten.length none
 | r + 1=>nextC ws jt wd r (tab ws jt wd r)
theorem tab_len (ws:List (List Str)) (jt:Int) (wd:List Int):∀ r,(tab ws jt wd r).length=ws.flatten.length + 1
 | 0=>by
  show (some 0 :: List.replicate ws.flatten.length none).length=_
  rw [List.length_cons,List.length_replicate]
 | r + 1=>by
  show (nextC ws jt wd r (tab ws jt wd r)).length=_
  rw [nextC_len,tab_len ws jt wd r]
theorem oV_at {a:List (Option Int)} {i:Nat} (h:i < a.length):(a.map oV)[i]?=some (oV ((a[i]?).getD none)):=by
 rw [List.getElem?_map,List.getElem?_eq_getElem h]
 rfl
theorem rep_non (k:Nat):(List.replicate k [V.non]).flatten=(List.replicate k (none:Option Int)).map oV:=by
 induction k with
 | zero=>rfl
 | succ k ih=>rw [List.replicate_succ,List.replicate_succ,List.flatten_cons,List.map_cons,ih]; rfl
theorem ixN_nat {n j:Nat} (h:j < n):ixN n (j:Int)=some j:=by
 unfold ixN
 rw [if_pos (by omega),if_pos (by omega)]
 simp
theorem set_same {a:List (Option Int)} {i:Nat} (h:i < a.length):a.set i ((a[i]?).getD none)=a:=by
 rw [List.getElem?_eq_getElem h]
 exact List.set_getElem_self h
theorem steps_fst {ws:List (List Str)} {jt:Int} {wd:List Int} {r i:Nat} {s:Nat × Int} (hi:i ≤ ws.flatten.length) (h:s ∈ stepsL ws jt wd r i):s.1 ≤ ws.flatten.length:=by
 unfold stepsL at h
 rcases List.mem_append.mp h with z | z
 ·obtain ⟨j,hj,e⟩:=List.mem_map.mp z
  subst e
  have:=tillsL_mem hj
  show j ≤ _
  omega
 ·split at z
  ·rw [List.mem_singleton.mp z]; exact hi
  ·simp at z
def spNext (C:Addr):Sp:=fun vs H Q _=>∃ (x cl:Addr) (ws:List (List Str)) (jt:Int) (wd:List Int) (r:Nat) (costs:List (Option Int)),vs=[.ref x,.int r,.ref cl]∧Base C H x ws jt wd∧H cl=some (.lst (costs.map oV))∧costs.length=ws.flatten.length + 1 ∧
 ∀ (l:Addr) (H':Hp),H l=none→Same H H'→H' l=some (.lst ((nextC ws jt wd r costs).map oV))→Q (.ref l) H'
def TableAt (H H':Hp) (l:Addr) (ws:List (List Str)) (jt:Int) (wd:List Int) (m:Nat):Prop:=H l=none∧∃ as:List Addr,H' l=some (.lst (as.map V.ref))∧as.length=m + 1∧∀ (r:Nat) (p:Addr),as[r]?=some p→H p=none∧H' p=some (.lst ((tab ws jt wd r).map oV))
def spTable (C:Addr):Sp:=fun vs H Q _=>∃ (x:Addr) (ws:List (List Str)) (jt:Int) (wd:List Int) (m:Nat),vs=[.ref x,.int m]∧Base C H x ws jt wd∧m ≤ 200 ∧
 ∀ (l:Addr) (H':Hp),Same H H'→TableAt H H' l ws jt wd m→Q (.ref l) H'
section
variable {P:Program} {w:World} {K:PySem.W.Frag} {mg:Str→Option Value} {base:Heap}
theorem scNext:FnScope ["setting","row","costs","after","start","number","till","cost"] ["setting","row","costs"] (defScope sNext):=⟨rfl,rfl,rfl,by decide +kernel,rfl,by decide +kernel,by decide +kernel⟩
theorem ok_next {f C fS:Addr} {fd dS:FuncData} (F:Fun K "next_costs" "next_costs" sNext f fd) (N:Names mg) (T:TxtS K C) (GS:FnOk P w K mg base CX0 4 fS dS ["self","row","start"] (spSteps C)) (bS:Binds K dS ["self","row","start"] []) (mS:Meth K C "steps_at" fS) :
  FnOk P w K mg base CX0 5 f fd ["setting","row","costs"] (spNext C):=by
 refine F.ok scNext (fun vs H Q E h=>?_) (fun cdv A outer s H vs Q E hr h=>?_)
 ·obtain ⟨x,cl,ws,jt,wd,r,costs,e,_⟩:=h
  rw [e]
  rfl
 ·obtain ⟨x,cl,ws,jt,wd,r,costs,e,hB,hcl,hlen,k⟩:=h
  subst e
  have hn:=hB.2.2.2
  obtain ⟨dx,lw,lp,lq,lb,le,hx,_⟩:=id hB.1
  refine ⟨_,pss_cons (ps_set (i:=3) scNext.nd rfl (Or.inl rfl) (pe_op op_rep (pe_lst (pa_cons pe_non pa_nil)) (pe_callB call_len_seq (by rfl) N.len PySem.boot_len (pa_cons (pv 2) pa_nil))))
   (pss_cons (ps_for PassesOwn.never rfl (pi_enL0 rfl N.enum (pa_cons (pv 2) pa_nil)) (pg_tup rfl (pgs_cons (pg_name (i:=4) scNext.nd rfl (Or.inl rfl)) (pgs_cons (pg_name (i:=5) scNext.nd rfl (Or.inl rfl)) pgs_nil)))
    (pss_one (ps_if (pt_cmp (pc_notN (pv 5)))
     (pss_one (ps_for PassesOwn.never rfl (pi_list (pe_meth (pv 0) T.cl mS GS hr bS .nil pass0 (pa_cons (pv 1) (pa_cons (pv 4) pa_nil)))) (pg_tup rfl (pgs_cons (pg_name (i:=6) scNext.nd rfl (Or.inl rfl)) (pgs_cons (pg_name (i:=7) scNext.nd rfl (Or.inl rfl)) pgs_nil)))
      (pss_one (ps_if (pw_or (pt_cmp (pc_isN (pe_ix ix_list (pv 3) (pv 6) (fun _ _=>rfl)))) (pw_or1 (pt_cmpR op_lt (pe_op op_add (pv 5) (pv 7)) (pe_ix ix_list (pv 3) (pv 6) (fun _ _=>rfl)) (nomark _)))).pt
       (pss_one (ps_asg (pe_op op_add (pv 5) (pv 7)) (pg_sub (pv 3) (pv 6) set_list))) pss_nil)))) pss_nil)))
   (pss_one (ps_ret (pv 3)))),?_⟩
  refine ⟨smallE (by simp),fun t ht=>?_⟩
  refine ⟨_,rfl,cl,_,rfl,.inl (SqL.of (by rw [upd_ne (ne_of_none hcl ht)]; exact hcl)),t,_,_,rfl,rfl,upd_same,by rw [List.length_map]; omega,by rw [List.length_map]; omega,smallE (by rw [List.length_map,List.length_singleton]; omega),fun l hl=>?_⟩
  have s0:Same H (upd H t (.lst [V.non])):=Same.put (Same.refl H) ht
  have fl:H l=none:=s0.free hl
  have e0:(List.replicate (((costs.map oV).length:Nat):Int).toNat [V.non]).flatten=(nextTo ws jt wd r costs 0).map oV:=by
   rw [List.length_map,show ((costs.length:Nat):Int).toNat=costs.length by omega,rep_non]
   rfl
  rw [e0]
  have s1:Same H (upd (upd H t (.lst [V.non])) l (.lst ((nextTo ws jt wd r costs 0).map oV))):=Same.put s0 fl
  have l1:(upd (upd H t (.lst [V.non])) l (.lst ((nextTo ws jt wd r costs 0).map oV))) l=some (.lst ((nextTo ws jt wd r costs 0).map oV)):=upd_same
  generalize upd (upd H t (.lst [V.non])) l (.lst ((nextTo ws jt wd r costs 0).map oV))=H1 at *
  refine ⟨_,rfl,cl,rfl,⟨_,SqL.of (s1 _ _ hcl)⟩,?_⟩
  refine for_en (xs:=costs.map oV) (fun m σ H2=>∃ u v y z,σ=[some (.ref x),some (.int (r:Int)),some (.ref cl),some (.ref l),u,v,y,z]∧Same H H2∧H2 l=some (.lst ((nextTo ws jt wd r costs m).map oV))) ⟨_,_,_,_,rfl,s1,l1⟩ (fun m σ H2 _ ⟨_,_,_,_,_,s2,_⟩=>SqL.of (s2 _ _ hcl)) ?_ ?_
  ·rintro m v p σ H2 hv hp ⟨u1,u2,u3,u4,rfl,s2,l2⟩
   have hm:m < costs.length:=by
    have z:=get_lt hv
    rwa [List.length_map] at z
   obtain rfl:v=oV ((costs[m]?).getD none):=by
    rw [oV_at hm] at hv
    exact (Option.some.inj hv).symm
   have fp:H p=none:=s2.free hp
   have s3:Same H (upd H2 p (.tup [.int (0 + (m:Int)),oV ((costs[m]?).getD none)])):=Same.put s2 fp
   have l3:(upd H2 p (.tup [.int (0 + (m:Int)),oV ((costs[m]?).getD none)])) l=some (.lst ((nextTo ws jt wd r costs m).map oV)):=by rw [upd_ne (ne_of_none l2 hp)]; exact l2
   refine ⟨p,_,rfl,SqT.of upd_same,rfl,_,_,rfl,_,_,rfl,rfl,?_⟩
   generalize upd H2 p (.tup [.int (0 + (m:Int)),oV ((costs[m]?).getD none)])=H3 at *
   have en:nextTo ws jt wd r costs (m + 1)=nextStep ws jt wd r costs (nextTo ws jt wd r costs m) m:=nextTo_succ ws jt wd r costs m
   have al:=nextTo_len ws jt wd r costs m
   generalize nextTo ws jt wd r costs m=a at *
   refine ⟨_,rfl,_,rfl,?_⟩
   cases hc:(costs[m]?).getD none with
   | none =>
    unfold nextStep at en
    rw [hc] at en
    refine iteF ?_
    exact ⟨_,_,_,_,rfl,s3,by rw [en]; exact l3⟩
   | some c =>
    unfold nextStep at en
    rw [hc] at en
    refine iteT ?_
    have hB3:=hB.same s3
    have e00:(0:Int) + (m:Int)=(m:Int):=by omega
    refine ⟨_,rfl,x,dx,_,rfl,s3 _ _ hx,f6_no _ _ _ _ _ _ (by decide +kernel) (by decide +kernel) (by decide +kernel) (by decide +kernel) (by decide +kernel) (by decide +kernel),_,rfl,_,rfl,x,ws,jt,wd,r,m,by rw [e00]; rfl,hB3,by omega,fun ll H4 s4 hP=>?_⟩
    obtain ⟨as,g1,g2,g3⟩:=hP
    have sl:=stepsL_len ws jt wd r m
    have sf:∀ s ∈ stepsL ws jt wd r m,s.1 < a.length:=fun s hs=>by
     have:=steps_fst (by omega) hs
     omega
    generalize stepsL ws jt wd r m=st at *
    have s34:=Same.trans s3 s4
    refine ⟨ll,rfl,⟨_,SqL.of g1⟩,?_⟩
    have nll:ll ≠ l ∨ True:=.inr trivial
    refine for_list (K:=K) (a:=ll) (xs:=as.map V.ref) (fun q σ H5=>∃ y z,σ=[some (.ref x),some (.int (r:Int)),some (.ref cl),some (.ref l),some (.int (0 + (m:Int))),some (.int c),y,z]∧Same H H5∧H5 l=some (.lst (((st.take q).foldl (relax c) a).map oV))∧(q < as.length→H5 ll=some (.lst (as.map V.ref)))∧(∀ (k:Nat) (p:Addr) (v:Nat × Int),as[k]?=some p→st[k]?=some v→H5 p=some (.tup [.int (v.1:Int),.int v.2]))∧H5 ll=some (.lst (as.map V.ref))) ⟨_,_,rfl,s34,s4 _ _ l3,fun _=>g1,g3,g1⟩ (fun q σ H5 _ ⟨_,_,_,_,_,_,_,h5⟩=>SqL.of h5) ?_ ?_
    ·rintro q v σ H5 hv ⟨y,z,rfl,s5,l5,_,g5,h5⟩
     obtain ⟨pp,hpp,rfl⟩:=ref_get hv
     obtain ⟨sv,hsv⟩:=get_of hpp g2
     have ht5:=g5 q pp sv hpp hsv
     have hsf:=sf sv (List.mem_of_getElem? hsv)
     have ef:(st.take (q + 1)).foldl (relax c) a=relax c ((st.take q).foldl (relax c) a) sv:=by
      rw [take_snoc hsv,List.foldl_append]
      rfl
     have bl:((st.take q).foldl (relax c) a).length=a.length:=relaxs_len _ _ _
     generalize (st.take q).foldl (relax c) a=b at *
     have hb:sv.1 < b.length:=by omega
     have hnl:ll ≠ l:=fun e=>by
      rw [e,l5] at h5
      have z1:b.map oV=as.map V.ref:=by
       have:=Option.some.inj h5
       injection this
      have z2:=congrArg (fun l=>l[q]?) z1
      simp only [List.getElem?_map,hpp,Option.map_some] at z2
      cases hbq:b[q]? with
      | none=>rw [hbq] at z2; cases z2
      | some o =>
       rw [hbq] at z2
       cases o with
       | none=>cases (Option.some.inj z2)
       | some o=>cases (Option.some.inj z2)
     refine ⟨pp,_,rfl,SqT.of ht5,rfl,_,_,rfl,_,_,rfl,rfl,?_⟩
     have put:∀ (D:Ends),(∀ H9,Same H H9→H9 l=some (.lst ((b.set sv.1 (some (c + sv.2))).map oV))→(∀ (k:Nat) (p:Addr) (v:Nat × Int),as[k]?=some p→st[k]?=some v→H9 p=some (.tup [.int (v.1:Int),.int v.2]))→H9 ll=some (.lst (as.map V.ref)) →
       D.nx [some (.ref x),some (.int (r:Int)),some (.ref cl),some (.ref l),some (.int (0 + (m:Int))),some (.int c),some (.int (sv.1:Int)),some (.int sv.2)] H9) →
       tAsg (tOp (rI0 fun i j=>.int (i + j)) (tVar 5) (tVar 7)) (gSub (tVar 3) (tVar 6) rSetL) D [some (.ref x),some (.int (r:Int)),some (.ref cl),some (.ref l),some (.int (0 + (m:Int))),some (.int c),some (.int (sv.1:Int)),some (.int sv.2)] H5:=fun D hD=>by
      refine ⟨_,rfl,_,rfl,_,_,rfl,rfl,_,rfl,_,rfl,l,_,_,sv.1,rfl,rfl,l5,ixN_nat (by rw [List.length_map]; exact hb),?_⟩
      refine hD _ (Same.put s5 fl) ?_ (fun k p v e1 e2=>?_) ?_
      ·rw [upd_same,List.map_set]
       rfl
      ·have g:=g5 k p v e1 e2
       rw [upd_ne (ne_of g l5 (by intro z; cases z))]
       exact g
      ·rw [upd_ne hnl]; exact h5
     have same:∀ {D:Ends},(D.nx=fun σ H5=>∃ y z,σ=[some (.ref x),some (.int (r:Int)),some (.ref cl),some (.ref l),some (.int (0 + (m:Int))),some (.int c),y,z]∧Same H H5∧H5 l=some (.lst (((st.take (q + 1)).foldl (relax c) a).map oV))∧(q + 1 < as.length→H5 ll=some (.lst (as.map V.ref)))∧(∀ (k:Nat) (p:Addr) (v:Nat × Int),as[k]?=some p→st[k]?=some v→H5 p=some (.tup [.int (v.1:Int),.int v.2]))∧H5 ll=some (.lst (as.map V.ref))) →
       (st.take (q + 1)).foldl (relax c) a=b.set sv.1 (some (c + sv.2))→∀ H9,Same H H9→H9 l=some (.lst ((b.set sv.1 (some (c + sv.2))).map oV))→(∀ (k:Nat) (p:Addr) (v:Nat × Int),as[k]?=some p→st[k]?=some v→H9 p=some (.tup [.int (v.1:Int),.int v.2]))→H9 ll=some (.lst (as.map V.ref)) →
       D.nx [some (.ref x),some (.int (r:Int)),some (.ref cl),some (.ref l),some (.int (0 + (m:Int))),some (.int c),some (.int (sv.1:Int)),some (.int sv.2)] H9:=fun {D} hD eq H9 h1 h2 h3 h4=>by
      rw [hD]
      exact ⟨_,_,rfl,h1,by rw [eq]; exact h2,fun _=>h4,h3,h4⟩
     refine ⟨_,rfl,_,rfl,l,_,_,_,rfl,rfl,SqL.of l5,atI_nat (oV_at hb),_,rfl,?_⟩
     have ef:(st.take (q + 1)).foldl (relax c) a=b.set sv.1 (omin ((b[sv.1]?).getD none) (c + sv.2)):=ef
     cases ho:(b[sv.1]?).getD none with
     | none =>
      rw [ho] at ef
      refine iteT ?_
      refine iteT ?_
      exact put _ (same rfl ef)
     | some u =>
      rw [ho] at ef
      refine iteF ?_
      refine ⟨_,rfl,_,rfl,_,_,rfl,rfl,_,rfl,_,rfl,l,_,_,_,rfl,rfl,SqL.of l5,atI_nat (by rw [oV_at hb,ho]; rfl),_,_,rfl,rfl,_,rfl,?_⟩
      by_cases hlt:c + sv.2 < u
      ·rw [show omin (some u) (c + sv.2)=some (c + sv.2) from if_pos hlt] at ef
       rw [decide_eq_true hlt]
       refine iteT ?_
       exact put _ (same rfl ef)
      ·rw [show omin (some u) (c + sv.2)=some u from if_neg hlt,← ho,set_same hb] at ef
       rw [decide_eq_false hlt]
       refine iteF ?_
       exact ⟨_,_,rfl,s5,by rw [ef]; exact l5,fun _=>h5,g5,h5⟩
    ·rintro σ H5 ⟨y,z,rfl,s5,l5,_,_,_⟩
     refine ⟨_,_,_,_,rfl,s5,?_⟩
     rw [l5,en,List.length_map,g2,List.take_length]
  ·rintro σ H2 ⟨u1,u2,u3,u4,rfl,s2,l2⟩
   rw [List.length_map] at l2
   exact ⟨_,rfl,k l H2 fl s2 l2⟩
theorem scTable:FnScope ["setting","many","table","row"] ["setting","many"] (defScope sTable):=⟨rfl,rfl,rfl,by decide +kernel,rfl,by decide +kernel,by decide +kernel⟩
theorem ok_table {f C fX:Addr} {fd dX:FuncData} (F:Fun K "table_for" "table_for" sTable f fd) (N:Names mg) (T:TxtS K C) (GX:FnOk P w K mg base CX0 5 fX dX ["setting","row","costs"] (spNext C)) (bX:Binds K dX ["setting","row","costs"] []) (mX:mg "next_costs"=some (.ref fX)) (kX:PySem.W.keepIn K (.ref fX)=true) :
  FnOk P w K mg base CX0 6 f fd ["setting","many"] (spTable C):=by
 refine F.ok scTable (fun vs H Q E h=>?_) (fun cdv A outer s H vs Q E hr h=>?_)
 ·obtain ⟨x,ws,jt,wd,m,e,_⟩:=h
  rw [e]
  rfl
 ·obtain ⟨x,ws,jt,wd,m,e,hB,hm,k⟩:=h
  subst e
  have hn:=hB.2.2.2
  obtain ⟨dx,lw,lp,lq,lb,le,hx,_⟩:=id hB.1
  refine ⟨_,pss_cons (ps_set (i:=2) scTable.nd rfl (Or.inl rfl) (pe_lst (pa_cons (pe_op op_cat (pe_lst (pa_cons pe_int pa_nil)) (pe_op op_rep (pe_lst (pa_cons pe_non pa_nil)) (pe_fld (pv 0) rfl))) pa_nil)))
   (pss_cons (ps_for PassesOwn.never rfl (pi_range1 rfl N.range (pa_cons (pv 1) pa_nil)) (pg_name (i:=3) scTable.nd rfl (Or.inl rfl))
    (pss_one (ps_expr (pe_bm PySem.F.plainAttrs_list PySem.F.slot_list_append PySem.F.type_list_append mt_append (pv 2) (pa_cons (pe_call GX hr rfl mX kX bX .nil pass0 (pa_cons (pv 0) (pa_cons (pv 3) (pa_cons (pe_ix ix_list (pv 2) (pv 3) (fun _ _=>rfl)) pa_nil)))) pa_nil)))))
   (pss_one (ps_ret (pv 2)))),?_⟩
  refine ⟨smallE (by simp),fun t1 h1=>?_⟩
  have q1:Same H (upd H t1 (.lst [V.int 0])):=Same.put (Same.refl H) h1
  have z1:(upd H t1 (.lst [V.int 0])) t1=some (.lst [V.int 0]):=upd_same
  generalize upd H t1 (.lst [V.int 0])=H1 at *
  refine ⟨smallE (by simp),fun t2 h2=>?_⟩
  have q2:Same H1 (upd H1 t2 (.lst [V.non])):=Same.put (Same.refl H1) h2
  have z2:(upd H1 t2 (.lst [V.non])) t2=some (.lst [V.non]):=upd_same
  generalize upd H1 t2 (.lst [V.non])=H2 at *
  refine ⟨_,rfl,x,C,dx,_,_,rfl,q2 _ _ (q1 _ _ hx),T.cl,T.l,f6_last _ _ _ _ _ _,t2,_,_,rfl,rfl,z2,by omega,by omega,smallE (by rw [List.length_singleton]; omega),fun t3 h3=>?_⟩
  rw [show ((ws.flatten.length:Nat):Int).toNat=ws.flatten.length by omega,rep_non]
  have q3:Same H2 (upd H2 t3 (.lst ((List.replicate ws.flatten.length (none:Option Int)).map oV))):=Same.put (Same.refl H2) h3
  have z3:(upd H2 t3 (.lst ((List.replicate ws.flatten.length (none:Option Int)).map oV))) t3=some (.lst ((List.replicate ws.flatten.length (none:Option Int)).map oV)):=upd_same
  generalize upd H2 t3 (.lst ((List.replicate ws.flatten.length (none:Option Int)).map oV))=H3 at *
  refine ⟨t1,t3,_,_,rfl,rfl,q3 _ _ (q2 _ _ z1),z3,smallE (by rw [List.length_singleton,List.length_map,List.length_replicate]; omega),fun t4 h4=>?_⟩
  have et:[V.int 0] ++ (List.replicate ws.flatten.length (none:Option Int)).map oV=(tab ws jt wd 0).map oV:=rfl
  rw [et]
  have q123:Same H H3:=Same.trans q1 (Same.trans q2 q3)
  have f4:H t4=none:=q123.free h4
  have q4:Same H (upd H3 t4 (.lst ((tab ws jt wd 0).map oV))):=Same.put q123 f4
  have z4:(upd H3 t4 (.lst ((tab ws jt wd 0).map oV))) t4=some (.lst ((tab ws jt wd 0).map oV)):=upd_same
  generalize upd H3 t4 (.lst ((tab ws jt wd 0).map oV))=H4 at *
  refine ⟨smallE (by simp),fun l hl=>?_⟩
  have fl:H l=none:=q4.free hl
  have q5:Same H (upd H4 l (.lst [V.ref t4])):=Same.put q4 fl
  have z5:(upd H4 l (.lst [V.ref t4])) t4=some (.lst ((tab ws jt wd 0).map oV)):=by rw [upd_ne (ne_of_none z4 hl)]; exact z4
  have l5:(upd H4 l (.lst [V.ref t4])) l=some (.lst ([t4].map V.ref)):=upd_same
  have n4:t4 ≠ l:=ne_of_none z4 hl
  generalize upd H4 l (.lst [V.ref t4])=H5 at *
  refine ⟨_,rfl,(m:Int),rfl,by omega,by omega,?_⟩
  rw [show ((m:Nat):Int).toNat=m by omega]
  refine for_range (n:=m) (fun i σ H6=>∃ (as:List Addr) (u:Option V),σ=[some (.ref x),some (.int (m:Int)),some (.ref l),u]∧Same H H6∧H6 l=some (.lst (as.map V.ref))∧as.length=i + 1∧∀ (r:Nat) (p:Addr),as[r]?=some p→p ≠ l∧H p=none∧H6 p=some (.lst ((tab ws jt wd r).map oV)))
   ⟨[t4],_,rfl,q5,l5,rfl,fun r p e=>?_⟩ ?_ ?_
  ·match r,e with
   | 0,e=>
    have e1:p=t4:=(Option.some.inj e).symm
    subst e1
    exact ⟨n4,f4,z5⟩
  ·rintro i σ H6 hi ⟨as,u,rfl,s6,l6,hlen,hg⟩
   have ei:(0:Int) + (i:Int)=(i:Int):=by omega
   have hp:as[i]?=some as[i]:=by simp
   obtain ⟨np,fp,gp⟩:=hg i as[i] hp
   refine ⟨_,rfl,.inl ⟨rfl,_,SqL.of l6⟩,_,rfl,_,rfl,_,rfl,_,rfl,l,_,_,_,rfl,rfl,SqL.of l6,atI_of (j:=i) ei (by rw [List.getElem?_map,hp]; rfl),x,as[i],ws,jt,wd,i,tab ws jt wd i,by rw [ei]; rfl,hB.same s6,gp,tab_len _ _ _ _,fun l2 H7 f7 s7 h7=>?_⟩
   have l7:=s7 _ _ l6
   have nl:l2 ≠ l:=fun e=>by rw [e,l6] at f7; cases f7
   refine ⟨l,_,_,rfl,rfl,l7,small (by rw [List.length_map]; omega),?_⟩
   refine ⟨as ++ [l2],_,rfl,Same.put (Same.trans s6 s7) fl,by rw [upd_same,List.map_append]; rfl,by rw [List.length_append,hlen]; rfl,fun r p e=>?_⟩
   rcases snoc_get e with z | ⟨z0,zz⟩
   ·obtain ⟨g1,g2,g3⟩:=hg r p z
    exact ⟨g1,g2,by rw [upd_ne g1]; exact s7 _ _ g3⟩
   ·subst zz
    refine ⟨nl,s6.free f7,?_⟩
    rw [upd_ne nl,h7,z0,hlen]
    rfl
  ·rintro σ H6 ⟨as,u,rfl,s6,l6,hlen,hg⟩
   exact ⟨_,rfl,k l H6 s6 ⟨fl,as,l6,hlen,fun r p e=>(hg r p e).2⟩⟩
end
end B64
namespace B64
open PySem L2
def minO (l:List Int):Option Int:=l.foldl omin none
theorem omin_some (u v:Int):∃ m,omin (some u) v=some m∧(m=u ∨ m=v)∧m ≤ u∧m ≤ v:=by
 by_cases h:v < u
 ·exact ⟨v,if_pos h,.inr rfl,by omega,by omega⟩
 ·exact ⟨u,if_neg h,.inl rfl,by omega,by omega⟩
theorem fold_min:∀ (l:List Int) (u:Int),∃ m,l.foldl omin (some u)=some m∧(m=u ∨ m ∈ l)∧m ≤ u∧∀ b ∈ l,m ≤ b
 | [],u=>⟨u,rfl,.inl rfl,Int.le_refl _,by simp⟩
 | v :: l,u=>by
  obtain ⟨k,e,hk,h1,h2⟩:=omin_some u v
  obtain ⟨m,em,hm,h3,h4⟩:=fold_min l k
  refine ⟨m,by rw [List.foldl_cons,e,em],?_,by omega,fun b hb=>?_⟩
  ·rcases hm with z | z
   ·rcases hk with y | y
    ·exact .inl (by omega)
    ·refine .inr ?_
     rw [z,y]
     exact List.mem_cons_self
   ·exact .inr (List.mem_cons_of_mem _ z)
  ·rcases List.mem_cons.mp hb with z | z
   ·rw [z]; omega
   ·exact h4 b z
def keyed (j:Nat) (st:List (Nat × Int)) (c:Int):List Int:=(st.filter fun s=>decide (s.1=j)).map fun s=>c + s.2
def at0 (a:List (Option Int)) (j:Nat):Option Int:=(a[j]?).getD none
theorem relax_at (c:Int) (a:List (Option Int)) (s:Nat × Int) {j:Nat} (h:j < a.length):at0 (relax c a s) j=if s.1=j then omin (at0 a j) (c + s.2) else at0 a j:=by
 unfold relax at0
 by_cases e:s.1=j
 ·subst e
  rw [if_pos rfl,List.getElem?_set_self h]
  rfl
 ·rw [if_neg e,List.getElem?_set_ne e]
theorem relaxs_at (c:Int) {j:Nat}:∀ (st:List (Nat × Int)) (a:List (Option Int)),j < a.length→at0 (st.foldl (relax c) a) j=(keyed j st c).foldl omin (at0 a j)
 | [],a,_=>rfl
 | s :: st,a,h=>by
  have ih:=relaxs_at c (j:=j) st (relax c a s) (by rw [relax_len]; exact h)
  rw [List.foldl_cons,ih,relax_at c a s h]
  unfold keyed
  by_cases e:s.1=j
  ·rw [if_pos e,List.filter_cons_of_pos (by simpa using e),List.map_cons,List.foldl_cons]
  ·rw [if_neg e,List.filter_cons_of_neg (by simpa using e)]
def contrib (ws:List (List Str)) (jt:Int) (wd:List Int) (r:Nat) (costs:List (Option Int)) (j i:Nat):List Int:=match (costs[i]?).getD none with
 | some c=>keyed j (stepsL ws jt wd r i) c
 | none=>[]
theorem nextTo_at (ws:List (List Str)) (jt:Int) (wd:List Int) (r:Nat) (costs:List (Option Int)) {j:Nat} (h:j < costs.length):∀ m,at0 (nextTo ws jt wd r costs m) j=minO (((List.range m).map (contrib ws jt wd r costs j)).flatten)
 | 0=>by
  unfold nextTo at0
  show ((List.replicate costs.length none)[j]?).getD none=none
  rw [List.getElem?_replicate,if_pos h]
  rfl
 | m + 1=>by
  have ih:=nextTo_at ws jt wd r costs h m
  rw [nextTo_succ,List.range_succ,List.map_append,List.flatten_append]
  unfold minO at *
  rw [List.foldl_append,← ih]
  show _=(([contrib ws jt wd r costs j m]:List (List Int)).flatten).foldl omin _
  rw [show ([contrib ws jt wd r costs j m]:List (List Int)).flatten=contrib ws jt wd r costs j m from by simp]
  unfold nextStep contrib
  cases (costs[m]?).getD none with
  | none=>rfl
  | some c=>exact relaxs_at c _ _ (by rw [nextTo_len]; exact h)
end B64
namespace B64
open PySem L2
theorem joint_at {ws:List (List Str)} {i k:Nat} {wd:List Str} (h:ws[i]?=some wd) (hk:k < wd.length):gj (joints ws) ((ws.take i).flatten.length + k + 1)=decide (k + 1 < wd.length):=by
 have e:joints ws=joints (ws.take i) ++ (jw wd.length ++ ((ws.drop (i + 1)).map fun w=>jw w.length).flatten):=by
  have e1:ws=ws.take i ++ (wd :: ws.drop (i + 1)):=by
   have hi:=get_lt h
   have e2:ws.drop i=wd :: ws.drop (i + 1):=by
    rw [List.drop_eq_getElem_cons hi]
    rw [List.getElem?_eq_getElem hi] at h
    rw [Option.some.inj h]
   rw [← e2,List.take_append_drop]
  unfold joints
  conv=>lhs; rw [e1,List.map_append,List.flatten_append,List.map_cons,List.flatten_cons]
  rfl
 unfold gj
 rw [e,List.getElem?_append_right (by rw [joints_len]; omega),joints_len,show (ws.take i).flatten.length + k + 1 - ((ws.take i).flatten.length + 1)=k by omega,List.getElem?_append_left (by rw [jw_len]; exact hk)]
 unfold jw
 rw [List.getElem?_map,List.getElem?_range hk]
 rfl
theorem piece_at {ws:List (List Str)} {i k:Nat} {wd:List Str} (h:ws[i]?=some wd) (hk:k < wd.length):wd[k]?=some (gp ws.flatten ((ws.take i).flatten.length + k)):=by
 have e1:ws=ws.take i ++ (wd :: ws.drop (i + 1)):=by
  have hi:=get_lt h
  have e2:ws.drop i=wd :: ws.drop (i + 1):=by
   rw [List.drop_eq_getElem_cons hi]
   rw [List.getElem?_eq_getElem hi] at h
   rw [Option.some.inj h]
  rw [← e2,List.take_append_drop]
 have e:ws.flatten=(ws.take i).flatten ++ (wd ++ (ws.drop (i + 1)).flatten):=by
  conv=>lhs; rw [e1,List.flatten_append,List.flatten_cons]
 unfold gp
 rw [e,List.getElem?_append_right (by omega),show (ws.take i).flatten.length + k - (ws.take i).flatten.length=k by omega,List.getElem?_append_left hk,List.getElem?_eq_getElem hk]
 rfl
def jb (ws:List (List Str)) (i:Nat):Int:=if gj (joints ws) (i + 1)=true then 1 else 0
def PcsAt (H:Hp) (l:Addr) (ws:List (List Str)) (n:Nat):Prop:=∃ as:List Addr,H l=some (.lst (as.map V.ref))∧as.length=n∧∀ (i:Nat) (p:Addr),as[i]?=some p→H p=some (.tup [.int ((gp ws.flatten i).length:Int),.int (jb ws i)])
theorem PcsAt.same {H H':Hp} {l:Addr} {ws:List (List Str)} {n:Nat} (h:PcsAt H l ws n) (s:Same H H'):PcsAt H' l ws n:=by
 obtain ⟨as,h1,h2,h3⟩:=h
 exact ⟨as,s _ _ h1,h2,fun i p e=>s _ _ (h3 i p e)⟩
theorem PcsAt.get {H:Hp} {l:Addr} {ws:List (List Str)} {n i:Nat} (h:PcsAt H l ws n) (hi:i < n):∃ (as:List Addr) (p:Addr),H l=some (.lst (as.map V.ref))∧(as.map V.ref)[i]?=some (V.ref p)∧as.length=n∧H p=some (.tup [.int ((gp ws.flatten i).length:Int),.int (jb ws i)]):=by
 obtain ⟨as,h1,h2,h3⟩:=h
 have hl:i < as.length:=by omega
 have e:as[i]?=some as[i]:=by simp
 exact ⟨as,as[i],h1,by rw [List.getElem?_map,e]; rfl,h2,h3 i _ e⟩
def spLPieces:Sp:=fun vs H Q _=>∃ (a:Addr) (ws:List (List Str)),vs=[.ref a]∧WordsAt H a ws∧Short ws∧ws.flatten.length ≤ 1000∧∀ (l:Addr) (H':Hp),Same H H'→PcsAt H' l ws ws.flatten.length→Q (.ref l) H'
def spSize:Sp:=fun vs H Q _=>∃ (l:Addr) (ws:List (List Str)) (i j:Nat),vs=[.ref l,.int i,.int j]∧PcsAt H l ws ws.flatten.length∧ws.flatten.length ≤ 1000∧i < j∧j ≤ ws.flatten.length∧Q (.int (lenOf ws i j)) H
def sizeTo (ws:List (List Str)) (i j m:Nat):Int:=if m < j - i then jb ws (j - 1) + off ws.flatten (joints ws) (i + m) - off ws.flatten (joints ws) i else lenOf ws i j
theorem off_succ (ws:List (List Str)) (k:Nat):off ws.flatten (joints ws) (k + 1)=off ws.flatten (joints ws) k + ((gp ws.flatten k).length:Int) + 1 - jb ws k:=by
 show off ws.flatten (joints ws) k + ((gp ws.flatten k).length:Int) + (if gj (joints ws) (k + 1)=true then 0 else 1)=_
 unfold jb
 cases gj (joints ws) (k + 1) with
 | true=>rw [if_pos rfl,if_pos rfl]; omega
 | false=>rw [if_neg (by simp),if_neg (by simp)]; omega
theorem end_succ (ws:List (List Str)) (k:Nat):endAt ws.flatten (joints ws) (k + 1)=off ws.flatten (joints ws) k + ((gp ws.flatten k).length:Int) + jb ws k:=rfl
section
variable {P:Program} {w:World} {K:PySem.W.Frag} {mg:Str→Option Value} {base:Heap}
theorem scLPieces:FnScope ["_law_words_here","_law_told","_law_word","_law_k","_law_piece"] ["_law_words_here"] (defScope sLPieces):=⟨rfl,rfl,rfl,by decide +kernel,rfl,by decide +kernel,by decide +kernel⟩
theorem ok_lpieces {f:Addr} {fd:FuncData} (F:Fun K "_law_pieces" "_law_pieces" sLPieces f fd) (N:Names mg):FnOk P w K mg base CX0 1 f fd ["_law_words_here"] spLPieces:=by
 refine F.ok scLPieces (fun vs H Q E h=>?_) (fun cdv A outer s H vs Q E hr h=>?_)
 ·obtain ⟨a,ws,e,_⟩:=h
  rw [e]
  rfl
 ·obtain ⟨a,ws,e,hW,hSh,hn,k⟩:=h
  subst e
  obtain ⟨as,h1,h2,h3⟩:=id hW
  refine ⟨_,pss_cons (ps_set (i:=1) scLPieces.nd rfl (Or.inl rfl) (pe_lst pa_nil))
   (pss_cons (ps_for PassesOwn.never rfl (pi_tup (pv 0)) (pg_name (i:=2) scLPieces.nd rfl (Or.inl rfl))
    (pss_one (ps_for PassesOwn.never rfl (pi_enT rfl N.enum (pa_cons (pv 2) pa_nil)) (pg_tup rfl (pgs_cons (pg_name (i:=3) scLPieces.nd rfl (Or.inl rfl)) (pgs_cons (pg_name (i:=4) scLPieces.nd rfl (Or.inl rfl)) pgs_nil)))
     (pss_one (ps_expr (pe_bm PySem.F.plainAttrs_list PySem.F.slot_list_append PySem.F.type_list_append mt_append (pv 1) (pa_cons (pe_tup (pa_cons (pe_callB call_len_str (by rfl) N.len PySem.boot_len (pa_cons (pv 4) pa_nil))
      (pa_cons (pe_callTy call_int1 (by rfl) N.int PyProof.Rows.boot_int (pa_cons (pe_cmpR op_lt (pe_op op_add (pv 3) pe_int) (pe_callB call_len_seq (by rfl) N.len PySem.boot_len (pa_cons (pv 2) pa_nil)) (nomark _)) pa_nil)) pa_nil))) pa_nil)))))))
   (pss_one (ps_ret (pv 1)))),?_⟩
  refine ⟨smallE (by simp),fun l hl=>?_⟩
  have s0:Same H (upd H l (.lst [])):=Same.put (Same.refl H) hl
  have p0:PcsAt (upd H l (.lst [])) l ws (([]:List (List Str)).flatten.length):=⟨[],upd_same,rfl,fun i p e=>by simp at e⟩
  refine ⟨_,rfl,a,rfl,⟨_,SqT.of (s0 _ _ h1)⟩,for_tup (K:=K) (a:=a) (xs:=as.map V.ref)
   (fun m σ H2=>∃ u v y,σ=[some (.ref a),some (.ref l),u,v,y]∧Same H H2∧PcsAt H2 l ws (ws.take m).flatten.length) ⟨_,_,_,rfl,s0,p0⟩ (fun m σ H2 _ ⟨_,_,_,_,s2,_⟩=>SqT.of (s2 _ _ h1)) ?_ ?_⟩
  ·rintro m x σ H2 hm ⟨u,v,y,rfl,s2,hP⟩
   obtain ⟨p,hp,rfl⟩:=ref_get hm
   obtain ⟨wd,hw⟩:=get_of hp h2
   have hq:=s2 _ _ (h3 m p wd hp hw)
   have hb:((ws.take m).flatten ++ wd).length ≤ 1000:=by
    rw [← flat_take hw]
    exact Nat.le_trans (flat_len_le _ _) hn
   rw [List.length_append] at hb
   generalize hp0:(ws.take m).flatten.length=p0 at *
   refine ⟨_,rfl,p,rfl,⟨_,SqT.of hq⟩,?_⟩
   refine for_en (xs:=wd.map V.str) (fun n σ H3=>∃ v y,σ=[some (.ref a),some (.ref l),some (.ref p),v,y]∧Same H H3∧PcsAt H3 l ws (p0 + n)) ⟨_,_,rfl,s2,hP⟩ (fun n σ H3 _ ⟨_,_,_,s3,_⟩=>SqT.of (s3 _ _ (h3 m p wd hp hw))) ?_ ?_
   ·rintro n z t σ H3 hz ht ⟨v,y,rfl,s3,hP3⟩
    have hnl:n < wd.length:=by
     have q:=get_lt hz
     rwa [List.length_map] at q
    have hpc:=piece_at hw hnl
    rw [hp0] at hpc
    obtain rfl:z=V.str (gp ws.flatten (p0 + n)):=by
     rw [List.getElem?_map,hpc] at hz
     exact (Option.some.inj hz).symm
    have hjt:=joint_at hw hnl
    rw [hp0] at hjt
    have s4:Same H3 (upd H3 t (.tup [.int (0 + (n:Int)),.str (gp ws.flatten (p0 + n))])):=Same.put (Same.refl _) ht
    have hq4:=s4 _ _ (s3 _ _ (h3 m p wd hp hw))
    have hP4:=hP3.same s4
    have s04:=Same.trans s3 s4
    refine ⟨t,_,rfl,SqT.of upd_same,rfl,_,_,rfl,_,_,rfl,rfl,?_⟩
    generalize upd H3 t (.tup [.int (0 + (n:Int)),.str (gp ws.flatten (p0 + n))])=H4 at *
    obtain ⟨cs,c1,c2,c3⟩:=id hP4
    have gl:=gp_len hSh (p0 + n)
    refine ⟨_,rfl,.inl ⟨rfl,_,SqL.of c1⟩,_,rfl,_,rfl,smallE (by omega),_,rfl,_,_,rfl,rfl,_,rfl,p,_,rfl,.inr (SqT.of hq4),_,_,rfl,rfl,.inr ⟨_,rfl,?_⟩⟩
    refine ⟨by show 2 ≤ sizeLine; decide,fun g hg=>?_⟩
    have nlg:l ≠ g:=ne_of_none c1 hg
    refine ⟨l,_,_,rfl,rfl,by rw [upd_ne nlg]; exact c1,small (by rw [List.length_map]; omega),?_⟩
    refine ⟨_,_,rfl,Same.put (Same.put s04 (s04.free hg)) hl,cs ++ [g],by rw [upd_same,List.map_append]; rfl,by rw [List.length_append,c2]; rfl,fun i q e=>?_⟩
    rcases snoc_get e with e1 | ⟨e1,e2⟩
    ·have q3:=c3 i q e1
     rw [upd_ne (ne_of q3 c1 (by intro z; cases z)),upd_ne (ne_of_none q3 hg)]
     exact q3
    ·subst e2
     have ei:i=p0 + n:=by omega
     subst ei
     rw [upd_ne (Ne.symm nlg),upd_same]
     have eb:(if decide ((0:Int) + (n:Int) + 1 < ((wd.map V.str).length:Int))=true then (1:Int) else 0)=jb ws (p0 + n):=by
      unfold jb
      rw [hjt,List.length_map]
      have:decide ((0:Int) + (n:Int) + 1 < (wd.length:Int))=decide (n + 1 < wd.length):=decide_eq_decide.mpr (by omega)
      rw [this]
     rw [← eb]
   ·rintro σ H3 ⟨v,y,rfl,s3,hP3⟩
    refine ⟨some (.ref p),v,y,rfl,s3,?_⟩
    rw [flat_take hw,List.length_append,hp0]
    rw [List.length_map] at hP3
    exact hP3
  ·rintro σ H2 ⟨u,v,y,rfl,s2,hP⟩
   rw [List.length_map,h2,List.take_length] at hP
   exact ⟨_,rfl,k l H2 s2 hP⟩
theorem scSize:FnScope ["_law_pieces_here","_law_first","_law_till","_law_size_here","_law_k"] ["_law_pieces_here","_law_first","_law_till"] (defScope sSize):=⟨rfl,rfl,rfl,by decide +kernel,rfl,by decide +kernel,by decide +kernel⟩
theorem ok_size {f:Addr} {fd:FuncData} (F:Fun K "_law_size" "_law_size" sSize f fd) (N:Names mg):FnOk P w K mg base CX0 1 f fd ["_law_pieces_here","_law_first","_law_till"] spSize:=by
 refine F.ok scSize (fun vs H Q E h=>?_) (fun cdv A outer s H vs Q E hr h=>?_)
 ·obtain ⟨l,ws,i,j,e,_⟩:=h
  rw [e]
  rfl
 ·obtain ⟨l,ws,i,j,e,hP,hn,hij,hj,k⟩:=h
  subst e
  refine ⟨_,pss_cons (ps_set (i:=3) scSize.nd rfl (Or.inl rfl) (pe_ix ix_tup (pe_ix ix_list (pv 0) (pe_op op_sub (pv 2) pe_int) (fun _ _=>rfl)) pe_int (fun _ _=>rfl)))
   (pss_cons (ps_for PassesOwn.never rfl (pi_range2 rfl N.range (pa_cons (pv 1) (pa_cons (pv 2) pa_nil))) (pg_name (i:=4) scSize.nd rfl (Or.inl rfl))
    (pss_cons (ps_set (i:=3) scSize.nd rfl (Or.inl rfl) (pe_op op_add (pv 3) (pe_ix ix_tup (pe_ix ix_list (pv 0) (pv 4) (fun _ _=>rfl)) pe_int (fun _ _=>rfl))))
     (pss_one (ps_if (pt_cmpR op_lt (pe_op op_add (pv 4) pe_int) (pv 2) (nomark _)) (pss_one (ps_set (i:=3) scSize.nd rfl (Or.inl rfl) (pe_op op_sub (pe_op op_add (pv 3) pe_int) (pe_ix ix_tup (pe_ix ix_list (pv 0) (pv 4) (fun _ _=>rfl)) pe_int (fun _ _=>rfl))))) pss_nil))))
   (pss_one (ps_ret (pv 3)))),?_⟩
  obtain ⟨as,p,g1,g2,g3,g4⟩:=hP.get (i:=j - 1) (by omega)
  refine ⟨_,rfl,_,rfl,_,_,rfl,rfl,l,_,_,_,rfl,rfl,SqL.of g1,atI_of (j:=j - 1) (by omega) g2,p,_,_,_,rfl,rfl,SqT.of g4,atI_nat (j:=1) rfl,?_⟩
  refine ⟨_,rfl,_,rfl,(i:Int),(j:Int),rfl,⟨by omega,by omega,by omega,by omega⟩,?_⟩
  have en:((j:Int) - (i:Int)).toNat=j - i:=by omega
  rw [en]
  refine for_range (lo:=(i:Int)) (n:=j - i) (fun m σ H2=>H2=H∧∃ v,σ=[some (.ref l),some (.int (i:Int)),some (.int (j:Int)),some (.int (sizeTo ws i j m)),v]) ⟨rfl,none,?_⟩ ?_ ?_
  ·have e0:sizeTo ws i j 0=jb ws (j - 1):=by
    unfold sizeTo
    rw [if_pos (by omega),Nat.add_zero]
    omega
   rw [e0]
   rfl
  ·rintro m σ H2 hm ⟨rfl,v,rfl⟩
   obtain ⟨as,p,g1,g2,g3,g4⟩:=hP.get (i:=i + m) (by omega)
   have ei:(i:Int) + (m:Int)=((i + m:Nat):Int):=by omega
   refine ⟨_,rfl,_,rfl,_,rfl,l,_,_,_,rfl,rfl,SqL.of g1,atI_of ei g2,p,_,_,_,rfl,rfl,SqT.of g4,atI_nat (j:=0) rfl,_,_,rfl,rfl,?_⟩
   refine ⟨_,rfl,_,_,rfl,rfl,_,rfl,_,_,rfl,rfl,_,rfl,?_⟩
   have em:sizeTo ws i j m=jb ws (j - 1) + off ws.flatten (joints ws) (i + m) - off ws.flatten (joints ws) i:=if_pos hm
   by_cases hl:i + m + 1 < j
   ·rw [decide_eq_true (show (i:Int) + (m:Int) + 1 < (j:Int) by omega)]
    refine iteT ?_
    refine ⟨_,rfl,_,_,rfl,rfl,_,rfl,_,rfl,l,_,_,_,rfl,rfl,SqL.of g1,atI_of ei g2,p,_,_,_,rfl,rfl,SqT.of g4,atI_nat (j:=1) rfl,_,_,rfl,rfl,rfl,some (.int ((i:Int) + (m:Int))),?_⟩
    have e1:sizeTo ws i j (m + 1)=sizeTo ws i j m + ((gp ws.flatten (i + m)).length:Int) + 1 - jb ws (i + m):=by
     rw [em]
     unfold sizeTo
     rw [if_pos (by omega),show i + (m + 1)=i + m + 1 by omega,off_succ]
     omega
    rw [e1]
    rfl
   ·rw [decide_eq_false (show ¬ (i:Int) + (m:Int) + 1 < (j:Int) by omega)]
    refine iteF ?_
    refine ⟨rfl,some (.int ((i:Int) + (m:Int))),?_⟩
    have ej:j=i + m + 1:=by omega
    have e1:sizeTo ws i j (m + 1)=sizeTo ws i j m + ((gp ws.flatten (i + m)).length:Int):=by
     rw [em]
     unfold sizeTo lenOf
     rw [if_neg (by omega),ej,end_succ,show i + m + 1 - 1=i + m by omega]
     omega
    rw [e1]
    rfl
  ·rintro σ H2 ⟨rfl,v,rfl⟩
   refine ⟨_,rfl,?_⟩
   have e1:sizeTo ws i j (j - i)=lenOf ws i j:=if_neg (by omega)
   rw [e1]
   exact k
end
end B64
namespace B64
open PySem L2
theorem minO_spec (l:List Int):(l=[]∧minO l=none) ∨ ∃ m,minO l=some m∧m ∈ l∧∀ b ∈ l,m ≤ b:=by
 cases l with
 | nil=>exact .inl ⟨rfl,rfl⟩
 | cons v l =>
  obtain ⟨m,em,hm,h3,h4⟩:=fold_min l v
  refine .inr ⟨m,em,?_,fun b hb=>?_⟩
  ·rcases hm with z | z
   ·rw [z]; exact List.mem_cons_self
   ·exact List.mem_cons_of_mem _ z
  ·rcases List.mem_cons.mp hb with z | z
   ·rw [z]; exact h3
   ·exact h4 b z
theorem mem_keyed {j:Nat} {st:List (Nat × Int)} {c x:Int}:x ∈ keyed j st c ↔ ∃ d,(j,d) ∈ st∧x=c + d:=by
 unfold keyed
 constructor
 ·intro h
  obtain ⟨s,hs,e⟩:=List.mem_map.mp h
  obtain ⟨h1,h2⟩:=List.mem_filter.mp hs
  have h3:s.1=j:=of_decide_eq_true h2
  refine ⟨s.2,?_,e.symm⟩
  rw [← h3]
  exact h1
 ·rintro ⟨d,h,rfl⟩
  exact List.mem_map.mpr ⟨(j,d),List.mem_filter.mpr ⟨h,decide_eq_true rfl⟩,rfl⟩
theorem mem_contrib {ws:List (List Str)} {jt:Int} {wd:List Int} {r:Nat} {costs:List (Option Int)} {j i:Nat} {x:Int}:x ∈ contrib ws jt wd r costs j i ↔ ∃ c d,at0 costs i=some c∧(j,d) ∈ stepsL ws jt wd r i∧x=c + d:=by
 unfold contrib at0
 cases (costs[i]?).getD none with
 | none =>
  constructor
  ·intro h; cases h
  ·rintro ⟨c,d,h,_⟩; cases h
 | some c =>
  constructor
  ·intro h
   obtain ⟨d,h1,h2⟩:=mem_keyed.mp h
   exact ⟨c,d,rfl,h1,h2⟩
  ·rintro ⟨c',d,h,h1,h2⟩
   cases h
   exact mem_keyed.mpr ⟨d,h1,h2⟩
theorem at0_none {a:List (Option Int)} {j:Nat} (h:a.length ≤ j):at0 a j=none:=by
 unfold at0
 rw [List.getElem?_eq_none h]
 rfl
theorem at0_lt {a:List (Option Int)} {j:Nat} {c:Int} (h:at0 a j=some c):j < a.length:=by
 by_cases q:j < a.length
 ·exact q
 ·rw [at0_none (by omega)] at h; cases h
theorem tab_at {ws:List (List Str)} {jt:Int} {wd:List Int} {r j:Nat} (h:j ≤ ws.flatten.length):at0 (tab ws jt wd (r + 1)) j=minO (((List.range (tab ws jt wd r).length).map (contrib ws jt wd r (tab ws jt wd r) j)).flatten) :=
 nextTo_at ws jt wd r (tab ws jt wd r) (by rw [tab_len]; omega) _
theorem tab_zero {ws:List (List Str)} {jt:Int} {wd:List Int} {j:Nat} {c:Int} (h:at0 (tab ws jt wd 0) j=some c):j=0∧c=0:=by
 cases j with
 | zero =>
  have e:some (0:Int)=some c:=h
  exact ⟨rfl,(Option.some.inj e).symm⟩
 | succ j =>
  exfalso
  have e:(((List.replicate ws.flatten.length (none:Option Int))[j]?).getD none)=some c:=h
  rw [List.getElem?_replicate] at e
  split at e <;> cases e
theorem tab_le {ws:List (List Str)} {jt:Int} {wd:List Int} {r j:Nat} {c:Int} (h:at0 (tab ws jt wd r) j=some c):j ≤ ws.flatten.length:=by
 have:=at0_lt h
 rw [tab_len] at this
 omega
theorem step_up {ws:List (List Str)} {jt:Int} {wd:List Int} {r i j:Nat} {c d:Int} (h:at0 (tab ws jt wd r) i=some c) (hs:(j,d) ∈ stepsL ws jt wd r i):∃ u,at0 (tab ws jt wd (r + 1)) j=some u∧u ≤ c + d:=by
 have hi:=tab_le h
 have hj:j ≤ ws.flatten.length:=steps_fst hi hs
 rw [tab_at hj]
 have hm:c + d ∈ ((List.range (tab ws jt wd r).length).map (contrib ws jt wd r (tab ws jt wd r) j)).flatten :=
  List.mem_flatten.mpr ⟨_,List.mem_map.mpr ⟨i,List.mem_range.mpr (at0_lt h),rfl⟩,mem_contrib.mpr ⟨c,d,h,hs,rfl⟩⟩
 rcases minO_spec (((List.range (tab ws jt wd r).length).map (contrib ws jt wd r (tab ws jt wd r) j)).flatten) with ⟨z,_⟩ | ⟨m,e,_,h2⟩
 ·rw [z] at hm; cases hm
 ·exact ⟨m,e,h2 _ hm⟩
theorem step_down {ws:List (List Str)} {jt:Int} {wd:List Int} {r j:Nat} {u:Int} (h:at0 (tab ws jt wd (r + 1)) j=some u):∃ i c,at0 (tab ws jt wd r) i=some c∧(j,u - c) ∈ stepsL ws jt wd r i:=by
 have hj:=tab_le h
 rw [tab_at hj] at h
 rcases minO_spec (((List.range (tab ws jt wd r).length).map (contrib ws jt wd r (tab ws jt wd r) j)).flatten) with ⟨_,z⟩ | ⟨m,e,h1,_⟩
 ·rw [z] at h; cases h
 ·rw [e] at h
  have e2:m=u:=Option.some.inj h
  subst e2
  obtain ⟨l,hl,hx⟩:=List.mem_flatten.mp h1
  obtain ⟨i,_,rfl⟩:=List.mem_map.mp hl
  obtain ⟨c,d,a1,a2,a3⟩:=mem_contrib.mp hx
  refine ⟨i,c,a1,?_⟩
  rw [a3,show c + d - c=d by omega]
  exact a2
theorem tills_iff {ws:List (List Str)} {wd:List Int} {r i m j:Nat}:j ∈ tillsL ws wd r i m ↔ i < j∧j < i + 1 + m∧fitB ws wd r i j=true:=by
 unfold tillsL
 constructor
 ·intro h
  obtain ⟨h1,h2⟩:=List.mem_filter.mp h
  obtain ⟨k,hk,e⟩:=List.mem_map.mp h1
  have:=List.mem_range.mp hk
  exact ⟨by omega,by omega,h2⟩
 ·rintro ⟨h1,h2,h3⟩
  exact List.mem_filter.mpr ⟨List.mem_map.mpr ⟨j - (i + 1),List.mem_range.mpr (by omega),by omega⟩,h3⟩
theorem steps_iff {ws:List (List Str)} {jt:Int} {wd:List Int} {r i j:Nat} {d:Int}:(j,d) ∈ stepsL ws jt wd r i ↔ (i < j∧j < ws.flatten.length∧fitB ws wd r i j=true∧d=costOf ws jt wd r i j) ∨ (j=i∧mayB ws wd r i=true∧d=emptyC wd r):=by
 unfold stepsL
 rw [List.mem_append]
 constructor
 ·rintro (h | h)
  ·obtain ⟨k,hk,e⟩:=List.mem_map.mp h
   have e1:k=j:=congrArg Prod.fst e
   have e2:costOf ws jt wd r i k=d:=congrArg Prod.snd e
   subst e1
   obtain ⟨a,b,c⟩:=tills_iff.mp hk
   exact .inl ⟨a,by omega,c,e2.symm⟩
  ·split at h
   ·rename_i hm
    have e:=List.mem_singleton.mp h
    exact .inr ⟨congrArg Prod.fst e,hm,congrArg Prod.snd e⟩
   ·cases h
 ·rintro (⟨h1,h2,h3,h4⟩ | ⟨h1,h2,h3⟩)
  ·exact .inl (List.mem_map.mpr ⟨j,tills_iff.mpr ⟨h1,by omega,h3⟩,by rw [h4]⟩)
  ·refine .inr ?_
   rw [if_pos h2,h1,h3]
   exact List.mem_singleton.mpr rfl
theorem sq_nonneg (z:Int):0 ≤ z ^ 2:=by
 rw [Int.pow_succ,Int.pow_succ,Int.pow_zero,Int.one_mul]
 rcases Int.le_total 0 z with h | h
 ·exact Int.mul_nonneg h h
 ·exact Int.mul_nonneg_of_nonpos_of_nonpos h h
theorem cost_nonneg {ws:List (List Str)} {jt:Int} {wd:List Int} {r i j:Nat} (hj:0 ≤ jt):0 ≤ costOf ws jt wd r i j:=by
 unfold costOf price
 have h:=sq_nonneg (wAt wd r - lenOf ws i j)
 split <;> omega
theorem empty_nonneg {wd:List Int} {r:Nat}:0 ≤ emptyC wd r:=by
 unfold emptyC
 exact sq_nonneg _
theorem tab_nonneg {ws:List (List Str)} {jt:Int} {wd:List Int} (hjt:0 ≤ jt):∀ {r j:Nat} {u:Int},at0 (tab ws jt wd r) j=some u→0 ≤ u
 | 0,j,u,h=>by rw [(tab_zero h).2]; exact Int.le_refl _
 | r + 1,j,u,h=>by
  obtain ⟨i,c,h1,h2⟩:=step_down h
  have ih:=tab_nonneg hjt h1
  have hd:0 ≤ u - c:=by
   rcases steps_iff.mp h2 with ⟨_,_,_,e⟩ | ⟨_,_,e⟩
   ·rw [e]; exact cost_nonneg hjt
   ·rw [e]; exact empty_nonneg
  omega
def Lead (ws:List (List Str)) (jt:Int) (wd:List Int) (r place:Nat) (u:Int) (i:Nat):Prop:=∃ c,at0 (tab ws jt wd r) i=some c∧(place,u - c) ∈ stepsL ws jt wd r i
abbrev Tr:=Nat × Nat × Nat
inductive Path (ws:List (List Str)) (jt:Int) (wd:List Int):Nat→Nat→List Tr→Prop
 | nil:Path ws jt wd 0 0 []
 | go {r s place:Nat} {u:Int} {ts:List Tr}:Path ws jt wd r s ts→at0 (tab ws jt wd (r + 1)) place=some u→Lead ws jt wd r place u s→Path ws jt wd (r + 1) place (ts ++ if s < place then [(r,s,place)] else [])
def sumTo (f:Nat→Int):Nat→Int
 | 0=>0
 | n + 1=>sumTo f n + f n
def sumE (wd:List Int) (a b:Nat):Int:=sumTo (emptyC wd) b - sumTo (emptyC wd) a
def stepR (ws:List (List Str)) (jt:Int) (wd:List Int) (s:Nat × Nat × Int) (t:Tr):Nat × Nat × Int:=(t.1 + 1,t.2.2,s.2.2 + sumE wd s.1 t.1 + if t.2.2 < ws.flatten.length then costOf ws jt wd t.1 t.2.1 t.2.2 else 0)
def stR (ws:List (List Str)) (jt:Int) (wd:List Int) (l:List Tr):Nat × Nat × Int:=l.foldl (stepR ws jt wd) (0,0,0)
def CondR (ws:List (List Str)) (wd:List Int) (s:Nat × Nat × Int) (t:Tr):Prop:=s.1 ≤ t.1∧t.2.1=s.2.1∧t.2.1 < t.2.2∧t.2.2 ≤ ws.flatten.length∧(∀ q,s.1 ≤ q→q < t.1→mayB ws wd q s.2.1=true)∧fitB ws wd t.1 t.2.1 t.2.2=true
def ValidR (ws:List (List Str)) (jt:Int) (wd:List Int) (l:List Tr):Prop:=∀ (i:Nat) (t:Tr),l[i]?=some t→CondR ws wd (stR ws jt wd (l.take i)) t
theorem stR_snoc (ws:List (List Str)) (jt:Int) (wd:List Int) (l:List Tr) (t:Tr):stR ws jt wd (l ++ [t])=stepR ws jt wd (stR ws jt wd l) t:=by
 unfold stR
 rw [List.foldl_append]
 rfl
theorem ValidR.nil {ws:List (List Str)} {jt:Int} {wd:List Int}:ValidR ws jt wd []:=fun i t h=>by simp at h
theorem ValidR.snoc {ws:List (List Str)} {jt:Int} {wd:List Int} {l:List Tr} {t:Tr} (h:ValidR ws jt wd l) (c:CondR ws wd (stR ws jt wd l) t):ValidR ws jt wd (l ++ [t]):=fun i u e=>by
 by_cases hi:i < l.length
 ·rw [List.getElem?_append_left hi] at e
  rw [List.take_append_of_le_length (by omega)]
  exact h i u e
 ·have hl:=get_lt e
  rw [List.length_append,List.length_singleton] at hl
  have ei:i=l.length:=by omega
  subst ei
  rw [List.getElem?_append_right (Nat.le_refl _),Nat.sub_self] at e
  have e2:u=t:=(Option.some.inj e).symm
  subst e2
  rw [List.take_left']
  ·exact c
  ·rfl
def lookC (ws:List (List Str)) (jt:Int) (wd:List Int) (l:List Tr) (q:Nat):Option Int:=l.foldl (fun m t=>if q=t.1 then some (costOf ws jt wd t.1 t.2.1 t.2.2) else m) none
theorem lookC_snoc (ws:List (List Str)) (jt:Int) (wd:List Int) (l:List Tr) (t:Tr) (q:Nat):lookC ws jt wd (l ++ [t]) q=if q=t.1 then some (costOf ws jt wd t.1 t.2.1 t.2.2) else lookC ws jt wd l q:=by
 unfold lookC
 rw [List.foldl_append]
 rfl
def rowC (ws:List (List Str)) (jt:Int) (wd:List Int) (l:List Tr) (q:Nat):Int:=(lookC ws jt wd l q).getD (emptyC wd q)
theorem sumTo_congr {f g:Nat→Int}:∀ {n:Nat},(∀ q,q < n→f q=g q)→sumTo f n=sumTo g n
 | 0,_=>rfl
 | n + 1,h=>by
  show sumTo f n + f n=sumTo g n + g n
  rw [sumTo_congr fun q hq=>h q (by omega),h n (by omega)]
theorem sumE_succ (wd:List Int) (a b:Nat):sumE wd a (b + 1)=sumE wd a b + emptyC wd b:=by
 unfold sumE
 show sumTo (emptyC wd) b + emptyC wd b - _=_
 omega
theorem sumE_self (wd:List Int) (a:Nat):sumE wd a a=0:=by unfold sumE; omega
structure PathIs (ws:List (List Str)) (jt:Int) (wd:List Int) (r place:Nat) (ts:List Tr) (c:Int):Prop where
 valid:ValidR ws jt wd ts
 plc:(stR ws jt wd ts).2.1=place
 row:(stR ws jt wd ts).1 ≤ r
 may:∀ q,(stR ws jt wd ts).1 ≤ q→q < r→mayB ws wd q place=true
 cost:(stR ws jt wd ts).2.2 + sumE wd (stR ws jt wd ts).1 r=c
 rows:∀ q,r ≤ q→lookC ws jt wd ts q=none
 sum:sumTo (rowC ws jt wd ts) r=c
theorem path_is {ws:List (List Str)} {jt:Int} {wd:List Int} {r place:Nat} {ts:List Tr} (h:Path ws jt wd r place ts):∀ {c:Int},at0 (tab ws jt wd r) place=some c→PathIs ws jt wd r place ts c:=by
 induction h with
 | nil =>
  intro c hc
  have e:=(tab_zero hc).2
  subst e
  exact ⟨ValidR.nil,rfl,Nat.le_refl _,fun q _ h=>by omega,by show (0:Int) + sumE wd 0 0=0; rw [sumE_self]; rfl,fun _ _=>rfl,rfl⟩
 | @go r s place u ts hp hu hl ih =>
  intro c hc
  rw [hu] at hc
  have ec:u=c:=Option.some.inj hc
  subst ec
  obtain ⟨c0,h0,hs⟩:=hl
  have P:=ih h0
  rcases steps_iff.mp hs with ⟨g1,g2,g3,g4⟩ | ⟨g1,g2,g3⟩
  ·rw [if_pos g1]
   have cond:CondR ws wd (stR ws jt wd ts) (r,s,place):=⟨P.row,P.plc.symm,g1,by show place ≤ _; omega,by rw [P.plc]; exact P.may,g3⟩
   have es:=stR_snoc ws jt wd ts (r,s,place)
   have e1:(stR ws jt wd (ts ++ [(r,s,place)])).1=r + 1:=by rw [es]; rfl
   have e3:(stR ws jt wd (ts ++ [(r,s,place)])).2.2=(stR ws jt wd ts).2.2 + sumE wd (stR ws jt wd ts).1 r + costOf ws jt wd r s place:=by
    rw [es]
    show _ + (if place < ws.flatten.length then _ else _)=_
    rw [if_pos g2]
   refine ⟨P.valid.snoc cond,by rw [es]; rfl,by omega,fun q h1 h2=>by omega,?_,fun q hq=>?_,?_⟩
   ·rw [e3,e1,sumE_self,P.cost]
    omega
   ·rw [lookC_snoc,if_neg (by show ¬ q=r; omega)]
    exact P.rows q (by omega)
   ·show sumTo (rowC ws jt wd (ts ++ [(r,s,place)])) r + rowC ws jt wd (ts ++ [(r,s,place)]) r=u
    have a1:sumTo (rowC ws jt wd (ts ++ [(r,s,place)])) r=sumTo (rowC ws jt wd ts) r:=sumTo_congr fun q hq=>by
     unfold rowC
     rw [lookC_snoc,if_neg (by show ¬ q=r; omega)]
    have a2:rowC ws jt wd (ts ++ [(r,s,place)]) r=costOf ws jt wd r s place:=by
     unfold rowC
     rw [lookC_snoc,if_pos rfl]
     rfl
    rw [a1,a2,P.sum]
    omega
  ·subst g1
   rw [if_neg (by omega),List.append_nil]
   refine ⟨P.valid,P.plc,by have:=P.row; omega,fun q h1 h2=>?_,?_,fun q hq=>P.rows q (by omega),?_⟩
   ·by_cases e:q=r
    ·subst e; exact g2
    ·exact P.may q h1 (by omega)
   ·rw [sumE_succ,← Int.add_assoc,P.cost]
    omega
   ·show sumTo (rowC ws jt wd ts) r + rowC ws jt wd ts r=u
    have a2:rowC ws jt wd ts r=emptyC wd r:=by
     unfold rowC
     rw [P.rows r (Nat.le_refl _)]
     rfl
    rw [P.sum,a2]
    omega
structure FullR (ws:List (List Str)) (jt:Int) (wd:List Int) (R p:Nat) (C:Int) (l:List Tr):Prop where
 valid:ValidR ws jt wd l
 row:(stR ws jt wd l).1=R + 1
 place:(stR ws jt wd l).2.1=ws.flatten.length
 cost:(stR ws jt wd l).2.2=C
 sum:sumTo (rowC ws jt wd l) R=C
 last:∃ ts,l=ts ++ [(R,p,ws.flatten.length)]
theorem full_is {ws:List (List Str)} {jt:Int} {wd:List Int} {R p:Nat} {C:Int} {ts:List Tr} (h:Path ws jt wd R p ts) (hc:at0 (tab ws jt wd R) p=some C) (hp:p < ws.flatten.length) (hf:fitB ws wd R p ws.flatten.length=true) :
  FullR ws jt wd R p C (ts ++ [(R,p,ws.flatten.length)]):=by
 have P:=path_is h hc
 have es:=stR_snoc ws jt wd ts (R,p,ws.flatten.length)
 refine ⟨P.valid.snoc ⟨P.row,P.plc.symm,hp,Nat.le_refl _,by rw [P.plc]; exact P.may,hf⟩,by rw [es]; rfl,by rw [es]; rfl,?_,?_,ts,rfl⟩
 ·rw [es]
  show _ + (if ws.flatten.length < ws.flatten.length then _ else _)=_
  rw [if_neg (by omega),Int.add_zero]
  exact P.cost
 ·have a1:sumTo (rowC ws jt wd (ts ++ [(R,p,ws.flatten.length)])) R=sumTo (rowC ws jt wd ts) R:=sumTo_congr fun q hq=>by
   unfold rowC
   rw [lookC_snoc,if_neg (by show ¬ q=R; omega)]
  rw [a1,P.sum]
end B64
namespace L2
open PySem PySem.Spec PyProof.Rows
def trues (n:Nat):List V:=(List.replicate n true).map V.bl
theorem trues_succ (n:Nat):trues (n + 1)=trues n ++ [V.bl true]:=by
 unfold trues
 rw [List.replicate_succ',List.map_append]
 rfl
theorem trues_len (n:Nat):(trues n).length=n:=by unfold trues; rw [List.length_map,List.length_replicate]
theorem trues_all (n:Nat):(List.replicate n true).all id=true:=by
 rw [List.all_eq_true]
 intro b hb
 rw [(List.mem_replicate.mp hb).2]
 rfl
theorem Same.put' {H H2:Hp} {l:Addr} {o:HO} (s:Same H H2) (hn:H l=none):Same H (upd H2 l o):=fun b u e=>by
 rw [upd_ne (ne_of_none e hn)]
 exact s b u e
theorem comp_allT {K:PySem.W.Frag} {a:Addr} {xs:List V} {te:TE} {σ:St} {H:Hp} {Q:VK} (hq:H a=some (.tup xs)) (hn:xs.length < sizeLine)
  (he:∀ (i:Nat) (x:V) (H':Hp) (Q':VK),xs[i]?=some x→Same H H'→(∀ H3,Same H' H3→Q' (.bl true) H3)→te (some x :: σ) H' Q') (hd:∀ D H',H D=none→Same H H'→H' D=some (.lst (trues xs.length))→Q (.ref D) H'):CompGo (Itt K a) H σ ttAll te Q:=by
 intro D hD
 refine ⟨fun i m H'=>m=xs.length - i∧i ≤ xs.length∧Same H H'∧H' D=some (.lst (trues i)),⟨xs.length,by omega,Nat.zero_le _,Same.put' (Same.refl H) hD,upd_same⟩,?_⟩
 rintro i m H' ⟨rfl,hi,s1,hl⟩
 have q:SqT K H' a xs:=SqT.of (s1 _ _ hq)
 by_cases hlt:i < xs.length
 ·refine .inr ⟨⟨xs,xs[i],q,by simp [hlt]⟩,fun x H2 y=>?_⟩
  obtain ⟨e,y⟩:=y
  subst e
  unfold ttAll
  refine iteT (he i x H2 _ (y xs q) s1 fun H3 s3=>?_)
  exact ⟨trues i,s3 _ _ hl,by rw [trues_len]; omega,xs.length - (i + 1),by omega,rfl,hlt,Same.put' (Same.trans s1 s3) hD,by rw [upd_same,trues_succ]⟩
 ·have e:i=xs.length:=by omega
  subst e
  exact .inl ⟨⟨xs,q,Nat.le_refl _⟩,hd D H' hD s1 hl⟩
end L2
namespace B64
open PySem L2
theorem kit_ints {K:PySem.W.Frag}:PySem.W.kitOne K (.type "int") (.type "int")=some true:=by rfl
theorem kit_intb {K:PySem.W.Frag}:PySem.W.kitOne K (.type "int") (.type "bool")=some false:=by rfl
theorem kit_tup {K:PySem.W.Frag}:PySem.W.kitOne K (.type "tuple") (.type "tuple")=some true:=by rfl
theorem kit_list {K:PySem.W.Frag}:PySem.W.kitOne K (.type "list") (.type "list")=some true:=by rfl
def TupsAt {α:Type} (f:α→List V) (H:Hp) (l:Addr) (ts:List α):Prop:=∃ as:List Addr,H l=some (.lst (as.map V.ref))∧as.length=ts.length∧∀ (k:Nat) (p:Addr) (t:α),as[k]?=some p→ts[k]?=some t→H p=some (.tup (f t))
section
variable {α:Type} {f:α→List V} {H H':Hp} {l:Addr} {ts:List α}
theorem TupsAt.same (h:TupsAt f H l ts) (s:Same H H'):TupsAt f H' l ts:=by
 obtain ⟨as,h1,h2,h3⟩:=h
 exact ⟨as,s _ _ h1,h2,fun k p t e1 e2=>s _ _ (h3 k p t e1 e2)⟩
theorem TupsAt.snoc {g:Addr} {t:α} {as:List Addr} (h1:H l=some (.lst (as.map V.ref))) (h2:as.length=ts.length) (h3:∀ (k:Nat) (p:Addr) (t:α),as[k]?=some p→ts[k]?=some t→H p=some (.tup (f t))) (hg:H g=none) :
  TupsAt f (upd (upd H g (.tup (f t))) l (.lst (as.map V.ref ++ [V.ref g]))) l (ts ++ [t]):=by
 have nlg:l ≠ g:=ne_of_none h1 hg
 refine ⟨as ++ [g],by rw [upd_same,List.map_append]; rfl,by rw [List.length_append,List.length_append,h2]; rfl,fun k p u e1 e2=>?_⟩
 rcases snoc_get e1 with z | ⟨z1,z2⟩
 ·have hk:=get_lt z
  rw [List.getElem?_append_left (by omega)] at e2
  have q:=h3 k p u z e2
  rw [upd_ne (ne_of q h1 (by intro z; cases z)),upd_ne (ne_of_none q hg)]
  exact q
 ·subst z2
  rw [List.getElem?_append_right (by omega),z1,h2,Nat.sub_self] at e2
  have e3:u=t:=(Option.some.inj e2).symm
  subst e3
  rw [upd_ne (Ne.symm nlg),upd_same]
theorem TupsAt.rev {as:List Addr} (h1:H l=some (.lst (as.map V.ref))) (h2:as.length=ts.length) (h3:∀ (k:Nat) (p:Addr) (t:α),as[k]?=some p→ts[k]?=some t→H p=some (.tup (f t))) :
  TupsAt f (upd H l (.lst (as.map V.ref).reverse)) l ts.reverse:=by
 refine ⟨as.reverse,by rw [upd_same,List.map_reverse],by rw [List.length_reverse,List.length_reverse,h2],fun k p t e1 e2=>?_⟩
 have hk:=get_lt e1
 rw [List.length_reverse] at hk
 rw [List.getElem?_reverse hk] at e1
 rw [List.getElem?_reverse (by omega),← h2] at e2
 have q:=h3 _ p t e1 e2
 rw [upd_ne (ne_of q h1 (by intro z; cases z))]
 exact q
end
abbrev trV (t:Tr):List V:=[.int (t.1:Int),.int (t.2.1:Int),.int (t.2.2:Int)]
abbrev enV (t:List Int):List V:=t.map V.int
abbrev TrAt (H:Hp) (l:Addr) (ts:List Tr):Prop:=TupsAt trV H l ts
abbrev EntAt (H:Hp) (l:Addr) (es:List (List Int)):Prop:=TupsAt enV H l es
def TabAt (H:Hp) (l:Addr) (ws:List (List Str)) (jt:Int) (wd:List Int) (m:Nat):Prop:=∃ as:List Addr,H l=some (.lst (as.map V.ref))∧as.length=m + 1∧∀ (r:Nat) (p:Addr),as[r]?=some p→H p=some (.lst ((tab ws jt wd r).map oV))
theorem TabAt.same {H H':Hp} {l:Addr} {ws:List (List Str)} {jt:Int} {wd:List Int} {m:Nat} (h:TabAt H l ws jt wd m) (s:Same H H'):TabAt H' l ws jt wd m:=by
 obtain ⟨as,h1,h2,h3⟩:=h
 exact ⟨as,s _ _ h1,h2,fun r p e=>s _ _ (h3 r p e)⟩
theorem TabAt.get {H:Hp} {l:Addr} {ws:List (List Str)} {jt:Int} {wd:List Int} {m r:Nat} (h:TabAt H l ws jt wd m) (hr:r ≤ m):∃ (as:List Addr) (p:Addr),H l=some (.lst (as.map V.ref))∧as.length=m + 1∧(as.map V.ref)[r]?=some (V.ref p)∧H p=some (.lst ((tab ws jt wd r).map oV)):=by
 obtain ⟨as,h1,h2,h3⟩:=h
 have hl:r < as.length:=by omega
 have e:as[r]?=some as[r]:=by simp
 exact ⟨as,as[r],h1,h2,by rw [List.getElem?_map,e]; rfl,h3 r _ e⟩
section
variable {P:Program} {w:World} {K:PySem.W.Frag} {mg:Str→Option Value} {base:Heap}
theorem scWhole:FnScope ["thing"] ["thing"] (defScope sWhole):=⟨rfl,rfl,rfl,by decide +kernel,rfl,by decide +kernel,by decide +kernel⟩
theorem scTupOf:FnScope ["thing","many"] ["thing","many"] (defScope sTupOf):=⟨rfl,rfl,rfl,by decide +kernel,rfl,by decide +kernel,by decide +kernel⟩
theorem scLstOf:FnScope ["thing","many"] ["thing","many"] (defScope sLstOf):=⟨rfl,rfl,rfl,by decide +kernel,rfl,by decide +kernel,by decide +kernel⟩
theorem scTriple:FnScope ["thing"] ["thing"] (defScope sTriple):=⟨rfl,rfl,rfl,by decide +kernel,rfl,by decide +kernel,by decide +kernel⟩
theorem scTriples:FnScope ["thing"] ["thing"] (defScope sTriples):=⟨rfl,rfl,rfl,by decide +kernel,rfl,by decide +kernel,by decide +kernel⟩
theorem scEntry:FnScope ["thing"] ["thing"] (defScope sEntry):=⟨rfl,rfl,rfl,by decide +kernel,rfl,by decide +kernel,by decide +kernel⟩
theorem scEntries:FnScope ["thing","many"] ["thing","many"] (defScope sEntries):=⟨rfl,rfl,rfl,by decide +kernel,rfl,by decide +kernel,by decide +kernel⟩
theorem scIsTable:FnScope ["thing","many","wide"] ["thing","many","wide"] (defScope sIsTable):=⟨rfl,rfl,rfl,by decide +kernel,rfl,by decide +kernel,by decide +kernel⟩
end
end B64
namespace B64
open PySem L2
theorem iteB {A B:Prop} {c:Bool} (h:c=true) (a:A):if c=true then A else B:=by rw [if_pos h]; exact a
theorem iteC {A B:Prop} {c:Bool} (h:c=false) (b:B):if c=true then A else B:=by rw [if_neg (by rw [h]; exact Bool.false_ne_true)]; exact b
def endAt1 (ws:List (List Str)) (jt:Int) (wd:List Int) (r i:Nat):List (List Int):=match at0 (tab ws jt wd r) i with
 | some c=>if fitB ws wd r i ws.flatten.length=true then [[c,(r:Int),(i:Int)]] else []
 | none=>[]
def endsTo (ws:List (List Str)) (jt:Int) (wd:List Int) (r:Nat):Nat→List (List Int)
 | 0=>[]
 | m + 1=>endsTo ws jt wd r m ++ endAt1 ws jt wd r m
def allEnds (ws:List (List Str)) (jt:Int) (wd:List Int):Nat→List (List Int)
 | 0=>[]
 | r + 1=>allEnds ws jt wd r ++ endsTo ws jt wd r ws.flatten.length
theorem endsTo_len (ws:List (List Str)) (jt:Int) (wd:List Int) (r:Nat):∀ m,(endsTo ws jt wd r m).length ≤ m
 | 0=>Nat.le_refl _
 | m + 1=>by
  have ih:=endsTo_len ws jt wd r m
  show (endsTo ws jt wd r m ++ endAt1 ws jt wd r m).length ≤ m + 1
  rw [List.length_append]
  have:(endAt1 ws jt wd r m).length ≤ 1:=by
   unfold endAt1
   split
   ·split <;> simp
   ·simp
  omega
theorem allEnds_len (ws:List (List Str)) (jt:Int) (wd:List Int):∀ m,(allEnds ws jt wd m).length ≤ m * ws.flatten.length
 | 0=>Nat.zero_le _
 | m + 1=>by
  have ih:=allEnds_len ws jt wd m
  have:=endsTo_len ws jt wd m ws.flatten.length
  show (allEnds ws jt wd m ++ endsTo ws jt wd m ws.flatten.length).length ≤ _
  rw [List.length_append,Nat.succ_mul]
  omega
theorem mem_endsTo {ws:List (List Str)} {jt:Int} {wd:List Int} {r:Nat} {t:List Int}:∀ {m:Nat},t ∈ endsTo ws jt wd r m ↔ ∃ i c,i < m∧at0 (tab ws jt wd r) i=some c∧fitB ws wd r i ws.flatten.length=true∧t=[c,(r:Int),(i:Int)]
 | 0=>by
  constructor
  ·intro h; cases h
  ·rintro ⟨i,c,h,_⟩; omega
 | m + 1=>by
  show t ∈ endsTo ws jt wd r m ++ endAt1 ws jt wd r m ↔ _
  rw [List.mem_append,mem_endsTo (m:=m)]
  constructor
  ·rintro (⟨i,c,h1,h2⟩ | h)
   ·exact ⟨i,c,by omega,h2⟩
   ·unfold endAt1 at h
    cases e:at0 (tab ws jt wd r) m with
    | none=>rw [e] at h; cases h
    | some c =>
     rw [e] at h
     dsimp only at h
     split at h
     ·rename_i hf
      exact ⟨m,c,by omega,e,hf,List.mem_singleton.mp h⟩
     ·cases h
  ·rintro ⟨i,c,h1,h2,h3,h4⟩
   by_cases e:i=m
   ·subst e
    refine .inr ?_
    unfold endAt1
    rw [h2]
    dsimp only
    rw [if_pos h3]
    exact List.mem_singleton.mpr h4
   ·exact .inl ⟨i,c,by omega,h2,h3,h4⟩
theorem mem_allEnds {ws:List (List Str)} {jt:Int} {wd:List Int} {t:List Int}:∀ {m:Nat},t ∈ allEnds ws jt wd m ↔ ∃ r i c,r < m∧i < ws.flatten.length∧at0 (tab ws jt wd r) i=some c∧fitB ws wd r i ws.flatten.length=true∧t=[c,(r:Int),(i:Int)]
 | 0=>by
  constructor
  ·intro h; cases h
  ·rintro ⟨r,i,c,h,_⟩; omega
 | m + 1=>by
  show t ∈ allEnds ws jt wd m ++ endsTo ws jt wd m ws.flatten.length ↔ _
  rw [List.mem_append,mem_allEnds (m:=m),mem_endsTo]
  constructor
  ·rintro (⟨r,i,c,h1,h2⟩ | ⟨i,c,h1,h2⟩)
   ·exact ⟨r,i,c,by omega,h2⟩
   ·exact ⟨m,i,c,by omega,h1,h2⟩
  ·rintro ⟨r,i,c,h1,h2,h3⟩
   by_cases e:r=m
   ·subst e
    exact .inr ⟨i,c,h2,h3⟩
   ·exact .inl ⟨r,i,c,by omega,h2,h3⟩
def leadB (ws:List (List Str)) (jt:Int) (wd:List Int) (r place:Nat) (u:Int) (i:Nat):Bool:=match at0 (tab ws jt wd r) i with
 | some c=>(stepsL ws jt wd r i).any fun s=>((s.1:Int) == (place:Int)) && (s.2 == u - c)
 | none=>false
theorem leadB_iff {ws:List (List Str)} {jt:Int} {wd:List Int} {r place:Nat} {u:Int} {i:Nat}:leadB ws jt wd r place u i=true ↔ Lead ws jt wd r place u i:=by
 unfold leadB Lead
 cases at0 (tab ws jt wd r) i with
 | none =>
  constructor
  ·intro h; cases h
  ·rintro ⟨c,h,_⟩; cases h
 | some c =>
  dsimp only
  rw [List.any_eq_true]
  constructor
  ·rintro ⟨s,hs,h⟩
   rw [Bool.and_eq_true,beq_iff_eq,beq_iff_eq] at h
   refine ⟨c,rfl,?_⟩
   have e1:s.1=place:=by omega
   have e2:s=(place,u - c):=by rw [← e1,← h.2]
   rw [← e2]
   exact hs
  ·rintro ⟨c',h,hs⟩
   cases h
   exact ⟨_,hs,by simp⟩
def spEnds (C:Addr):Sp:=fun vs H Q _=>∃ (x cl:Addr) (ws:List (List Str)) (jt:Int) (wd:List Int) (r:Nat),vs=[.ref x,.int r,.ref cl]∧Base C H x ws jt wd∧H cl=some (.lst ((tab ws jt wd r).map oV)) ∧
 ∀ (l:Addr) (H':Hp),H l=none→Same H H'→EntAt H' l (endsTo ws jt wd r ws.flatten.length)→Q (.ref l) H'
def spLeads (C:Addr):Sp:=fun vs H Q _=>∃ (x tb:Addr) (ws:List (List Str)) (jt:Int) (wd:List Int) (m r i p:Nat) (u:Int),vs=[.ref x,.ref tb,.int r,.int i,.int p]∧Base C H x ws jt wd∧TabAt H tb ws jt wd m∧r + 1 ≤ m∧i ≤ ws.flatten.length∧at0 (tab ws jt wd (r + 1)) p=some u ∧
 ∀ H',Same H H'→Q (.bl (leadB ws jt wd r p u i)) H'
def spBefore (C:Addr):Sp:=fun vs H Q _=>∃ (x tb:Addr) (ws:List (List Str)) (jt:Int) (wd:List Int) (m r p:Nat) (u:Int),vs=[.ref x,.ref tb,.int r,.int p]∧Base C H x ws jt wd∧TabAt H tb ws jt wd m∧r + 1 ≤ m∧at0 (tab ws jt wd (r + 1)) p=some u ∧
 ∀ (i:Nat) (H':Hp),Lead ws jt wd r p u i→Same H H'→Q (.int (i:Int)) H'
def spBack (C:Addr):Sp:=fun vs H Q _=>∃ (x tb e:Addr) (ws:List (List Str)) (jt:Int) (wd:List Int) (m R p:Nat) (c:Int),vs=[.ref x,.ref tb,.ref e]∧Base C H x ws jt wd∧TabAt H tb ws jt wd m∧R ≤ m∧m ≤ 200∧H e=some (.tup [.int c,.int (R:Int),.int (p:Int)])∧at0 (tab ws jt wd R) p=some c ∧
 ∀ (l:Addr) (ts:List Tr) (H':Hp),Path ws jt wd R p ts→Same H H'→TrAt H' l (ts ++ [(R,p,ws.flatten.length)])→ts.length ≤ 200→Q (.ref l) H'
theorem at0_at {a:List (Option Int)} {i:Nat} (h:i < a.length):(a.map oV)[i]?=some (oV (at0 a i)):=oV_at h
section
variable {P:Program} {w:World} {K:PySem.W.Frag} {mg:Str→Option Value} {base:Heap}
theorem scEnds:FnScope ["setting","row","costs","ends","start"] ["setting","row","costs"] (defScope sEnds):=⟨rfl,rfl,rfl,by decide +kernel,rfl,by decide +kernel,by decide +kernel⟩
theorem ok_ends {f C fF:Addr} {fd dF:FuncData} (F:Fun K "ends_at" "ends_at" sEnds f fd) (N:Names mg) (T:TxtS K C) (GF:FnOk P w K mg base CX0 2 fF dF ["self","row","start","till"] (spFits C)) (bF:Binds K dF ["self","row","start","till"] []) (mF:Meth K C "fits" fF) :
  FnOk P w K mg base CX0 3 f fd ["setting","row","costs"] (spEnds C):=by
 refine F.ok scEnds (fun vs H Q E h=>?_) (fun cdv A outer s H vs Q E hr h=>?_)
 ·obtain ⟨x,cl,ws,jt,wd,r,e,_⟩:=h
  rw [e]
  rfl
 ·obtain ⟨x,cl,ws,jt,wd,r,e,hB,hcl,k⟩:=h
  subst e
  have hn:=hB.2.2.2
  obtain ⟨dx,lw,lp,lq,lb,le,hx,_⟩:=id hB.1
  refine ⟨_,pss_cons (ps_set (i:=3) scEnds.nd rfl (Or.inl rfl) (pe_lst pa_nil))
   (pss_cons (ps_for PassesOwn.never rfl (pi_range1 rfl N.range (pa_cons (pe_fld (pv 0) rfl) pa_nil)) (pg_name (i:=4) scEnds.nd rfl (Or.inl rfl))
    (pss_one (ps_if (pw_and (pt_cmp (pc_notN (pe_ix ix_list (pv 2) (pv 4) (fun _ _=>rfl)))) (pw_and1 (pt_val (pe_meth (pv 0) T.cl mF GF hr bF .nil pass0 (pa_cons (pv 1) (pa_cons (pv 4) (pa_cons (pe_fld (pv 0) rfl) pa_nil))))))).pt
     (pss_one (ps_expr (pe_bm PySem.F.plainAttrs_list PySem.F.slot_list_append PySem.F.type_list_append mt_append (pv 3) (pa_cons (pe_tup (pa_cons (pe_ix ix_list (pv 2) (pv 4) (fun _ _=>rfl)) (pa_cons (pv 1) (pa_cons (pv 4) pa_nil)))) pa_nil)))) pss_nil)))
   (pss_one (ps_ret (pv 3)))),?_⟩
  refine ⟨smallE (by simp),fun l hl=>?_⟩
  have s0:Same H (upd H l (.lst [])):=Same.put (Same.refl H) hl
  refine ⟨_,rfl,x,C,dx,_,_,rfl,s0 _ _ hx,T.cl,T.l,f6_last _ _ _ _ _ _,(ws.flatten.length:Int),rfl,by omega,by omega,?_⟩
  rw [show ((ws.flatten.length:Nat):Int).toNat=ws.flatten.length by omega]
  refine for_range (n:=ws.flatten.length) (fun m σ H2=>∃ u,σ=[some (.ref x),some (.int (r:Int)),some (.ref cl),some (.ref l),u]∧Same H H2∧EntAt H2 l (endsTo ws jt wd r m)) ⟨_,rfl,s0,[],upd_same,rfl,fun k p t e=>by simp at e⟩ ?_ ?_
  ·rintro i σ H2 hi ⟨u,rfl,s2,as,g1,g2,g3⟩
   have ei:(0:Int) + (i:Int)=(i:Int):=by omega
   have hc2:=s2 _ _ hcl
   have hx2:=s2 _ _ hx
   have hB2:=hB.same s2
   have tl:=tab_len ws jt wd r
   have hat:((tab ws jt wd r).map oV)[i]?=some (oV (at0 (tab ws jt wd r) i)):=at0_at (by omega)
   have es:endsTo ws jt wd r (i + 1)=endsTo ws jt wd r i ++ endAt1 ws jt wd r i:=rfl
   refine ⟨_,rfl,_,rfl,cl,_,_,_,rfl,rfl,SqL.of hc2,atI_of (j:=i) ei hat,_,rfl,?_⟩
   cases hc:at0 (tab ws jt wd r) i with
   | none =>
    refine iteF ?_
    refine iteF ⟨_,rfl,s2,?_⟩
    rw [es]
    unfold endAt1
    rw [hc,List.append_nil]
    exact ⟨as,g1,g2,g3⟩
   | some c =>
    rw [hc] at hat
    refine iteT ?_
    refine ⟨_,rfl,x,dx,_,rfl,hx2,f6_no _ _ _ _ _ _ (by decide +kernel) (by decide +kernel) (by decide +kernel) (by decide +kernel) (by decide +kernel) (by decide +kernel),_,rfl,_,rfl,_,rfl,x,C,dx,_,_,rfl,hx2,T.cl,T.l,f6_last _ _ _ _ _ _,x,ws,jt,wd,r,i,ws.flatten.length,by rw [ei]; rfl,hB2,hi,Nat.le_refl _,_,rfl,?_⟩
    cases hf:fitB ws wd r i ws.flatten.length with
    | false =>
     refine iteF ⟨_,rfl,s2,?_⟩
     rw [es]
     unfold endAt1
     rw [hc]
     dsimp only
     rw [hf,if_neg (by simp),List.append_nil]
     exact ⟨as,g1,g2,g3⟩
    | true =>
     refine iteT ?_
     refine ⟨_,rfl,.inl ⟨rfl,_,SqL.of g1⟩,_,rfl,_,rfl,cl,_,_,_,rfl,rfl,SqL.of hc2,atI_of (j:=i) ei hat,_,rfl,_,rfl,by show 3 ≤ sizeLine; decide,fun g hg=>?_⟩
     have nlg:l ≠ g:=ne_of_none g1 hg
     have le2:=endsTo_len ws jt wd r i
     refine ⟨l,_,_,rfl,rfl,by rw [upd_ne nlg]; exact g1,small (by rw [List.length_map]; omega),?_⟩
     refine ⟨_,rfl,Same.put (Same.put s2 (s2.free hg)) hl,?_⟩
     rw [es]
     unfold endAt1
     rw [hc]
     dsimp only
     rw [hf,if_pos rfl,ei]
     exact TupsAt.snoc (f:=enV) (t:=[c,(r:Int),(i:Int)]) g1 g2 g3 hg
  ·rintro σ H2 ⟨u,rfl,s2,hE⟩
   exact ⟨_,rfl,k l H2 hl s2 hE⟩
theorem scLeads:FnScope ["setting","table","row","start","place","number"] ["setting","table","row","start","place"] (defScope sLeads):=⟨rfl,rfl,rfl,by decide +kernel,rfl,by decide +kernel,by decide +kernel⟩
theorem ok_leads {f C fS:Addr} {fd dS:FuncData} (F:Fun K "leads_to" "leads_to" sLeads f fd) (T:TxtS K C) (GS:FnOk P w K mg base CX0 4 fS dS ["self","row","start"] (spSteps C)) (bS:Binds K dS ["self","row","start"] []) (mS:Meth K C "steps_at" fS) :
  FnOk P w K mg base CX0 5 f fd ["setting","table","row","start","place"] (spLeads C):=by
 refine F.ok scLeads (fun vs H Q E h=>?_) (fun cdv A outer s H vs Q E hr h=>?_)
 ·obtain ⟨x,tb,ws,jt,wd,m,r,i,p,u,e,_⟩:=h
  rw [e]
  rfl
 ·obtain ⟨x,tb,ws,jt,wd,m,r,i,p,u,e,hB,hT,hrm,hi,hu,k⟩:=h
  subst e
  obtain ⟨dx,lw,lp,lq,lb,le,hx,_⟩:=id hB.1
  refine ⟨_,pss_cons (ps_set (i:=5) scLeads.nd rfl (Or.inl rfl) (pe_ix ix_list (pe_ix ix_list (pv 1) (pv 2) (fun _ _=>rfl)) (pv 3) (fun _ _=>rfl)))
   (pss_one (ps_ret (pe_and (pe_cmp (pc_notN (pv 5))) (pe_one (pe_cmpR (op_inP (hu_of hr)) (pe_tup (pa_cons (pv 4) (pa_cons (pe_op op_sub (pe_ix ix_list (pe_ix ix_list (pv 1) (pe_op op_add (pv 2) pe_int) (fun _ _=>rfl)) (pv 4) (fun _ _=>rfl)) (pv 5)) pa_nil)))
    (pe_meth (pv 0) T.cl mS GS hr bS .nil pass0 (pa_cons (pv 2) (pa_cons (pv 3) pa_nil))) (by with_unfolding_all rfl)))))),?_⟩
  obtain ⟨as,q1,t1,t2,t3,t4⟩:=hT.get (r:=r) (by omega)
  obtain ⟨as',q2,t1',t2',t3',t4'⟩:=hT.get (r:=r + 1) hrm
  have tl:=tab_len ws jt wd r
  have tl':=tab_len ws jt wd (r + 1)
  have hp:=tab_le hu
  have a1:((tab ws jt wd r).map oV)[i]?=some (oV (at0 (tab ws jt wd r) i)):=at0_at (by omega)
  have a2:((tab ws jt wd (r + 1)).map oV)[p]?=some (V.int u):=by rw [at0_at (by omega),hu]; rfl
  refine ⟨_,rfl,_,rfl,tb,_,_,_,rfl,rfl,SqL.of t1,atI_nat t3,_,rfl,q1,_,_,_,rfl,rfl,SqL.of t4,atI_nat a1,?_⟩
  refine ⟨_,rfl,_,rfl,?_⟩
  unfold leadB at k
  cases hc:at0 (tab ws jt wd r) i with
  | none =>
   rw [hc] at k
   exact iteF (k H (Same.refl H))
  | some c =>
   rw [hc] at k
   refine iteT ?_
   refine ⟨_,rfl,_,rfl,_,rfl,_,_,rfl,rfl,tb,_,_,_,rfl,rfl,SqL.of t1',atI_of (j:=r + 1) (by omega) t3',_,rfl,q2,_,_,_,rfl,rfl,SqL.of t4',atI_nat a2,_,rfl,_,_,rfl,rfl,by show 2 ≤ sizeLine; decide,fun g hg=>?_⟩
   have s1:Same H (upd H g (.tup [.int (p:Int),.int (u - c)])):=Same.put (Same.refl H) hg
   have z1:(upd H g (.tup [.int (p:Int),.int (u - c)])) g=some (.tup [.int (p:Int),.int (u - c)]):=upd_same
   refine (show tMeth _ _ _ _ _ _ _ _ (upd H g (.tup [.int (p:Int),.int (u - c)])) _ from ?_)
   generalize upd H g (.tup [.int (p:Int),.int (u - c)])=H1 at *
   refine ⟨_,rfl,x,dx,_,rfl,s1 _ _ hx,f6_no _ _ _ _ _ _ (by decide +kernel) (by decide +kernel) (by decide +kernel) (by decide +kernel) (by decide +kernel) (by decide +kernel),_,rfl,_,rfl,x,ws,jt,wd,r,i,rfl,hB.same s1,hi,fun l H2 s2 hP=>?_⟩
   obtain ⟨bs,p1,p2,p3⟩:=hP
   refine ⟨g,l,(p:Int),u - c,bs,(stepsL ws jt wd r i).map fun s=>((s.1:Int),s.2),rfl,rfl,s2 _ _ z1,SqL.of p1,by rw [List.length_map,p2],fun k' b v e1 e2=>?_,?_⟩
   ·rw [List.getElem?_map] at e2
    cases es:(stepsL ws jt wd r i)[k']? with
    | none=>rw [es] at e2; cases e2
    | some sv =>
     rw [es] at e2
     have e3:v=((sv.1:Int),sv.2):=(Option.some.inj e2).symm
     subst e3
     exact p3 k' b sv e1 es
   ·rw [List.any_map]
    exact k H2 (Same.trans s1 s2)
theorem scBefore:FnScope ["setting","table","row","place","start"] ["setting","table","row","place"] (defScope sBefore):=⟨rfl,rfl,rfl,by decide +kernel,rfl,by decide +kernel,by decide +kernel⟩
theorem ok_before {f C fL:Addr} {fd dL:FuncData} (F:Fun K "place_before" "place_before" sBefore f fd) (GL:FnOk P w K mg base CX0 5 fL dL ["setting","table","row","start","place"] (spLeads C)) (bL:Binds K dL ["setting","table","row","start","place"] []) (mL:mg "leads_to"=some (.ref fL)) (kL:PySem.W.keepIn K (.ref fL)=true) :
  FnOk P w K mg base CX0 6 f fd ["setting","table","row","place"] (spBefore C):=by
 refine F.ok scBefore (fun vs H Q E h=>?_) (fun cdv A outer s H vs Q E hr h=>?_)
 ·obtain ⟨x,tb,ws,jt,wd,m,r,p,u,e,_⟩:=h
  rw [e]
  rfl
 ·obtain ⟨x,tb,ws,jt,wd,m,r,p,u,e,hB,hT,hrm,hu,k⟩:=h
  subst e
  obtain ⟨i0,c0,hi0,hs0⟩:=step_down hu
  have lead0:Lead ws jt wd r p u i0:=⟨c0,hi0,hs0⟩
  have hi0n:=tab_le hi0
  refine ⟨_,pss_cons (ps_set (i:=4) scBefore.nd rfl (Or.inl rfl) pe_int)
   (pss_cons (ps_while PassesOwn.never (pt_not (pt_val (pe_call GL hr rfl mL kL bL .nil pass0 (pa_cons (pv 0) (pa_cons (pv 1) (pa_cons (pv 2) (pa_cons (pv 4) (pa_cons (pv 3) pa_nil)))))))) (pss_one (ps_set (i:=4) scBefore.nd rfl (Or.inl rfl) (pe_op op_add (pv 4) pe_int))))
   (pss_one (ps_ret (pv 4)))),?_⟩
  refine ⟨fun m' σ H2=>∃ i:Nat,σ=[some (.ref x),some (.ref tb),some (.int (r:Int)),some (.int (p:Int)),some (.int (i:Int))]∧Same H H2∧i ≤ i0∧m'=i0 - i,⟨_,0,rfl,Same.refl H,Nat.zero_le _,rfl⟩,?_⟩
  rintro m' σ H2 ⟨i,rfl,s2,hi,rfl⟩
  refine ⟨_,rfl,_,rfl,_,rfl,_,rfl,_,rfl,x,tb,ws,jt,wd,m,r,i,p,u,rfl,hB.same s2,hT.same s2,hrm,by omega,hu,fun H3 s3=>⟨_,rfl,?_⟩⟩
  cases hb:leadB ws jt wd r p u i with
  | true =>
   refine iteF ?_
   exact ⟨_,rfl,k i H3 (leadB_iff.mp hb) (Same.trans s2 s3)⟩
  | false =>
   have hlt:i < i0:=by
    by_cases e:i=i0
    ·subst e
     rw [leadB_iff.mpr lead0] at hb
     cases hb
    ·omega
   refine iteT ⟨fun σ' H'=>σ'=[some (.ref x),some (.ref tb),some (.int (r:Int)),some (.int (p:Int)),some (.int ((i:Int) + 1))]∧Same H H',fun σ' H' ⟨e1,e2⟩=>⟨i0 - (i + 1),by omega,i + 1,by rw [e1]; rfl,e2,hlt,rfl⟩,?_⟩
   exact ⟨_,rfl,_,_,rfl,rfl,rfl,Same.trans s2 s3⟩
theorem scBack:FnScope ["setting","table","end","row","place","triples","start"] ["setting","table","end"] (defScope sBack):=⟨rfl,rfl,rfl,by decide +kernel,rfl,by decide +kernel,by decide +kernel⟩
theorem ok_back {f C fB:Addr} {fd dB:FuncData} (F:Fun K "triples_back" "triples_back" sBack f fd) (T:TxtS K C) (GB:FnOk P w K mg base CX0 6 fB dB ["setting","table","row","place"] (spBefore C)) (bB:Binds K dB ["setting","table","row","place"] []) (mB:mg "place_before"=some (.ref fB)) (kB:PySem.W.keepIn K (.ref fB)=true) :
  FnOk P w K mg base CX0 7 f fd ["setting","table","end"] (spBack C):=by
 refine F.ok scBack (fun vs H Q E h=>?_) (fun cdv A outer s H vs Q E hr h=>?_)
 ·obtain ⟨x,tb,en,ws,jt,wd,m,R,p,c,e,_⟩:=h
  rw [e]
  rfl
 ·obtain ⟨x,tb,en,ws,jt,wd,m,R,p,c,e,hB,hT,hRm,hm,hen,hc,k⟩:=h
  subst e
  obtain ⟨dx,lw,lp,lq,lb,le,hx,_⟩:=id hB.1
  refine ⟨_,pss_cons (ps_set (i:=3) scBack.nd rfl (Or.inl rfl) (pe_ix ix_tup (pv 2) pe_int (fun _ _=>rfl)))
   (pss_cons (ps_set (i:=4) scBack.nd rfl (Or.inl rfl) (pe_ix ix_tup (pv 2) pe_int (fun _ _=>rfl)))
   (pss_cons (ps_set (i:=5) scBack.nd rfl (Or.inl rfl) (pe_lst (pa_cons (pe_tup (pa_cons (pv 3) (pa_cons (pv 4) (pa_cons (pe_fld (pv 0) rfl) pa_nil)))) pa_nil)))
   (pss_cons (ps_while PassesOwn.never (pt_cmpR op_gt (pv 3) pe_int (nomark _))
    (pss_cons (ps_set (i:=3) scBack.nd rfl (Or.inl rfl) (pe_op op_sub (pv 3) pe_int))
    (pss_cons (ps_set (i:=6) scBack.nd rfl (Or.inl rfl) (pe_call GB hr rfl mB kB bB .nil pass0 (pa_cons (pv 0) (pa_cons (pv 1) (pa_cons (pv 3) (pa_cons (pv 4) pa_nil))))))
    (pss_cons (ps_if (pt_cmpR op_lt (pv 6) (pv 4) (nomark _)) (pss_one (ps_expr (pe_bm PySem.F.plainAttrs_list PySem.F.slot_list_append PySem.F.type_list_append mt_append (pv 5) (pa_cons (pe_tup (pa_cons (pv 3) (pa_cons (pv 6) (pa_cons (pv 4) pa_nil)))) pa_nil)))) pss_nil)
    (pss_one (ps_set (i:=4) scBack.nd rfl (Or.inl rfl) (pv 6)))))))
   (pss_cons (ps_expr (pe_bm0 PySem.F.plainAttrs_list PySem.F.slot_list_reverse PySem.F.type_list_reverse mt_reverse (pv 5)))
   (pss_one (ps_ret (pv 5))))))),?_⟩
  refine ⟨_,rfl,en,_,_,_,rfl,rfl,SqT.of hen,atI_nat (j:=1) rfl,?_⟩
  refine ⟨_,rfl,en,_,_,_,rfl,rfl,SqT.of hen,atI_nat (j:=2) rfl,?_⟩
  refine ⟨_,rfl,_,rfl,_,rfl,x,C,dx,_,_,rfl,hx,T.cl,T.l,f6_last _ _ _ _ _ _,by show 3 ≤ sizeLine; decide,fun g hg=>?_⟩
  refine ⟨smallE (by simp),fun l hl=>?_⟩
  have ng:g ≠ l:=ne_of_none (H:=upd H g (.tup [.int (R:Int),.int (p:Int),.int (ws.flatten.length:Int)])) upd_same hl
  have s1:Same H (upd H g (.tup [.int (R:Int),.int (p:Int),.int (ws.flatten.length:Int)])):=Same.put (Same.refl H) hg
  have fl:H l=none:=s1.free hl
  have s2:Same H (upd (upd H g (.tup [.int (R:Int),.int (p:Int),.int (ws.flatten.length:Int)])) l (.lst [V.ref g])):=Same.put s1 fl
  have T0:TrAt (upd (upd H g (.tup [.int (R:Int),.int (p:Int),.int (ws.flatten.length:Int)])) l (.lst [V.ref g])) l [(R,p,ws.flatten.length)]:=by
   refine ⟨[g],upd_same,rfl,fun k' b t e1 e2=>?_⟩
   match k',e1,e2 with
   | 0,e1,e2 =>
    have z1:b=g:=(Option.some.inj e1).symm
    have z2:t=(R,p,ws.flatten.length):=(Option.some.inj e2).symm
    subst z1 z2
    rw [upd_ne ng,upd_same]
  generalize upd (upd H g (.tup [.int (R:Int),.int (p:Int),.int (ws.flatten.length:Int)])) l (.lst [V.ref g])=H1 at *
  refine ⟨fun m' σ H2=>∃ (r q:Nat) (acc:List Tr) (d:Int) (v:Option V),σ=[some (.ref x),some (.ref tb),some (.ref en),some (.int (r:Int)),some (.int (q:Int)),some (.ref l),v]∧Same H H2∧TrAt H2 l acc∧at0 (tab ws jt wd r) q=some d∧m'=r∧r ≤ R∧acc.length + r ≤ R + 1 ∧
   (∀ ts,Path ws jt wd r q ts→∃ ts',Path ws jt wd R p ts'∧ts ++ acc.reverse=ts' ++ [(R,p,ws.flatten.length)]),⟨_,R,p,[(R,p,ws.flatten.length)],c,_,rfl,s2,T0,hc,rfl,Nat.le_refl _,by rw [List.length_singleton]; omega,fun ts hts=>⟨ts,hts,rfl⟩⟩,?_⟩
  rintro m' σ H2 ⟨r,q,acc,d,v,rfl,s3,hTr,hd,em,hrR,hacc,hpath⟩
  refine ⟨_,rfl,_,_,rfl,rfl,_,rfl,?_⟩
  cases r with
  | zero =>
   refine iteC (decide_eq_false (by omega)) ?_
   obtain ⟨eq0,_⟩:=tab_zero hd
   subst eq0
   obtain ⟨ts',hts',ets⟩:=hpath [] Path.nil
   rw [List.nil_append] at ets
   obtain ⟨as,g1,g2,g3⟩:=hTr
   have TR:=TupsAt.rev g1 g2 g3
   refine ⟨_,rfl,.inl ⟨rfl,_,SqL.of g1⟩,l,_,rfl,rfl,g1,?_⟩
   refine ⟨_,rfl,k l ts' _ hts' (Same.put s3 fl) (by rw [← ets]; exact TR) ?_⟩
   have:=congrArg List.length ets
   rw [List.length_reverse,List.length_append,List.length_singleton] at this
   omega
  | succ r =>
   refine iteB (decide_eq_true (by omega)) ⟨fun σ' H'=>∃ (q':Nat) (acc':List Tr) (d':Int) (v':Option V),σ'=[some (.ref x),some (.ref tb),some (.ref en),some (.int (r:Int)),some (.int (q':Int)),some (.ref l),v']∧Same H H'∧TrAt H' l acc'∧at0 (tab ws jt wd r) q'=some d'∧acc'.length + r ≤ R + 1 ∧
    (∀ ts,Path ws jt wd r q' ts→∃ ts',Path ws jt wd R p ts'∧ts ++ acc'.reverse=ts' ++ [(R,p,ws.flatten.length)]),fun σ' H' ⟨q',acc',d',v',e1,e2,e3,e4,e5,e6⟩=>⟨r,by omega,r,q',acc',d',v',e1,e2,e3,e4,rfl,by omega,e5,e6⟩,?_⟩
   have er:((r + 1:Nat):Int) - 1=(r:Int):=by omega
   refine ⟨_,rfl,_,_,rfl,rfl,?_⟩
   show gName 3 (V.int (((r + 1:Nat):Int) - 1)) _ _ _
   rw [er]
   refine ⟨_,rfl,_,rfl,_,rfl,_,rfl,x,tb,ws,jt,wd,m,r,q,d,rfl,hB.same s3,hT.same s3,by omega,hd,fun i H3 hlead s4=>?_⟩
   have s34:=Same.trans s3 s4
   have hTr4:=hTr.same s4
   obtain ⟨c1,hc1,hst⟩:=id hlead
   refine ⟨_,rfl,_,rfl,_,_,rfl,rfl,_,rfl,?_⟩
   by_cases hlt:i < q
   ·refine iteB (decide_eq_true (by omega)) ?_
    obtain ⟨as,g1,g2,g3⟩:=hTr4
    refine ⟨_,rfl,.inl ⟨rfl,_,SqL.of g1⟩,_,rfl,_,rfl,_,rfl,by show 3 ≤ sizeLine; decide,fun g' hg'=>?_⟩
    have nlg:l ≠ g':=ne_of_none g1 hg'
    refine ⟨l,_,_,rfl,rfl,by rw [upd_ne nlg]; exact g1,small (by rw [List.length_map]; omega),?_⟩
    refine ⟨_,rfl,i,acc ++ [(r,i,q)],c1,_,rfl,Same.put (Same.put s34 (s34.free hg')) fl,TupsAt.snoc (f:=trV) (t:=(r,i,q)) g1 g2 g3 hg',hc1,by rw [List.length_append,List.length_singleton]; omega,fun ts hts=>?_⟩
    obtain ⟨ts',h1,h2⟩:=hpath _ (Path.go hts hd hlead)
    refine ⟨ts',h1,?_⟩
    rw [if_pos hlt] at h2
    rw [← h2,List.reverse_append,List.append_assoc]
    rfl
   ·refine iteC (decide_eq_false (by omega)) ?_
    refine ⟨_,rfl,i,acc,c1,_,rfl,s34,hTr4,hc1,by omega,fun ts hts=>?_⟩
    obtain ⟨ts',h1,h2⟩:=hpath _ (Path.go hts hd hlead)
    refine ⟨ts',h1,?_⟩
    rw [if_neg hlt,List.append_nil] at h2
    exact h2
end
end B64
namespace L2
open PySem PySem.Spec PyProof.Rows
def Cx.cut (X:Cx) (k:Nat):Cx:={ X with N:=X.N.take k }
theorem Cx.Ok.cut {X:Cx} (ok:X.Ok) (k:Nat):(X.cut k).Ok:=⟨ok.mod,ok.kind,ok.glob,ok.blt,ok.above,ok.inj,ok.has,ok.cab,ok.hd,ok.frames,ok.stk,ok.exf,ok.bs,ok.bsz,ok.noex,ok.exfs,ok.funs,ok.frf⟩
theorem Inv.cut {X:Cx} {pins:List (Addr × Obj)} {σ:St} {H:Hp} {s:Shared} (I:Inv X pins σ H s) (k:Nat):Inv (X.cut k) pins (σ.take k) H s:=by
 refine ⟨I.ok.cut k,I.os,I.bare,I.base,?_,I.cell,I.free,I.freeC,I.pin,I.hok,?_⟩
 ·obtain ⟨m,h1,h2⟩:=I.loc
  refine ⟨m,h1,fun i x v e1 e2 hv=>?_⟩
  have e1':(X.N.take k)[i]?=some x:=e1
  rw [List.getElem?_take] at e1' e2
  split at e1'
  ·rename_i hi
   rw [if_pos hi] at e2
   exact h2 i x v e1' e2 hv
  ·cases e1'
 ·show (σ.take k).length=(X.N.take k).length
  rw [List.length_take,List.length_take,I.len]
theorem Inv.uncut {X:Cx} {pins:List (Addr × Obj)} {σ:St} {H:Hp} {s:Shared} {k:Nat} (I:Inv (X.cut k) pins σ H s) (hk:k ≤ X.N.length):Inv X pins (σ ++ List.replicate (X.N.length - k) none) H s:=by
 have ok:=I.ok
 have hl:σ.length=k:=by
  have:=I.len
  rw [this]
  show (X.N.take k).length=k
  rw [List.length_take]
  omega
 refine ⟨⟨ok.mod,ok.kind,ok.glob,ok.blt,ok.above,ok.inj,ok.has,ok.cab,ok.hd,ok.frames,ok.stk,ok.exf,ok.bs,ok.bsz,ok.noex,ok.exfs,ok.funs,ok.frf⟩,I.os,I.bare,I.base,?_,I.cell,I.free,I.freeC,I.pin,I.hok,?_⟩
 ·obtain ⟨m,h1,h2⟩:=I.loc
  refine ⟨m,h1,fun i x v e1 e2 hv=>?_⟩
  by_cases hi:i < k
  ·rw [List.getElem?_append_left (by omega)] at e2
   refine h2 i x v ?_ e2 hv
   show (X.N.take k)[i]?=some x
   rw [List.getElem?_take_of_lt hi]
   exact e1
  ·rw [List.getElem?_append_right (by omega),List.getElem?_replicate] at e2
   split at e2 <;> cases e2
 ·rw [List.length_append,List.length_replicate,hl]
  omega
theorem ps_retCut {X:Cx} {e:Expr} {pos:Pos} {t:TE} (k:Nat) (hk:k ≤ X.N.length) (he:PE (X.cut k) e t):PS X (.Return (some e) pos) (fun D σ H=>t (σ.take k) H D.rt):=by
 intro pins s σ H D I h
 exact wpAny_Return_some (thn (he pins s (σ.take k) H D.rt (I.cut k) h) fun v s1 ⟨x,H1,I1,r1,q1⟩=>⟨x,_,H1,I1.uncut hk,r1,q1⟩)
end L2
namespace B64
open PySem L2
def spTotal (C:Addr):Sp:=fun vs H Q _=>∃ (x l:Addr) (ws:List (List Str)) (jt:Int) (wd:List Int) (R:Nat) (ts:List Tr),vs=[.ref x,.ref l,.int (R:Int)]∧Base C H x ws jt wd∧TrAt H l ts∧(∀ t ∈ ts,t.2.1 < t.2.2∧t.2.2 ≤ ws.flatten.length)∧R ≤ 200∧ts.length ≤ 10000 ∧
 ∀ H',Same H H'→Q (.int (sumTo (rowC ws jt wd ts) R)) H'
def NoLess (ws:List (List Str)) (jt:Int) (wd:List Int) (r:Nat) (C:Int) (R:Nat):Prop:=∀ i c,i < ws.flatten.length→at0 (tab ws jt wd r) i=some c→fitB ws wd r i ws.flatten.length=true→C < c ∨ (C=c∧R ≤ r)
section
variable {P:Program} {w:World} {K:PySem.W.Frag} {mg:Str→Option Value} {base:Heap}
abbrev nTrSet:List Str:=["setting","many","triples","next_row","place","row","start","till"]
theorem scTrSet:FnScope nTrSet ["setting","many","triples"] (defScope sTrSet):=⟨rfl,rfl,rfl,by decide +kernel,rfl,by decide +kernel,by decide +kernel⟩
theorem scStepsHeld:FnScope ["setting","row","table","start","number","till","cost","told"] ["setting","row","table"] (defScope sStepsHeld):=⟨rfl,rfl,rfl,by decide +kernel,rfl,by decide +kernel,by decide +kernel⟩
theorem scEndsHeld:FnScope ["setting","row","entries","total","end","start","number"] ["setting","row","entries","total","end"] (defScope sEndsHeld):=⟨rfl,rfl,rfl,by decide +kernel,rfl,by decide +kernel,by decide +kernel⟩
abbrev nTotal:List Str:=["setting","triples","end","costs","start","till","row"]
theorem scTotal:FnScope nTotal ["setting","triples","end"] (defScope sTotal):=⟨rfl,rfl,rfl,by decide +kernel,rfl,by decide +kernel,by decide +kernel⟩
theorem sum_range (f:Nat→Int):∀ n,((List.range n).map f).sum=sumTo f n
 | 0=>rfl
 | n + 1=>by
  rw [List.range_succ,List.map_append,List.sum_append,sum_range f n]
  show _ + (f n + 0)=_
  rw [Int.add_zero]
  rfl
def costsK (ws:List (List Str)) (jt:Int) (wd:List Int) (ts:List Tr):List (Key × V):=ts.foldl (fun kvs t=>putK kvs (Sum.inl (t.1:Int)) (V.int (costOf ws jt wd t.1 t.2.1 t.2.2))) []
theorem costsK_snoc (ws:List (List Str)) (jt:Int) (wd:List Int) (ts:List Tr) (t:Tr):costsK ws jt wd (ts ++ [t])=putK (costsK ws jt wd ts) (Sum.inl (t.1:Int)) (V.int (costOf ws jt wd t.1 t.2.1 t.2.2)):=by
 unfold costsK
 rw [List.foldl_append]
 rfl
theorem costsK_len (ws:List (List Str)) (jt:Int) (wd:List Int) (ts:List Tr):∀ n,n ≤ ts.length→(costsK ws jt wd (ts.take n)).length ≤ n
 | 0,_=>Nat.le_refl _
 | n + 1,h=>by
  have ih:=costsK_len ws jt wd ts n (by omega)
  have hg:ts[n]?=some ts[n]:=by simp
  rw [take_snoc hg,costsK_snoc]
  exact Nat.le_trans (length_putK _ _ _) (by omega)
theorem costsK_at (ws:List (List Str)) (jt:Int) (wd:List Int) (ts:List Tr) (q:Nat):∀ n,n ≤ ts.length→valV (costsK ws jt wd (ts.take n)) (Sum.inl (q:Int))=(lookC ws jt wd (ts.take n) q).map V.int
 | 0,_=>rfl
 | n + 1,h=>by
  have ih:=costsK_at ws jt wd ts q n (by omega)
  have hg:ts[n]?=some ts[n]:=by simp
  rw [take_snoc hg,costsK_snoc,lookC_snoc,valV_put,ih]
  by_cases e:q=ts[n].1
  ·rw [if_pos (by rw [e]),if_pos e]
   rfl
  ·rw [if_neg (fun z=>e (by injection z with z; omega)),if_neg e]
theorem ok_total {f C fC fE:Addr} {fd dC dE:FuncData} (F:Fun K "total_cost" "total_cost" sTotal f fd) (N:Names mg) (T:TxtS K C)
  (GC:FnOk P w K mg base CX0 2 fC dC ["self","row","start","till"] (spCost C)) (bC:Binds K dC ["self","row","start","till"] []) (mC:Meth K C "cost_at" fC)
  (GE:FnOk P w K mg base CX0 2 fE dE ["self","row"] (spEmpty C)) (bE:Binds K dE ["self","row"] []) (mE:Meth K C "empty_cost_at" fE):FnOk P w K mg base CX0 3 f fd ["setting","triples","end"] (spTotal C):=by
 refine F.ok scTotal (fun vs H Q E h=>?_) (fun cdv A outer s H vs Q E hr h=>?_)
 ·obtain ⟨x,l,ws,jt,wd,R,ts,e,_⟩:=h
  rw [e]
  rfl
 ·obtain ⟨x,l,ws,jt,wd,R,ts,e,hB,hT,hV,hR,hts,k⟩:=h
  subst e
  obtain ⟨dx,lw,lp,lq,lb,le,hx,_⟩:=id hB.1
  obtain ⟨as,g1,g2,g3⟩:=id hT
  have hu:=hu_of hr
  refine ⟨_,pss_cons (ps_set (i:=3) scTotal.nd rfl (Or.inr rfl) pe_dnewK)
   (pss_cons (ps_for PassesOwn.never rfl (pi_list (pv 1)) (pg_tup rfl (pgs_cons (pg_name (i:=6) scTotal.nd rfl (Or.inl rfl)) (pgs_cons (pg_name (i:=4) scTotal.nd rfl (Or.inl rfl)) (pgs_cons (pg_name (i:=5) scTotal.nd rfl (Or.inl rfl)) pgs_nil))))
    (pss_one (ps_dput hu (pv 3) (pv 6) (pe_meth (pv 0) T.cl mC GC hr bC .nil pass0 (pa_cons (pv 6) (pa_cons (pv 4) (pa_cons (pv 5) pa_nil)))) rfl)))
   (pss_one (ps_retCut 6 (Nat.le_of_ble_eq_true rfl) (pe_callB (call_sumL rfl) (by rfl) N.sum PyProof.Rows.boot_sum (pa_cons (pe_comp (compSc_mk (fs:=defScope sTotal) (N:=["setting","triples","end","costs","start","till"]) rfl rfl (by decide +kernel)) rfl (pi_range1 rfl N.range (pa_cons (pv 2) pa_nil)) (fun _ _ _ _ _=>pts_nil)
    (fun _ _ _ _ _=>pe_dget2 hu (pv 4) (pv 0) (pe_meth (pv 1) T.cl mE GE hr bE .nil pass0 (pa_cons (pv 0) pa_nil)) ⟨rfl,rfl,rfl,rfl⟩)) pa_nil))))),?_⟩
  intro dc hdc
  have nd:∀ {b:Addr} {o:HO},H b=some o→b ≠ dc:=fun h=>ne_of_none h hdc
  refine ⟨_,rfl,l,rfl,⟨_,SqL.of (by rw [upd_ne (nd g1)]; exact g1)⟩,?_⟩
  refine for_list (K:=K) (a:=l) (xs:=as.map V.ref) (fun i σ H2=>∃ a b c,σ=[some (.ref x),some (.ref l),some (.int (R:Int)),some (.ref dc),a,b,c]∧i ≤ ts.length∧H2=upd H dc (.dK (costsK ws jt wd (ts.take i)))) ⟨_,_,_,rfl,Nat.zero_le _,rfl⟩ (fun i σ H2 _ ⟨_,_,_,_,_,e⟩=>by rw [e]; exact SqL.of (by rw [upd_ne (nd g1)]; exact g1)) ?_ ?_
  ·rintro i v σ H2 hv ⟨a,b,c,rfl,hi,rfl⟩
   obtain ⟨p,hp,rfl⟩:=ref_get hv
   obtain ⟨t,ht⟩:=get_of hp g2
   have hil:=get_lt ht
   have htp:=g3 i p t hp ht
   obtain ⟨v1,v2⟩:=hV t (List.mem_of_getElem? ht)
   have s1:Same H (upd H dc (.dK (costsK ws jt wd (ts.take i)))):=Same.put (Same.refl H) hdc
   have hB1:=hB.same s1
   refine ⟨p,_,rfl,SqT.of (s1 _ _ htp),rfl,_,_,rfl,_,_,rfl,_,_,rfl,rfl,?_⟩
   refine ⟨_,rfl,x,dx,_,rfl,s1 _ _ hx,f6_no _ _ _ _ _ _ (by decide +kernel) (by decide +kernel) (by decide +kernel) (by decide +kernel) (by decide +kernel) (by decide +kernel),_,rfl,_,rfl,_,rfl,x,ws,jt,wd,t.1,t.2.1,t.2.2,rfl,hB1.1,hB1.2.1,hB1.2.2.1,hB1.2.2.2,v1,v2,?_⟩
   have kl:=costsK_len ws jt wd ts i (by omega)
   refine ⟨_,rfl,_,rfl,dc,_,rfl,DPut.k (k:=Sum.inl (t.1:Int)) upd_same (small (by omega)),?_⟩
   refine ⟨_,_,_,rfl,hil,?_⟩
   rw [upd_upd,take_snoc ht,costsK_snoc]
  ·rintro σ H2 ⟨a,b,c,rfl,_,rfl⟩
   rw [List.length_map,g2,List.take_length]
   have s1:Same H (upd H dc (.dK (costsK ws jt wd ts))):=Same.put (Same.refl H) hdc
   have hd1:(upd H dc (.dK (costsK ws jt wd ts))) dc=some (.dK (costsK ws jt wd ts)):=upd_same
   generalize upd H dc (.dK (costsK ws jt wd ts))=H1 at *
   refine ⟨_,rfl,(R:Int),rfl,by omega,by omega,?_⟩
   refine (show CompGo (Itr 0 ((R:Nat):Int).toNat) _ _ _ _ _ from ?_)
   rw [show ((R:Nat):Int).toNat=R by omega]
   refine comp_range (fun q=>V.int (rowC ws jt wd ts q)) (small (by omega)) ?_ fun D hD=>?_
   ·intro D q l' Q' hD hq kk
    have s2:Same H1 (upd H1 D (.lst l')):=Same.put (Same.refl _) hD
    have eq:(0:Int) + (q:Int)=(q:Int):=by omega
    have ca:=costsK_at ws jt wd ts q ts.length (Nat.le_refl _)
    rw [List.take_length] at ca
    refine ⟨_,rfl,dc,rfl,.inl ⟨_,.inl (s2 _ _ hd1)⟩,_,rfl,_,rfl,x,dx,_,rfl,s2 _ _ (s1 _ _ hx),f6_no _ _ _ _ _ _ (by decide +kernel) (by decide +kernel) (by decide +kernel) (by decide +kernel) (by decide +kernel) (by decide +kernel),_,rfl,x,ws,jt,wd,q,by rw [eq]; rfl,(hB.same s1).same s2,_,by rw [eq]; exact DGet.k (k:=Sum.inl (q:Int)) (s2 _ _ hd1),?_⟩
    rw [ca]
    have e:((lookC ws jt wd ts q).map V.int).getD (V.int (emptyC wd q))=V.int (rowC ws jt wd ts q):=by
     unfold rowC
     cases lookC ws jt wd ts q <;> rfl
    rw [e]
    exact kk
   ·have e1:(List.range R).map (fun q=>V.int (rowC ws jt wd ts q))=((List.range R).map (rowC ws jt wd ts)).map V.int:=by rw [List.map_map]; rfl
    refine ⟨D,(List.range R).map (rowC ws jt wd ts),rfl,SqL.of (by rw [upd_same,e1]),?_⟩
    rw [sum_range]
    exact k _ (Same.put s1 (s1.free hD))
end
end B64
namespace B64
open PySem L2
def FirstWide (ws:List (List Str)) (wd:List Int) (i:Nat) (p:Str):Prop:=ws.flatten[i]?=some p∧(∀ b ∈ wd,b < lenOf ws i (i + 1))∧∀ j,j < i→∃ b ∈ wd,lenOf ws j (j + 1) ≤ b
def NoWide (ws:List (List Str)) (wd:List Int):Prop:=∀ i,i < ws.flatten.length→∃ b ∈ wd,lenOf ws i (i + 1) ≤ b
def spToo (C:Addr):Sp:=fun vs H Q _=>∃ (a:Addr) (v:V),vs=[.ref a,v]∧H a=some (xo C a none)∧∀ dx,H dx=none→Q .non (upd (upd H dx (.xd [("name",v)])) a (xo C a (some dx)))
def spRefuse (C CT:Addr):Sp:=fun vs H Q E=>∃ (x:Addr) (ws:List (List Str)) (jt:Int) (wd:List Int),vs=[.ref x]∧Base C H x ws jt wd∧(NoWide ws wd→∀ H',Same H H'→Q .non H') ∧
 ∀ (i:Nat) (p:Str) (dx:Addr) (H':Hp),FirstWide ws wd i p→Same H H'→H' dx=some (.xd [("name",.str p)])→E (.ref CT) (some dx) H'
section
variable {P:Program} {w:World} {K:PySem.W.Frag} {mg:Str→Option Value} {base:Heap}
theorem scToo:FnScope ["self","name"] ["self","name"] (defScope sTooInit):=⟨rfl,rfl,rfl,by decide +kernel,rfl,by decide +kernel,by decide +kernel⟩
theorem ok_too {f C:Addr} {fd:FuncData} (F:Fun K "__init__" "TooWide.__init__" sTooInit f fd) (ec:ExcC K C) (hf:PySem.W.findIn K (.ref C) "name"=some none):FnOk P w K mg base CX0 1 f fd ["self","name"] (spToo C):=by
 refine F.ok scToo (fun vs H Q E h=>?_) (fun cdv A outer s H vs Q E hr h=>?_)
 ·obtain ⟨a,v,e,_⟩:=h
  rw [e]
  rfl
 ·obtain ⟨a,v,e,ha,k⟩:=h
  subst e
  refine ⟨_,pss_one (ps_fldX (pv 0) (pv 1) rfl),?_⟩
  exact ⟨_,rfl,_,rfl,a,C,rfl,ha,ec,hf,fun dx hdx=>k dx hdx⟩
theorem scRefuse:FnScope ["setting","greatest","place","piece"] ["setting"] (defScope sRefuse):=⟨rfl,rfl,rfl,by decide +kernel,rfl,by decide +kernel,by decide +kernel⟩
theorem ok_refuse {f C CT fL fI:Addr} {fd dL dI:FuncData} (F:Fun K "refuse_wide" "refuse_wide" sRefuse f fd) (N:Names mg) (T:TxtS K C) (GL:FnOk P w K mg base CX0 1 fL dL ["self","start","till"] (spLength C)) (bL:Binds K dL ["self","start","till"] []) (mL:Meth K C "length_of" fL)
  (O:ownIn K CT fI=true) (hfn:PySem.W.isFn K (.ref fI)=true) (kT:PySem.W.keepIn K (.ref CT)=true) (mT:mg "TooWide"=some (.ref CT)) (GI:FnOk P w K mg base CX0 1 fI dI ["self","name"] (spToo CT)) (bI:Binds K dI ["self","name"] []):FnOk P w K mg base (Fly P w) 3 f fd ["setting"] (spRefuse C CT):=by
 refine F.okE scRefuse (fun vs H Q E h=>?_) (fun cdv A outer s H vs Q E hr h=>?_)
 ·obtain ⟨x,ws,jt,wd,e,_⟩:=h
  rw [e]
  rfl
 ·obtain ⟨x,ws,jt,wd,e,hB,k1,k2⟩:=h
  subst e
  obtain ⟨dx,lw,lp,lq,lb,le,hx,hlw,hlp,_⟩:=id hB.1
  obtain ⟨wo,hS,hn⟩:=hB.2
  have hr1:Room 1 _:=hr.mono (by decide)
  refine ⟨_,pss_cons (ps_set (i:=1) scRefuse.nd rfl (Or.inl rfl) (pe_callB (call_maxL rfl) (by rfl) N.max PyProof.Rows.boot_max (pa_cons (pe_fld (pv 0) rfl) pa_nil)))
   (pss_one (ps_for PassesOwn.leaving rfl (pi_enL0 rfl N.enum (pa_cons (pe_fld (pv 0) rfl) pa_nil)) (pg_tup rfl (pgs_cons (pg_name (i:=2) scRefuse.nd rfl (Or.inl rfl)) (pgs_cons (pg_name (i:=3) scRefuse.nd rfl (Or.inl rfl)) pgs_nil)))
    (pss_one (ps_if (pt_cmpR op_gt (pe_meth (pv 0) T.cl mL GL hr1 bL .nil pass0 (pa_cons (pv 2) (pa_cons (pe_op op_add (pv 2) pe_int) pa_nil))) (pv 1) (nomark _))
     (pss_one (ps_raiseI O hfn kT GI hr rfl mT bI (pa_cons (pv 3) pa_nil))) pss_nil)))),?_⟩
  refine ⟨_,rfl,x,C,dx,_,_,rfl,hx,T.cl,T.w,f6_widths _ _ _ _ _ _,lw,wd,rfl,SqL.of hlw,List.length_pos_iff.mpr wo.1,fun M hM hall=>?_⟩
  refine ⟨_,rfl,x,C,dx,_,_,rfl,hx,T.cl,T.p,f6_pieces _ _ _ _ _ _,lp,rfl,⟨_,SqL.of hlp⟩,?_⟩
  refine for_en (xs:=ws.flatten.map V.str) (fun i σ H2=>∃ a b,σ=[some (.ref x),some (.int M),a,b]∧Same H H2∧∀ j,j < i→∃ b ∈ wd,lenOf ws j (j + 1) ≤ b) ⟨_,_,rfl,Same.refl H,fun j hj=>by omega⟩ (fun i σ H2 _ ⟨_,_,_,s2,_⟩=>SqL.of (s2 _ _ hlp)) ?_ ?_
  ·rintro i v p σ H2 hv hp ⟨b1,b2,rfl,s2,hj⟩
   have hi:i < ws.flatten.length:=by
    have z:=get_lt hv
    rwa [List.length_map] at z
   obtain ⟨pc,hpc,rfl⟩:∃ pc,ws.flatten[i]?=some pc∧v=V.str pc:=by
    rw [List.getElem?_map] at hv
    cases e:ws.flatten[i]? with
    | none=>rw [e] at hv; cases hv
    | some pc=>rw [e] at hv; exact ⟨pc,rfl,(Option.some.inj hv).symm⟩
   have ei:(0:Int) + (i:Int)=(i:Int):=by omega
   have s3:Same H (upd H2 p (.tup [.int (0 + (i:Int)),.str pc])):=Same.put s2 (s2.free hp)
   refine ⟨p,_,rfl,SqT.of upd_same,rfl,_,_,rfl,_,_,rfl,rfl,?_⟩
   generalize upd H2 p (.tup [.int (0 + (i:Int)),.str pc])=H3 at *
   refine ⟨_,rfl,x,dx,_,rfl,s3 _ _ hx,f6_no _ _ _ _ _ _ (by decide +kernel) (by decide +kernel) (by decide +kernel) (by decide +kernel) (by decide +kernel) (by decide +kernel),_,rfl,_,rfl,_,_,rfl,rfl,x,ws,jt,wd,i,i + 1,by rw [ei]; rfl,hB.1.same s3,by omega,by omega,_,rfl,_,_,rfl,rfl,_,rfl,?_⟩
   by_cases c:M < lenOf ws i (i + 1)
   ·refine iteB (decide_eq_true c) ?_
    refine ⟨_,rfl,by show 1 ≤ 1000; decide,fun a ha=>?_⟩
    refine ⟨a,.str pc,rfl,upd_same,fun d hd=>⟨rfl,d,upd_same,?_⟩⟩
    have nda:d ≠ a:=fun z=>by rw [z,upd_same] at hd; cases hd
    have hd3:H3 d=none:=by rw [upd_ne nda] at hd; exact hd
    refine k2 i pc d _ ⟨hpc,fun b hb=>Int.lt_of_le_of_lt (hall b hb) c,hj⟩ (fun b o e=>?_) ?_
    ·have e3:=s3 b o e
     rw [del_ne (ne_of_none e3 ha),upd_ne (ne_of_none e3 ha),upd_ne (ne_of_none e3 hd3),upd_ne (ne_of_none e3 ha)]
     exact e3
    ·rw [del_ne nda,upd_ne nda,upd_same]
   ·refine iteC (decide_eq_false c) ?_
    refine ⟨_,_,rfl,s3,fun j hj2=>?_⟩
    by_cases e:j=i
    ·subst e
     exact ⟨M,hM,by omega⟩
    ·exact hj j (by omega)
  ·rintro σ H2 ⟨b1,b2,rfl,s2,hj⟩
   rw [List.length_map] at hj
   exact k1 hj H2 s2
end
end B64
namespace B64
open PySem L2
theorem TupsAt.app {α:Type} {f:α→List V} {H:Hp} {l:Addr} {as bs:List Addr} {ts us:List α} (h1:H l=some (.lst (as.map V.ref))) (h2:as.length=ts.length) (h3:∀ (k:Nat) (p:Addr) (t:α),as[k]?=some p→ts[k]?=some t→H p=some (.tup (f t)))
  (g2:bs.length=us.length) (g3:∀ (k:Nat) (p:Addr) (t:α),bs[k]?=some p→us[k]?=some t→H p=some (.tup (f t))):TupsAt f (upd H l (.lst (as.map V.ref ++ bs.map V.ref))) l (ts ++ us):=by
 refine ⟨as ++ bs,by rw [upd_same,List.map_append],by rw [List.length_append,List.length_append,h2,g2],fun k p t e1 e2=>?_⟩
 have z:H p=some (.tup (f t)):=by
  by_cases hk:k < as.length
  ·rw [List.getElem?_append_left hk] at e1
   rw [List.getElem?_append_left (by omega)] at e2
   exact h3 k p t e1 e2
  ·rw [List.getElem?_append_right (by omega)] at e1
   rw [List.getElem?_append_right (by omega),← h2] at e2
   exact g3 _ p t e1 e2
 have ne:p ≠ l:=fun q=>by rw [q,h1] at z; cases z
 rw [upd_ne ne]
 exact z
theorem noLess_of {ws:List (List Str)} {jt:Int} {wd:List Int} {m:Nat} {C:Int} {R p:Nat} (h:∀ u ∈ allEnds ws jt wd m,HT.lexLt u [C,(R:Int),(p:Int)]=false):∀ r,r < m→NoLess ws jt wd r C R:=fun r hr i c hi hc hf=>by
 have z:=h _ (mem_allEnds.mpr ⟨r,i,c,hr,hi,hc,hf,rfl⟩)
 rw [HT.lexLt_cons,HT.lexLt_cons] at z
 by_cases h2:c=C
 ·rw [if_pos h2] at z
  refine .inr ⟨h2.symm,?_⟩
  by_cases h3:(r:Int)=(R:Int)
  ·omega
  ·rw [if_neg h3,decide_eq_false_iff_not] at z
   omega
 ·rw [if_neg h2,decide_eq_false_iff_not] at z
  exact .inl (by omega)
def spBest (C CN:Addr):Sp:=fun vs H Q E=>∃ (x tb:Addr) (ws:List (List Str)) (jt:Int) (wd:List Int) (m:Nat),vs=[.ref x,.int (m:Int),.ref tb]∧Base C H x ws jt wd∧TabAt H tb ws jt wd m∧m ≤ 200 ∧
 (∀ (e:Addr) (c:Int) (R p:Nat) (H':Hp),Same H H'→H' e=some (.tup [.int c,.int (R:Int),.int (p:Int)])→R < m→p < ws.flatten.length→at0 (tab ws jt wd R) p=some c→fitB ws wd R p ws.flatten.length=true→(∀ r,r < m→NoLess ws jt wd r c R)→Q (.ref e) H') ∧
 (allEnds ws jt wd m=[]→∀ H',Same H H'→E (.ref CN) none H')
section
variable {P:Program} {w:World} {K:PySem.W.Frag} {mg:Str→Option Value} {base:Heap}
theorem scBest:FnScope ["setting","many","table","ends","row"] ["setting","many","table"] (defScope sBest):=⟨rfl,rfl,rfl,by decide +kernel,rfl,by decide +kernel,by decide +kernel⟩
theorem ok_best {f C CN fE:Addr} {fd dE:FuncData} (F:Fun K "best_end" "best_end" sBest f fd) (N:Names mg) (GE:FnOk P w K mg base CX0 3 fE dE ["setting","row","costs"] (spEnds C)) (bE:Binds K dE ["setting","row","costs"] []) (mE:mg "ends_at"=some (.ref fE)) (kE:PySem.W.keepIn K (.ref fE)=true)
  (O:PySem.W.excIn K CN veMro "ValueError.__new__"=true) (kN:PySem.W.keepIn K (.ref CN)=true) (mN:mg "NoRows"=some (.ref CN)):FnOk P w K mg base (Fly P w) 4 f fd ["setting","many","table"] (spBest C CN):=by
 refine F.okE scBest (fun vs H Q E h=>?_) (fun cdv A outer s H vs Q E hr h=>?_)
 ·obtain ⟨x,tb,ws,jt,wd,m,e,_⟩:=h
  rw [e]
  rfl
 ·obtain ⟨x,tb,ws,jt,wd,m,e,hB,hT,hm,k1,k2⟩:=h
  subst e
  have hn:=hB.2.2.2
  have hu:=hu_of hr
  refine ⟨_,pss_cons (ps_set (i:=3) scBest.nd rfl (Or.inl rfl) (pe_lst pa_nil))
   (pss_cons (ps_for PassesOwn.leaving rfl (pi_range1 rfl N.range (pa_cons (pv 1) pa_nil)) (pg_name (i:=4) scBest.nd rfl (Or.inl rfl))
    (pss_one (ps_expr (pe_bm PySem.F.plainAttrs_list PySem.F.slot_list_extend PySem.F.type_list_extend mt_extend (pv 3) (pa_cons (pe_call GE hr rfl mE kE bE .nil pass0 (pa_cons (pv 0) (pa_cons (pv 4) (pa_cons (pe_ix ix_list (pv 2) (pv 4) (fun _ _=>rfl)) pa_nil)))) pa_nil)))))
   (pss_cons (ps_if (pt_cmpR (op_eqN (Nat.lt_of_succ_lt hu)) (pv 3) (pe_lst pa_nil) (nomark _)) (pss_one (ps_raise0 O rfl mN kN)) pss_nil)
   (pss_one (ps_ret (pe_callB (call_minT rfl hu) (by rfl) N.min PyProof.Rows.boot_min (pa_cons (pv 3) pa_nil)))))),?_⟩
  refine ⟨smallE (by simp),fun l hl=>?_⟩
  have s1:Same H (upd H l (.lst [])):=Same.put (Same.refl H) hl
  have g1:(upd H l (.lst [])) l=some (.lst ([].map V.ref)):=upd_same
  generalize upd H l (.lst [])=H1 at *
  refine ⟨_,rfl,(m:Int),rfl,by omega,by omega,?_⟩
  rw [show ((m:Nat):Int).toNat=m by omega]
  refine for_range (n:=m) (fun i σ H2=>∃ as b,σ=[some (.ref x),some (.int (m:Int)),some (.ref tb),some (.ref l),b]∧Same H H2∧H2 l=some (.lst (as.map V.ref))∧as.length=(allEnds ws jt wd i).length∧∀ (k:Nat) (p:Addr) (t:List Int),as[k]?=some p→(allEnds ws jt wd i)[k]?=some t→H2 p=some (.tup (enV t))) ⟨[],_,rfl,s1,g1,rfl,fun k p t e=>by simp at e⟩ ?_ ?_
  ·rintro i σ H2 hi ⟨as,b,rfl,s2,a1,a2,a3⟩
   have ei:(0:Int) + (i:Int)=(i:Int):=by omega
   obtain ⟨as',q1,t1,t2,t3,t4⟩:=(hT.same s2).get (r:=i) (by omega)
   refine ⟨_,rfl,.inl ⟨rfl,_,SqL.of a1⟩,_,rfl,_,rfl,_,rfl,_,rfl,tb,_,_,_,rfl,rfl,SqL.of t1,atI_of (j:=i) ei t3,x,q1,ws,jt,wd,i,by rw [ei]; rfl,hB.same s2,t4,fun l3 H3 fl3 s3 hE3=>?_⟩
   obtain ⟨bs,c1,c2,c3⟩:=hE3
   have a1':=s3 _ _ a1
   have al:=allEnds_len ws jt wd i
   have el:=endsTo_len ws jt wd i ws.flatten.length
   have hmul:i * ws.flatten.length ≤ 200 * 1000:=Nat.mul_le_mul (by omega) hn
   refine ⟨l,l3,_,_,rfl,rfl,a1',c1,by rw [List.length_map,List.length_map,a2,c2]; show _ ≤ sizeLine; exact Nat.le_trans (show _ ≤ 201000 by omega) (by decide),?_⟩
   have T2:=TupsAt.app a1' a2 (fun k p t e1 e2=>s3 _ _ (a3 k p t e1 e2)) c2 c3
   obtain ⟨as2,d1,d2,d3⟩:=T2
   exact ⟨as2,_,rfl,Same.put (Same.trans s2 s3) hl,d1,d2,d3⟩
  ·rintro σ H2 ⟨as,b,rfl,s2,a1,a2,a3⟩
   refine ⟨_,rfl,smallE (by simp),fun l2 hl2=>?_⟩
   have s3:Same H2 (upd H2 l2 (.lst [])):=Same.put (Same.refl H2) hl2
   have n2:(upd H2 l2 (.lst [])) l2=some (.lst []):=upd_same
   generalize upd H2 l2 (.lst [])=H3 at *
   refine ⟨l,l2,_,rfl,rfl,SqL.of (s3 _ _ a1),SqL.of n2,_,rfl,?_⟩
   cases has:as with
   | nil =>
    subst has
    refine iteT ?_
    exact k2 (List.length_eq_zero_iff.mp a2.symm) H3 (Same.trans s2 s3)
   | cons a0 as0 =>
    refine iteF ?_
    have hpos:0 < as.length:=by rw [has]; exact Nat.succ_pos _
    refine ⟨_,rfl,l,as,allEnds ws jt wd m,rfl,SqL.of (s3 _ _ a1),a2,hpos,fun k p t e1 e2=>s3 _ _ (a3 k p t e1 e2),fun e t ht he hlex=>?_⟩
    obtain ⟨R,p,c,h1,h2,h3,h4,rfl⟩:=mem_allEnds.mp ht
    exact k1 e c R p H3 (Same.trans s2 s3) he h1 h2 h3 h4 (noLess_of hlex)
end
end B64
namespace B64
open PySem L2
def spSetRows (CT CN:Addr):Sp:=fun vs H Q E=>∃ (a wl:Addr) (ws:List (List Str)) (jt:Int) (wd:List Int) (m:Nat),vs=[.ref a,.int jt,.ref wl,.int (m:Int)]∧WordsAt H a ws∧Short ws∧ws.flatten.length ≤ 1000∧H wl=some (.lst (wd.map V.int))∧WideOk wd∧m ≤ 200 ∧
 (∀ (t l tb:Addr) (H':Hp),NoWide ws wd→ws.flatten.length=0→Same H H'→H' t=some (.tup [.ref l,.ref tb])→H' l=some (.lst [])→TabAt H' tb ws jt wd m→Q (.ref t) H') ∧
 (∀ (t l tb:Addr) (H':Hp) (R p:Nat) (c:Int) (ts:List Tr),NoWide ws wd→Same H H'→H' t=some (.tup [.ref l,.ref tb])→TrAt H' l ts→FullR ws jt wd R p c ts→at0 (tab ws jt wd R) p=some c→fitB ws wd R p ws.flatten.length=true→R < m→p < ws.flatten.length→ts.length ≤ 201→(∀ r,r < m→NoLess ws jt wd r c R)→TabAt H' tb ws jt wd m→Q (.ref t) H') ∧
 (∀ (i:Nat) (p:Str) (dx:Addr) (H':Hp),FirstWide ws wd i p→Same H H'→H' dx=some (.xd [("name",.str p)])→E (.ref CT) (some dx) H') ∧
 (NoWide ws wd→0 < ws.flatten.length→allEnds ws jt wd m=[]→∀ H',Same H H'→E (.ref CN) none H')
section
variable {P:Program} {w:World} {K:PySem.W.Frag} {mg:Str→Option Value} {base:Heap}
theorem scSetRows:FnScope ["WORDS","JOINT","widths","many","setting","table"] ["WORDS","JOINT","widths","many"] (defScope sSetRows):=⟨rfl,rfl,rfl,by decide +kernel,rfl,by decide +kernel,by decide +kernel⟩
theorem ok_setRows {f C CT CN fI fT fR fB fK:Addr} {fd dI dT dR dB dK:FuncData} (F:Fun K "set_rows" "set_rows" sSetRows f fd) (T:TxtS K C) (mgC:mg "Setting"=some (.ref C)) (M:Mk K C fI) (GI:FnOk P w K mg base CX0 2 fI dI ["self","words","joint","widths"] (spInit K C)) (bI:Binds K dI ["self","words","joint","widths"] [])
  (GT:FnOk P w K mg base CX0 6 fT dT ["setting","many"] (spTable C)) (bT:Binds K dT ["setting","many"] []) (mT:mg "table_for"=some (.ref fT)) (kT:PySem.W.keepIn K (.ref fT)=true)
  (GR:FnOk P w K mg base (Fly P w) 3 fR dR ["setting"] (spRefuse C CT)) (bR:Binds K dR ["setting"] []) (mR:mg "refuse_wide"=some (.ref fR)) (kR:PySem.W.keepIn K (.ref fR)=true)
  (GB:FnOk P w K mg base (Fly P w) 4 fB dB ["setting","many","table"] (spBest C CN)) (bB:Binds K dB ["setting","many","table"] []) (mB:mg "best_end"=some (.ref fB)) (kB:PySem.W.keepIn K (.ref fB)=true)
  (GK:FnOk P w K mg base CX0 7 fK dK ["setting","table","end"] (spBack C)) (bK:Binds K dK ["setting","table","end"] []) (mK:mg "triples_back"=some (.ref fK)) (kK:PySem.W.keepIn K (.ref fK)=true) :
  FnOk P w K mg base (Fly P w) 8 f fd ["WORDS","JOINT","widths","many"] (spSetRows CT CN):=by
 refine F.okE scSetRows (fun vs H Q E h=>?_) (fun cdv A outer s H vs Q E hr h=>?_)
 ·obtain ⟨a,wl,ws,jt,wd,m,e,_⟩:=h
  rw [e]
  rfl
 ·obtain ⟨a,wl,ws,jt,wd,m,e,hW,hS,hn,hwl,ok,hm,k1,k2,k3,k4⟩:=h
  subst e
  have hr3:Room 3 _:=hr.mono (by decide)
  have hr4:Room 4 _:=hr.mono (by decide)
  have hr6:Room 6 _:=hr.mono (by decide)
  refine ⟨_,pss_cons (ps_set (i:=4) scSetRows.nd rfl (Or.inl rfl) (pe_make M GI hr3 rfl mgC bI .nil pass0 (pa_cons (pv 0) (pa_cons (pv 1) (pa_cons (pv 2) pa_nil)))))
   (pss_cons (ps_expr (pe_call GR hr3 rfl mR kR bR .nil (fly_pass fun _ _ _ z=>z) (pa_cons (pv 4) pa_nil)))
   (pss_cons (ps_set (i:=5) scSetRows.nd rfl (Or.inl rfl) (pe_call GT hr6 rfl mT kT bT .nil pass0 (pa_cons (pv 4) (pa_cons (pv 3) pa_nil))))
   (pss_cons (ps_if (pt_cmpR op_eq (pe_fld (pv 4) rfl) pe_int (nomark _)) (pss_one (ps_ret (pe_tup (pa_cons (pe_lst pa_nil) (pa_cons (pv 5) pa_nil))))) pss_nil)
   (pss_one (ps_ret (pe_tup (pa_cons (pe_call GK hr rfl mK kK bK .nil pass0 (pa_cons (pv 4) (pa_cons (pv 5) (pa_cons (pe_call GB hr4 rfl mB kB bB .nil (fly_pass fun _ _ _ z=>z) (pa_cons (pv 4) (pa_cons (pv 3) (pa_cons (pv 5) pa_nil)))) pa_nil)))) (pa_cons (pv 5) pa_nil)))))))),?_⟩
  refine ⟨_,rfl,_,rfl,_,rfl,?_⟩
  intro x dx nx ndx nex
  have s0:Same H (upd (upd H dx (.own x)) x (.ins C dx [])):=fun b o e=>by
   rw [upd_ne (ne_of_none e nx),upd_ne (ne_of_none e ndx)]
   exact e
  refine ⟨x,dx,a,wl,ws,jt,wd,rfl,upd_same,hW.same s0,hS,hn,s0 _ _ hwl,fun H1 kp hSt=>⟨rfl,?_⟩⟩
  have s1:Same H H1:=fun b o e=>kp b o (s0 b o e) (ne_of_none e nx)
  have hB:Base C H1 x ws jt wd:=⟨hSt,ok,hS,hn⟩
  refine ⟨_,rfl,x,ws,jt,wd,rfl,hB,fun hw H2 s2=>?_,fun i p d H2 fw s2 hd=>k3 i p d H2 fw (Same.trans s1 s2) hd⟩
  have s12:=Same.trans s1 s2
  refine ⟨_,rfl,_,rfl,x,ws,jt,wd,m,rfl,hB.same s2,hm,fun tb H3 s3 hT=>?_⟩
  have s13:=Same.trans s12 s3
  have hB3:=(hB.same s2).same s3
  obtain ⟨_,as,g1,g2,g3⟩:=hT
  have hT3:TabAt H3 tb ws jt wd m:=⟨as,g1,g2,fun r p e=>(g3 r p e).2⟩
  obtain ⟨dx3,lw,lp,lq,lb,le,hx3,_⟩:=id hB3.1
  refine ⟨_,rfl,x,C,dx3,_,_,rfl,hx3,T.cl,T.l,f6_last _ _ _ _ _ _,rfl,_,rfl,?_⟩
  by_cases c:ws.flatten.length=0
  ·refine iteB (decide_eq_true (by rw [c]; rfl)) ?_
   refine ⟨smallE (by simp),fun l hl=>?_⟩
   refine ⟨_,rfl,by show 2 ≤ sizeLine; decide,fun t ht=>?_⟩
   have s4:Same H3 (upd H3 l (.lst [])):=Same.put (Same.refl H3) hl
   have s5:Same H3 (upd (upd H3 l (.lst [])) t (.tup [.ref l,.ref tb])):=Same.put s4 (s4.free ht)
   have nlt:l ≠ t:=ne_of_none (H:=upd H3 l (.lst [])) upd_same ht
   exact k1 t l tb _ hw c (Same.trans s13 s5) upd_same (by rw [upd_ne nlt,upd_same]) (hT3.same s5)
  ·refine iteC (decide_eq_false (fun z=>c (by injection z with z; omega))) ?_
   refine ⟨_,rfl,_,rfl,_,rfl,_,rfl,_,rfl,x,tb,ws,jt,wd,m,rfl,hB3,hT3,hm,fun en cc R p H4 s4 hen hR hp hc hf hl=>?_,fun he H4 s4=>k4 hw (by omega) he H4 (Same.trans s13 s4)⟩
   refine ⟨x,tb,en,ws,jt,wd,m,R,p,cc,rfl,hB3.same s4,hT3.same s4,by omega,hm,hen,hc,fun l ts H5 hpath s5 hTr hlen=>?_⟩
   refine ⟨_,rfl,by show 2 ≤ sizeLine; decide,fun t ht=>?_⟩
   have s45:=Same.trans s4 s5
   have s6:Same H5 (upd H5 t (.tup [.ref l,.ref tb])):=Same.put (Same.refl H5) ht
   exact k2 t l tb _ R p cc _ hw (Same.trans s13 (Same.trans s45 s6)) upd_same (hTr.same s6) (full_is hpath hc hp hf) hc hf hR hp (by rw [List.length_append,List.length_singleton]; omega) hl ((hT3.same s45).same s6)
end
end B64
namespace B64
open PySem L2
def EndR (ts:List Tr) (R:Nat):Prop:=(ts=[]∧R=0) ∨ ∃ ts0 p q,ts=ts0 ++ [(R,p,q)]
theorem last_split {α:Type} {as:List α} {n:Nat} (h:as.length=n + 1):∃ as0 p,as=as0 ++ [p]∧as0.length=n:=by
 have hn:n < as.length:=by omega
 have hg:as[n]?=some as[n]:=by simp
 refine ⟨as.take n,as[n],?_,by rw [List.length_take]; omega⟩
 rw [← take_snoc hg,← h,List.take_length]
theorem ifExp_both {c:Bool} {ta tb:TE} {σ:St} {H:Hp} {Q:VK} (v:V) (k:Q v H) (h1:c=true→∀ Q':VK,Q' v H→ta σ H Q') (h2:c=false→∀ Q':VK,Q' v H→tb σ H Q'):if c=true then ta σ H Q else tb σ H Q:=by
 cases c with
 | true=>exact iteT (h1 rfl Q k)
 | false=>exact iteF (h2 rfl Q k)
section
variable {P:Program} {w:World} {K:PySem.W.Frag} {mg:Str→Option Value} {base:Heap}
abbrev nShown:List Str:=["WORDS","JOINT","widths","many","triples","table","setting","end","total","row"]
theorem scShown:FnScope nShown ["WORDS","JOINT","widths","many","triples","table"] (defScope sShown):=⟨rfl,rfl,rfl,by decide +kernel,rfl,by decide +kernel,by decide +kernel⟩
end
end B64
namespace B64
open PySem L2
theorem sq_mul (z:Int):z ^ 2=z * z:=by rw [Int.pow_succ,Int.pow_succ,Int.pow_zero,Int.one_mul]
theorem price_jb {ws:List (List Str)} {jt:Int} {j:Nat} (h:1 ≤ j):price (joints ws) jt j=jt * jb ws (j - 1):=by
 unfold price jb
 rw [show j - 1 + 1=j by omega]
 split
 ·rw [Int.mul_one]
 ·rw [Int.mul_zero]
theorem may_iff {ws:List (List Str)} {wd:List Int} {r p:Nat} (h:mayB ws wd r p=true):p < ws.flatten.length∧wAt wd r < lenOf ws p (p + 1):=by
 unfold mayB fitB at h
 rw [Bool.and_eq_true,decide_eq_true_iff,Bool.not_eq_true',decide_eq_false_iff_not] at h
 exact ⟨h.1,by omega⟩
theorem fit_iff {ws:List (List Str)} {wd:List Int} {r i j:Nat} (h:fitB ws wd r i j=true):lenOf ws i j ≤ wAt wd r:=by
 unfold fitB at h
 exact decide_eq_true_iff.mp h
theorem len_bd {ws:List (List Str)} {i j:Nat} (hSh:Short ws) (h:i < j) (hj:j ≤ 1000):0 ≤ lenOf ws i j∧lenOf ws i j ≤ 13001:=by
 have fl:=full_len ws.flatten (joints ws) h
 have fle:=full_le (joints ws) hSh i j
 unfold lenOf
 omega
theorem jb_bd (ws:List (List Str)) (i:Nat):0 ≤ jb ws i∧jb ws i ≤ 1:=by
 unfold jb
 split <;> omega
section
variable {P:Program} {w:World} {K:PySem.W.Frag} {mg:Str→Option Value} {base:Heap}
abbrev nLCost:List Str:=["_law_pieces_here","_law_joint","_law_widths","_law_many","_law_triples","_law_place","_law_row","_law_cost_here","_law_at","_law_first","_law_till","_law_empty","_law_width","_law_lack"]
theorem scLCost:FnScope nLCost ["_law_pieces_here","_law_joint","_law_widths","_law_many","_law_triples"] (defScope sLCost):=⟨rfl,rfl,rfl,by decide +kernel,rfl,by decide +kernel,by decide +kernel⟩
end
end B64
namespace B64
open PySem L2
section
variable {P:Program} {w:World} {K:PySem.W.Frag} {mg:Str→Option Value} {base:Heap}
abbrev nLStep:List Str:=["_law_pieces_here","_law_joint","_law_width","_law_costs","_law_after","_law_end","_law_most","_law_first","_law_till","_law_lack","_law_total"]
theorem scLStep:FnScope nLStep ["_law_pieces_here","_law_joint","_law_width","_law_costs","_law_after","_law_end","_law_most"] (defScope sLStep):=⟨rfl,rfl,rfl,by decide +kernel,rfl,by decide +kernel,by decide +kernel⟩
end
end B64
namespace B64
open PySem L2
def gi (ns:List Int) (i:Nat):Int:=(ns[i]?).getD 0
theorem gi_at {ns:List Int} {i:Nat} (h:i < ns.length):(ns.map V.int)[i]?=some (V.int (gi ns i)):=by
 unfold gi
 rw [List.getElem?_map,List.getElem?_eq_getElem h]
 rfl
def spLaw (K:PySem.W.Frag):Sp:=fun vs H Q _=>∃ (a:Addr) (ns:List Int),vs=[.ref a]∧SqL K H a (ns.map V.int)∧ns.length ≤ 63∧∀ H',Q (.bl true) H'
theorem mod_nat {z:Int} {n:Nat} (h:0 < n):∃ i:Nat,z % (n:Int)=(i:Int)∧i < n:=by
 have h1:0 ≤ z % (n:Int):=Int.emod_nonneg _ (by omega)
 have h2:z % (n:Int) < (n:Int):=Int.emod_lt_of_pos _ (by omega)
 exact ⟨(z % (n:Int)).toNat,by omega,by omega⟩
end B64
namespace B64
open PySem L2
abbrev Tbl:=List (List (Option Int))
def gt (tbl:Tbl) (r i:Nat):Option Int:=at0 ((tbl[r]?).getD []) i
def TabG (H:Hp) (l:Addr) (tbl:Tbl):Prop:=∃ as:List Addr,H l=some (.lst (as.map V.ref))∧as.length=tbl.length∧∀ (r:Nat) (p:Addr) (row:List (Option Int)),as[r]?=some p→tbl[r]?=some row→H p=some (.lst (row.map oV))
theorem TabG.same {H H':Hp} {l:Addr} {tbl:Tbl} (h:TabG H l tbl) (s:Same H H'):TabG H' l tbl:=by
 obtain ⟨as,h1,h2,h3⟩:=h
 exact ⟨as,s _ _ h1,h2,fun r p row e1 e2=>s _ _ (h3 r p row e1 e2)⟩
theorem TabG.get {H:Hp} {l:Addr} {tbl:Tbl} {r:Nat} {row:List (Option Int)} (h:TabG H l tbl) (hr:tbl[r]?=some row):∃ (as:List Addr) (p:Addr),H l=some (.lst (as.map V.ref))∧as.length=tbl.length∧(as.map V.ref)[r]?=some (V.ref p)∧H p=some (.lst (row.map oV)):=by
 obtain ⟨as,h1,h2,h3⟩:=h
 have hl:r < as.length:=by have:=get_lt hr; omega
 have e:as[r]?=some as[r]:=by simp
 exact ⟨as,as[r],h1,h2,by rw [List.getElem?_map,e]; rfl,h3 r _ row e hr⟩
def StepsG (ws:List (List Str)) (jt:Int) (wd:List Int) (r:Nat) (a b:List (Option Int)):Prop:=∀ i c,at0 a i=some c→∀ s ∈ stepsL ws jt wd r i,∃ u,at0 b s.1=some u∧u ≤ c + s.2
def spStepsG (C:Addr):Sp:=fun vs H Q _=>∃ (x tb:Addr) (ws:List (List Str)) (jt:Int) (wd:List Int) (tbl:Tbl) (r:Nat) (a b:List (Option Int)),vs=[.ref x,.int (r:Int),.ref tb]∧Base C H x ws jt wd∧TabG H tb tbl∧tbl[r]?=some a∧tbl[r + 1]?=some b∧a.length=ws.flatten.length + 1∧b.length=ws.flatten.length + 1 ∧
 (StepsG ws jt wd r a b→∀ H',Same H H'→Q (.bl true) H')∧(¬ StepsG ws jt wd r a b→∀ H',Same H H'→Q (.bl false) H')
theorem steps_lt {ws:List (List Str)} {jt:Int} {wd:List Int} {r i:Nat} {s:Nat × Int} (h:s ∈ stepsL ws jt wd r i):s.1 < ws.flatten.length:=by
 rcases steps_iff.mp (show (s.1,s.2) ∈ stepsL ws jt wd r i from h) with ⟨_,h2,_⟩ | ⟨h1,h2,_⟩
 ·exact h2
 ·have:=(may_iff h2).1
  omega
section
variable {P:Program} {w:World} {K:PySem.W.Frag} {mg:Str→Option Value} {base:Heap}
theorem ok_stepsG {f C fS:Addr} {fd dS:FuncData} (F:Fun K "steps_held" "steps_held" sStepsHeld f fd) (N:Names mg) (T:TxtS K C) (GS:FnOk P w K mg base CX0 4 fS dS ["self","row","start"] (spSteps C)) (bS:Binds K dS ["self","row","start"] []) (mS:Meth K C "steps_at" fS) :
  FnOk P w K mg base CX0 5 f fd ["setting","row","table"] (spStepsG C):=by
 refine F.ok scStepsHeld (fun vs H Q E h=>?_) (fun cdv A outer s H vs Q E hr h=>?_)
 ·obtain ⟨x,tb,ws,jt,wd,tbl,r,a,b,e,_⟩:=h
  rw [e]
  rfl
 ·obtain ⟨x,tb,ws,jt,wd,tbl,r,ra,rb,e,hB,hT,ha,hb,la,lb,k1,k2⟩:=h
  subst e
  obtain ⟨dx,lw,lp,lq,lb',le,hx,_⟩:=id hB.1
  have hn:=hB.2.2.2
  refine ⟨_,pss_cons (ps_for PassesOwn.never rfl (pi_enL0 rfl N.enum (pa_cons (pe_ix ix_list (pv 2) (pv 1) (fun _ _=>rfl)) pa_nil)) (pg_tup rfl (pgs_cons (pg_name (i:=3) scStepsHeld.nd rfl (Or.inl rfl)) (pgs_cons (pg_name (i:=4) scStepsHeld.nd rfl (Or.inl rfl)) pgs_nil)))
    (pss_one (ps_if (pt_cmp (pc_notN (pv 4)))
     (pss_one (ps_for PassesOwn.never rfl (pi_list (pe_meth (pv 0) T.cl mS GS hr bS .nil pass0 (pa_cons (pv 1) (pa_cons (pv 3) pa_nil)))) (pg_tup rfl (pgs_cons (pg_name (i:=5) scStepsHeld.nd rfl (Or.inl rfl)) (pgs_cons (pg_name (i:=6) scStepsHeld.nd rfl (Or.inl rfl)) pgs_nil)))
      (pss_cons (ps_set (i:=7) scStepsHeld.nd rfl (Or.inl rfl) (pe_ix ix_list (pe_ix ix_list (pv 2) (pe_op op_add (pv 1) pe_int) (fun _ _=>rfl)) (pv 5) (fun _ _=>rfl)))
      (pss_one (ps_if (pw_or (pt_cmp (pc_isN (pv 7))) (pw_or1 (pt_cmpR op_gt (pv 7) (pe_op op_add (pv 4) (pv 6)) (nomark _)))).pt (pss_one (ps_ret pe_bl)) pss_nil))))) pss_nil)))
   (pss_one (ps_ret pe_bl)),?_⟩
  obtain ⟨as,q1,t1,t2,t3,t4⟩:=hT.get ha
  obtain ⟨as',q2,t1',t2',t3',t4'⟩:=hT.get hb
  refine ⟨_,rfl,_,rfl,tb,_,_,_,rfl,rfl,SqL.of t1,atI_nat t3,q1,rfl,⟨_,SqL.of t4⟩,?_⟩
  refine for_en (xs:=ra.map oV) (fun i σ H2=>(∃ a b c d e,σ=[some (.ref x),some (.int (r:Int)),some (.ref tb),a,b,c,d,e])∧Same H H2∧∀ j c,j < i→at0 ra j=some c→∀ s ∈ stepsL ws jt wd r j,∃ u,at0 rb s.1=some u∧u ≤ c + s.2) ⟨⟨_,_,_,_,_,rfl⟩,Same.refl H,fun j c hj=>by omega⟩ (fun i σ H2 _ ⟨_,s2,_⟩=>SqL.of (s2 _ _ t4)) ?_ ?_
  ·rintro i v p σ H2 hv hp ⟨⟨b1,b2,b3,b4,b5,rfl⟩,s2,hJ⟩
   have hi:i < ra.length:=by
    have z:=get_lt hv
    rwa [List.length_map] at z
   obtain rfl:v=oV (at0 ra i):=by
    rw [at0_at hi] at hv
    exact (Option.some.inj hv).symm
   have s3:Same H (upd H2 p (.tup [.int (0 + (i:Int)),oV (at0 ra i)])):=Same.put s2 (s2.free hp)
   refine ⟨p,_,rfl,SqT.of upd_same,rfl,_,_,rfl,_,_,rfl,rfl,?_⟩
   generalize upd H2 p (.tup [.int (0 + (i:Int)),oV (at0 ra i)])=H3 at *
   refine ⟨_,rfl,_,rfl,?_⟩
   cases hc:at0 ra i with
   | none =>
    refine iteF ⟨⟨_,_,_,_,_,rfl⟩,s3,fun j c hj hcj=>?_⟩
    by_cases e:j=i
    ·subst e
     rw [hc] at hcj
     cases hcj
    ·exact hJ j c (by omega) hcj
   | some c =>
    refine iteT ?_
    have ei:(0:Int) + (i:Int)=(i:Int):=by omega
    refine ⟨_,rfl,x,dx,_,rfl,s3 _ _ hx,f6_no _ _ _ _ _ _ (by decide +kernel) (by decide +kernel) (by decide +kernel) (by decide +kernel) (by decide +kernel) (by decide +kernel),_,rfl,_,rfl,x,ws,jt,wd,r,i,by rw [ei]; rfl,hB.same s3,by omega,fun ll H4 s4 hP=>?_⟩
    obtain ⟨bs,p1,p2,p3⟩:=hP
    have s34:=Same.trans s3 s4
    refine ⟨ll,rfl,⟨_,SqL.of p1⟩,?_⟩
    refine for_list (K:=K) (a:=ll) (xs:=bs.map V.ref) (fun j σ H5=>∃ a b d,σ=[some (.ref x),some (.int (r:Int)),some (.ref tb),some (.int (0 + (i:Int))),some (.int c),a,b,d]∧H5=H4∧∀ k s,k < j→(stepsL ws jt wd r i)[k]?=some s→∃ u,at0 rb s.1=some u∧u ≤ c + s.2) ⟨_,_,_,rfl,rfl,fun k s hk=>by omega⟩ (fun j σ H5 _ ⟨_,_,_,_,e,_⟩=>by rw [e]; exact SqL.of p1) ?_ ?_
    ·rintro j v σ H5 hv5 ⟨d1,d2,d3,rfl,rfl,hK⟩
     obtain ⟨pp,hpp,rfl⟩:=ref_get hv5
     obtain ⟨sv,hsv⟩:=get_of hpp p2
     have hlt:=steps_lt (List.mem_of_getElem? hsv)
     have a2:(rb.map oV)[sv.1]?=some (oV (at0 rb sv.1)):=at0_at (by omega)
     refine ⟨pp,_,rfl,SqT.of (p3 j pp sv hpp hsv),rfl,_,_,rfl,_,_,rfl,rfl,?_⟩
     refine ⟨_,rfl,_,rfl,_,_,rfl,rfl,tb,_,_,_,rfl,rfl,SqL.of (s34 _ _ t1'),atI_of (j:=r + 1) rfl t3',_,rfl,q2,_,_,_,rfl,rfl,SqL.of (s34 _ _ t4'),atI_nat a2,?_⟩
     refine ⟨_,rfl,_,rfl,?_⟩
     cases hu:at0 rb sv.1 with
     | none =>
      refine iteT (iteT ?_)
      refine k2 (fun z=>?_) H5 s34
      obtain ⟨u,e1,_⟩:=z i c hc sv (List.mem_of_getElem? hsv)
      rw [hu] at e1
      cases e1
     | some u =>
      refine iteF ?_
      refine ⟨_,rfl,_,rfl,_,rfl,_,_,rfl,rfl,_,_,rfl,rfl,_,rfl,?_⟩
      by_cases hle:u ≤ c + sv.2
      ·refine iteC (decide_eq_false (by omega)) ?_
       refine ⟨_,_,_,rfl,rfl,fun k s hk hs=>?_⟩
       by_cases e:k=j
       ·subst e
        rw [hsv] at hs
        cases hs
        exact ⟨u,hu,hle⟩
       ·exact hK k s (by omega) hs
      ·refine iteB (decide_eq_true (by omega)) ?_
       refine k2 (fun z=>?_) H5 s34
       obtain ⟨u',e1,e2⟩:=z i c hc sv (List.mem_of_getElem? hsv)
       rw [hu] at e1
       cases e1
       exact hle e2
    ·rintro σ H5 ⟨d1,d2,d3,rfl,rfl,hK⟩
     refine ⟨⟨_,_,_,_,_,rfl⟩,s34,fun j c' hj hcj=>?_⟩
     by_cases e:j=i
     ·subst e
      rw [hc] at hcj
      cases hcj
      intro s hs
      obtain ⟨k,hk⟩:=List.getElem?_of_mem hs
      exact hK k s (by rw [List.length_map,p2]; exact get_lt hk) hk
     ·exact hJ j c' (by omega) hcj
  ·rintro σ H2 ⟨⟨b1,b2,b3,b4,b5,rfl⟩,s2,hJ⟩
   rw [List.length_map] at hJ
   exact k1 (fun i c hc=>hJ i c (at0_lt hc) hc) H2 s2
end
end B64
namespace B64
open PySem L2
def EndsG (ws:List (List Str)) (wd:List Int) (r:Nat) (a:List (Option Int)) (t:Int) (R:Nat):Prop:=∀ i c,i < ws.flatten.length→at0 a i=some c→fitB ws wd r i ws.flatten.length=true→t < c ∨ (t=c∧R ≤ r)
def spEndsG (C:Addr):Sp:=fun vs H Q _=>∃ (x cl:Addr) (ws:List (List Str)) (jt:Int) (wd:List Int) (r R:Nat) (t:Int) (a:List (Option Int)),vs=[.ref x,.int (r:Int),.ref cl,.int t,.int (R:Int)]∧Base C H x ws jt wd∧H cl=some (.lst (a.map oV))∧a.length=ws.flatten.length + 1∧(EndsG ws wd r a t R→Q (.bl true) H)∧(¬ EndsG ws wd r a t R→Q (.bl false) H)
section
variable {P:Program} {w:World} {K:PySem.W.Frag} {mg:Str→Option Value} {base:Heap}
theorem ok_endsG {f C fF:Addr} {fd dF:FuncData} (F:Fun K "ends_held" "ends_held" sEndsHeld f fd) (N:Names mg) (T:TxtS K C) (GF:FnOk P w K mg base CX0 2 fF dF ["self","row","start","till"] (spFits C)) (bF:Binds K dF ["self","row","start","till"] []) (mF:Meth K C "fits" fF) :
  FnOk P w K mg base CX0 3 f fd ["setting","row","entries","total","end"] (spEndsG C):=by
 refine F.ok scEndsHeld (fun vs H Q E h=>?_) (fun cdv A outer s H vs Q E hr h=>?_)
 ·obtain ⟨x,cl,ws,jt,wd,r,R,t,a,e,_⟩:=h
  rw [e]
  rfl
 ·obtain ⟨x,cl,ws,jt,wd,r,R,t,ra,e,hB,hcl,la,k1,k2⟩:=h
  subst e
  obtain ⟨dx,lw,lp,lq,lb,le,hx,_⟩:=id hB.1
  have hn:=hB.2.2.2
  refine ⟨_,pss_cons (ps_for PassesOwn.never rfl (pi_range1 rfl N.range (pa_cons (pe_fld (pv 0) rfl) pa_nil)) (pg_name (i:=5) scEndsHeld.nd rfl (Or.inl rfl))
    (pss_cons (ps_set (i:=6) scEndsHeld.nd rfl (Or.inl rfl) (pe_ix ix_list (pv 2) (pv 5) (fun _ _=>rfl)))
    (pss_one (ps_if (pw_and (pt_cmp (pc_notN (pv 6))) (pw_and1 (pt_val (pe_meth (pv 0) T.cl mF GF hr bF .nil pass0 (pa_cons (pv 1) (pa_cons (pv 5) (pa_cons (pe_fld (pv 0) rfl) pa_nil))))))).pt
     (pss_one (ps_if (pw_or (pt_cmpR op_lt (pv 6) (pv 3) (nomark _)) (pw_or1 (pw_and (pt_cmpR op_eq (pv 6) (pv 3) (nomark _)) (pw_and1 (pt_cmpR op_lt (pv 1) (pv 4) (nomark _)))).pt)).pt (pss_one (ps_ret pe_bl)) pss_nil)) pss_nil))))
   (pss_one (ps_ret pe_bl)),?_⟩
  refine ⟨_,rfl,x,C,dx,_,_,rfl,hx,T.cl,T.l,f6_last _ _ _ _ _ _,(ws.flatten.length:Int),rfl,by omega,by omega,?_⟩
  rw [show ((ws.flatten.length:Nat):Int).toNat=ws.flatten.length by omega]
  refine for_range (n:=ws.flatten.length) (fun i σ H2=>(∃ a b,σ=[some (.ref x),some (.int (r:Int)),some (.ref cl),some (.int t),some (.int (R:Int)),a,b])∧H2=H∧∀ j c,j < i→at0 ra j=some c→fitB ws wd r j ws.flatten.length=true→t < c ∨ (t=c∧R ≤ r)) ⟨⟨_,_,rfl⟩,rfl,fun j c hj=>by omega⟩ ?_ ?_
  ·rintro i σ H2 hi ⟨⟨a,b,rfl⟩,rfl,hJ⟩
   have ei:(0:Int) + (i:Int)=(i:Int):=by omega
   have hat:(ra.map oV)[i]?=some (oV (at0 ra i)):=at0_at (by omega)
   have ext:(∀ c,at0 ra i=some c→fitB ws wd r i ws.flatten.length=true→t < c ∨ (t=c∧R ≤ r))→∀ j c,j < i + 1→at0 ra j=some c→fitB ws wd r j ws.flatten.length=true→t < c ∨ (t=c∧R ≤ r):=fun h j c hj=>by
    by_cases e:j=i
    ·subst e; exact h c
    ·exact hJ j c (by omega)
   refine ⟨_,rfl,_,rfl,cl,_,_,_,rfl,rfl,SqL.of hcl,atI_of (j:=i) ei hat,?_⟩
   refine ⟨_,rfl,_,rfl,?_⟩
   cases hc:at0 ra i with
   | none=>exact iteF (iteF ⟨⟨_,_,rfl⟩,rfl,ext fun c z=>by rw [hc] at z; cases z⟩)
   | some c =>
    refine iteT ?_
    refine ⟨_,rfl,x,dx,_,rfl,hx,f6_no _ _ _ _ _ _ (by decide +kernel) (by decide +kernel) (by decide +kernel) (by decide +kernel) (by decide +kernel) (by decide +kernel),_,rfl,_,rfl,_,rfl,x,C,dx,_,_,rfl,hx,T.cl,T.l,f6_last _ _ _ _ _ _,x,ws,jt,wd,r,i,ws.flatten.length,by rw [ei]; rfl,hB,hi,Nat.le_refl _,_,rfl,?_⟩
    cases hf:fitB ws wd r i ws.flatten.length with
    | false=>exact iteF ⟨⟨_,_,rfl⟩,rfl,ext fun c' _ z=>by rw [hf] at z; cases z⟩
    | true =>
     refine iteT ?_
     refine ⟨_,rfl,_,rfl,_,_,rfl,rfl,_,rfl,?_⟩
     by_cases h1:c < t
     ·refine iteB (decide_eq_true h1) (iteT (k2 (fun z=>?_)))
      have:=z i c hi hc hf
      omega
     ·refine iteC (decide_eq_false h1) ?_
      refine ⟨_,rfl,_,rfl,rfl,_,rfl,?_⟩
      by_cases ec:c=t
      ·refine iteB (decide_eq_true (by rw [ec]; rfl)) ?_
       refine ⟨_,rfl,_,rfl,_,_,rfl,rfl,_,rfl,?_⟩
       by_cases h2:r < R
       ·refine iteB (decide_eq_true (by omega)) (k2 (fun z=>?_))
        have:=z i c hi hc hf
        omega
       ·refine iteC (decide_eq_false (by omega)) ⟨⟨_,_,rfl⟩,rfl,ext fun c' z _=>?_⟩
        rw [hc] at z
        cases z
        omega
      ·refine iteC (decide_eq_false (fun z=>ec (by injection z))) ?_
       refine iteF ⟨⟨_,_,rfl⟩,rfl,ext fun c' z _=>?_⟩
       rw [hc] at z
       cases z
       omega
  ·rintro σ H2 ⟨⟨a,b,rfl⟩,rfl,hJ⟩
   exact k1 fun i c hi=>hJ i c hi
end
end B64
namespace B64
open PySem L2
theorem iteNB {c A B:Prop} [Decidable c] (hc:¬ c) (h:A):if (!decide c)=true then A else B:=by
 rw [decide_eq_false hc]
 exact iteT h
abbrev TrI:=Int × Int × Int
abbrev trIV (t:TrI):List V:=[.int t.1,.int t.2.1,.int t.2.2]
abbrev TrG (H:Hp) (l:Addr) (ts:List TrI):Prop:=TupsAt trIV H l ts
def trI (t:Tr):TrI:=((t.1:Int),(t.2.1:Int),(t.2.2:Int))
theorem trI_inj {a b:Tr} (h:trI a=trI b):a=b:=by
 unfold trI at h
 injection h with h1 h2
 injection h2 with h2 h3
 obtain ⟨a1,a2,a3⟩:=a
 obtain ⟨b1,b2,b3⟩:=b
 have e1:a1=b1:=Int.ofNat.inj h1
 have e2:a2=b2:=Int.ofNat.inj h2
 have e3:a3=b3:=Int.ofNat.inj h3
 rw [e1,e2,e3]
theorem map_trI_inj:∀ {a b:List Tr},a.map trI=b.map trI→a=b
 | [],[],_=>rfl
 | [],_ :: _,h=>by cases h
 | _ :: _,[],h=>by cases h
 | x :: xs,y :: ys,h=>by
  rw [List.map_cons,List.map_cons] at h
  injection h with h1 h2
  rw [trI_inj h1,map_trI_inj h2]
def GoodT (ws:List (List Str)) (jt:Int) (wd:List Int) (m:Nat) (ts:List TrI) (tr:List Tr):Prop:=ts=tr.map trI∧ValidR ws jt wd tr∧(∀ t ∈ tr,t.1 < m)∧(stR ws jt wd tr).2.1=ws.flatten.length
theorem good_cond {ws:List (List Str)} {jt:Int} {wd:List Int} {m i:Nat} {ts:List TrI} {tr tr':List Tr} {t:TrI} (h:GoodT ws jt wd m ts tr) (hi:ts[i]?=some t) (ht:ts.take i=tr'.map trI):∃ u:Tr,t=trI u∧CondR ws wd (stR ws jt wd tr') u∧u.1 < m:=by
 obtain ⟨e,hV,hM,_⟩:=h
 have hil:=get_lt hi
 rw [e,List.length_map] at hil
 have eu:tr[i]?=some tr[i]:=by simp
 have e2:tr.take i=tr':=map_trI_inj (by rw [List.map_take,← e]; exact ht)
 refine ⟨tr[i],?_,?_,hM _ (List.mem_of_getElem? eu)⟩
 ·rw [e,List.getElem?_map,eu] at hi
  exact (Option.some.inj hi).symm
 ·have:=hV i _ eu
  rw [e2] at this
  exact this
def spTrG (C:Addr):Sp:=fun vs H Q _=>∃ (x l:Addr) (ws:List (List Str)) (jt:Int) (wd:List Int) (m:Nat) (ts:List TrI),vs=[.ref x,.int (m:Int),.ref l]∧Base C H x ws jt wd∧TrG H l ts∧m ≤ 200∧(∀ tr,GoodT ws jt wd m ts tr→∀ H',Same H H'→Q (.bl true) H')∧((∀ tr,¬ GoodT ws jt wd m ts tr)→∀ H',Same H H'→Q (.bl false) H')
section
variable {P:Program} {w:World} {K:PySem.W.Frag} {mg:Str→Option Value} {base:Heap}
set_option maxHeartbeats 1000000 in
theorem ok_trG {f C fM fF:Addr} {fd dM dF:FuncData} (F:Fun K "triples_set" "triples_set" sTrSet f fd) (N:Names mg) (T:TxtS K C)
  (GM:FnOk P w K mg base CX0 3 fM dM ["self","row","place"] (spMay C)) (bM:Binds K dM ["self","row","place"] []) (mM:Meth K C "may_be_empty" fM)
  (GF:FnOk P w K mg base CX0 2 fF dF ["self","row","start","till"] (spFits C)) (bF:Binds K dF ["self","row","start","till"] []) (mF:Meth K C "fits" fF):FnOk P w K mg base CX0 4 f fd ["setting","many","triples"] (spTrG C):=by
 refine F.ok scTrSet (fun vs H Q E h=>?_) (fun cdv A outer s H vs Q E hr h=>?_)
 ·obtain ⟨x,l,ws,jt,wd,m,ts,e,_⟩:=h
  rw [e]
  rfl
 ·obtain ⟨x,l,ws,jt,wd,m,ts,e,hB,hT,hm,k1,k2⟩:=h
  subst e
  obtain ⟨dx,lw,lp,lq,lb,le,hx,_⟩:=id hB.1
  obtain ⟨as,g1,g2,g3⟩:=id hT
  have hn:=hB.2.2.2
  have hr2:Room 2 _:=hr.mono (by decide)
  refine ⟨_,pss_cons (ps_set (i:=3) scTrSet.nd rfl (Or.inl rfl) pe_int)
   (pss_cons (ps_set (i:=4) scTrSet.nd rfl (Or.inr rfl) pe_int)
   (pss_cons (ps_for PassesOwn.never rfl (pi_list (pv 2)) (pg_tup rfl (pgs_cons (pg_name (i:=5) scTrSet.nd rfl (Or.inl rfl)) (pgs_cons (pg_name (i:=6) scTrSet.nd rfl (Or.inl rfl)) (pgs_cons (pg_name (i:=7) scTrSet.nd rfl (Or.inl rfl)) pgs_nil))))
    (pss_cons (ps_if (pt_not (pw_and (pt_chain op_le op_lt (pv 3) (pv 5) (pv 1)) (pw_and (pt_cmpR op_eq (pv 6) (pv 4) (nomark _)) (pw_and1 (pt_chain op_lt op_le (pv 4) (pv 7) (pe_fld (pv 0) rfl))))).pt) (pss_one (ps_ret pe_bl)) pss_nil)
    (pss_cons (ps_if (pt_not (pt_val (pe_callB (call_allL rfl) (by rfl) N.all PyProof.Rows.boot_all (pa_cons (pe_comp (compSc_mk (fs:=defScope sTrSet) (N:=nTrSet) rfl rfl (by decide +kernel)) rfl (pi_range2 rfl N.range (pa_cons (pv 3) (pa_cons (pv 5) pa_nil))) (fun _ _ _ _ _=>pts_nil)
     (fun _ _ _ _ _=>pe_meth (pv 1) T.cl mM GM hr bM .nil pass0 (pa_cons (pv 0) (pa_cons (pv 5) pa_nil)))) pa_nil)))) (pss_one (ps_ret pe_bl)) pss_nil)
    (pss_cons (ps_if (pt_not (pt_val (pe_meth (pv 0) T.cl mF GF hr2 bF .nil pass0 (pa_cons (pv 5) (pa_cons (pv 6) (pa_cons (pv 7) pa_nil)))))) (pss_one (ps_ret pe_bl)) pss_nil)
    (pss_cons (ps_set (i:=3) scTrSet.nd rfl (Or.inl rfl) (pe_op op_add (pv 5) pe_int))
    (pss_one (ps_set (i:=4) scTrSet.nd rfl (Or.inr rfl) (pv 7))))))))
   (pss_one (ps_ret (pe_cmpR op_eq (pv 4) (pe_fld (pv 0) rfl) (nomark _)))))),?_⟩
  refine ⟨_,rfl,l,rfl,⟨_,SqL.of g1⟩,?_⟩
  refine for_list (K:=K) (a:=l) (xs:=as.map V.ref) (fun i σ H2=>∃ (tr:List Tr) (u v y:Option V),σ=[some (.ref x),some (.int (m:Int)),some (.ref l),some (.int ((stR ws jt wd tr).1:Int)),some (.int ((stR ws jt wd tr).2.1:Int)),u,v,y]∧Same H H2∧ts.take i=tr.map trI∧ValidR ws jt wd tr∧∀ t ∈ tr,t.1 < m)
   ⟨[],_,_,_,rfl,Same.refl H,rfl,ValidR.nil,fun t ht=>by cases ht⟩ (fun i σ H2 _ ⟨_,_,_,_,_,s2,_⟩=>SqL.of (s2 _ _ g1)) ?_ ?_
  ·rintro i v σ H2 hv ⟨tr,u1,u2,u3,rfl,s2,htk,hV,hM⟩
   obtain ⟨p,hp,rfl⟩:=ref_get hv
   obtain ⟨t,ht⟩:=get_of hp g2
   have htp:=s2 _ _ (g3 i p t hp ht)
   have bad:(∀ u:Tr,t=trI u→CondR ws wd (stR ws jt wd tr) u→u.1 < m→False)→∀ tr',¬ GoodT ws jt wd m ts tr':=fun h tr' hG=>by
    obtain ⟨u,e1,e2,e3⟩:=good_cond hG ht htk
    exact h u e1 e2 e3
   have est:∀ u,t=trI u→ts.take (i + 1)=(tr ++ [u]).map trI:=fun u e=>by rw [take_snoc ht,htk,e,List.map_append]; rfl
   have esn:=stR_snoc ws jt wd tr
   have hx2:=s2 _ _ hx
   have hB2:=hB.same s2
   have hpl:(stR ws jt wd tr).2.1=(stR ws jt wd tr).2.1:=rfl
   generalize hst:stR ws jt wd tr=st at *
   refine ⟨p,_,rfl,SqT.of htp,rfl,_,_,rfl,_,_,rfl,_,_,rfl,rfl,?_⟩
   refine ⟨_,rfl,_,rfl,_,_,rfl,rfl,_,rfl,?_⟩
   by_cases c1:(st.1:Int) ≤ t.1
   case neg=>exact iteC (decide_eq_false c1) ⟨_,rfl,iteF (iteT (k2 (bad fun u e hc _=>by subst e; exact c1 (by have:=hc.1; show (st.1:Int) ≤ (u.1:Int); omega)) H2 s2))⟩
   refine iteB (decide_eq_true c1) ?_
   refine ⟨_,rfl,_,_,rfl,rfl,_,rfl,?_⟩
   by_cases c2:t.1 < (m:Int)
   case neg=>exact iteC (decide_eq_false c2) (iteT (k2 (bad fun u e hc hm=>by subst e; exact c2 (by show (u.1:Int) < (m:Int); omega)) H2 s2))
   refine iteB (decide_eq_true c2) ?_
   refine ⟨_,rfl,_,rfl,rfl,_,rfl,?_⟩
   by_cases c3:t.2.1=(st.2.1:Int)
   case neg=>exact iteC (decide_eq_false (fun z=>c3 (by injection z))) (iteT (k2 (bad fun u e hc hm=>by subst e; exact c3 (by show (u.2.1:Int)=_; rw [hc.2.1])) H2 s2))
   refine iteB (decide_eq_true (by rw [c3])) ?_
   refine ⟨_,rfl,_,rfl,_,_,rfl,rfl,_,rfl,?_⟩
   by_cases c4:(st.2.1:Int) < t.2.2
   case neg=>exact iteC (decide_eq_false c4) ⟨_,rfl,iteT (k2 (bad fun u e hc hm=>by subst e; exact c4 (by have h1:=hc.2.1; have h2:=hc.2.2.1; show (st.2.1:Int) < (u.2.2:Int); omega)) H2 s2)⟩
   refine iteB (decide_eq_true c4) ?_
   refine ⟨_,rfl,x,C,dx,_,_,rfl,hx2,T.cl,T.l,f6_last _ _ _ _ _ _,_,_,rfl,rfl,_,rfl,?_⟩
   by_cases c5:t.2.2 ≤ (ws.flatten.length:Int)
   case neg=>exact iteNB c5 (k2 (bad fun u e hc hm=>by subst e; exact c5 (by have h2:=hc.2.2.2.1; show (u.2.2:Int) ≤ _; omega)) H2 s2)
   refine iteNS c5 ?_
   obtain ⟨t1,t2,t3⟩:=t
   dsimp only at c1 c2 c3 c4 c5
   obtain ⟨n1,e1⟩:∃ n1:Nat,t1=(n1:Int):=⟨t1.toNat,by omega⟩
   obtain ⟨n3,e3⟩:∃ n3:Nat,t3=(n3:Int):=⟨t3.toNat,by omega⟩
   subst e1 e3 c3
   have q1:st.1 ≤ n1:=by omega
   have q2:n1 < m:=by omega
   have q4:st.2.1 < n3:=by omega
   have q5:n3 ≤ ws.flatten.length:=by omega
   have eu:((n1:Int),(st.2.1:Int),(n3:Int))=trI (n1,st.2.1,n3):=rfl
   have same:∀ u:Tr,((n1:Int),(st.2.1:Int),(n3:Int))=trI u→u=(n1,st.2.1,n3):=fun u e=>(trI_inj (eu.symm.trans e)).symm
   refine ⟨_,rfl,_,rfl,_,_,rfl,⟨by omega,by omega,by omega,by omega⟩,?_⟩
   refine (show CompGo (Itr (st.1:Int) ((n1:Int) - (st.1:Int)).toNat) _ _ _ _ _ from ?_)
   rw [show ((n1:Int) - (st.1:Int)).toNat=n1 - st.1 by omega]
   refine comp_range (fun k=>V.bl (mayB ws wd (st.1 + k) st.2.1)) (small (by omega)) ?_ fun D hD=>?_
   ·intro D j l' Q' hD hj kk
    have sD:Same H2 (upd H2 D (.lst l')):=Same.put (Same.refl _) hD
    have ej:(st.1:Int) + (j:Int)=((st.1 + j:Nat):Int):=by omega
    exact ⟨_,rfl,x,dx,_,rfl,sD _ _ hx2,f6_no _ _ _ _ _ _ (by decide +kernel) (by decide +kernel) (by decide +kernel) (by decide +kernel) (by decide +kernel) (by decide +kernel),_,rfl,_,rfl,x,ws,jt,wd,st.1 + j,st.2.1,by rw [ej]; rfl,hB2.same sD,kk⟩
   have em:(List.range (n1 - st.1)).map (fun k=>V.bl (mayB ws wd (st.1 + k) st.2.1))=((List.range (n1 - st.1)).map fun k=>mayB ws wd (st.1 + k) st.2.1).map V.bl:=by rw [List.map_map]; rfl
   rw [em]
   have s3:Same H2 (upd H2 D (.lst (((List.range (n1 - st.1)).map fun k=>mayB ws wd (st.1 + k) st.2.1).map V.bl))):=Same.put (Same.refl _) hD
   have nD:(upd H2 D (.lst (((List.range (n1 - st.1)).map fun k=>mayB ws wd (st.1 + k) st.2.1).map V.bl))) D=some (.lst (((List.range (n1 - st.1)).map fun k=>mayB ws wd (st.1 + k) st.2.1).map V.bl)):=upd_same
   generalize upd H2 D (.lst (((List.range (n1 - st.1)).map fun k=>mayB ws wd (st.1 + k) st.2.1).map V.bl))=H3 at *
   have s23:=Same.trans s2 s3
   refine ⟨D,_,rfl,SqL.of nD,_,rfl,?_⟩
   cases hall:((List.range (n1 - st.1)).map fun k=>mayB ws wd (st.1 + k) st.2.1).all id with
   | false =>
    refine iteT (k2 (bad fun u e hc hm=>?_) H3 s23)
    rw [same u e] at hc
    have hc5:=hc.2.2.2.2.1
    rw [List.all_map,List.all_eq_false] at hall
    obtain ⟨k,hk,hk2⟩:=hall
    exact hk2 (hc5 (st.1 + k) (by omega) (by have:=List.mem_range.mp hk; show st.1 + k < n1; omega))
   | true =>
    refine iteF ?_
    rw [List.all_map,List.all_eq_true] at hall
    have hmay:∀ q,st.1 ≤ q→q < n1→mayB ws wd q st.2.1=true:=fun q h1 h2=>by
     have:=hall (q - st.1) (List.mem_range.mpr (by omega))
     have e:st.1 + (q - st.1)=q:=by omega
     simp only [Function.comp,id] at this
     rw [e] at this
     exact this
    refine ⟨_,rfl,x,dx,_,rfl,s23 _ _ hx,f6_no _ _ _ _ _ _ (by decide +kernel) (by decide +kernel) (by decide +kernel) (by decide +kernel) (by decide +kernel) (by decide +kernel),_,rfl,_,rfl,_,rfl,x,ws,jt,wd,n1,st.2.1,n3,rfl,hB.same s23,q4,q5,_,rfl,?_⟩
    cases hf:fitB ws wd n1 st.2.1 n3 with
    | false =>
     refine iteT (k2 (bad fun u e hc hm=>?_) H3 s23)
     rw [same u e] at hc
     have hc6:=hc.2.2.2.2.2
     rw [hf] at hc6
     cases hc6
    | true =>
     refine iteF ?_
     refine ⟨_,rfl,_,_,rfl,rfl,?_⟩
     refine ⟨_,rfl,?_⟩
     have cond:CondR ws wd (stR ws jt wd tr) (n1,st.2.1,n3):=by
      rw [hst]
      exact ⟨q1,rfl,q4,q5,hmay,hf⟩
     refine ⟨tr ++ [(n1,st.2.1,n3)],_,_,_,by rw [stR_snoc,hst]; rfl,s23,est _ eu,hV.snoc cond,fun t ht=>?_⟩
     rcases List.mem_append.mp ht with z | z
     ·exact hM t z
     ·rw [List.mem_singleton.mp z]
      exact q2
  ·rintro σ H2 ⟨tr,u1,u2,u3,rfl,s2,htk,hV,hM⟩
   rw [List.length_map,g2,List.take_length] at htk
   refine ⟨_,rfl,_,rfl,x,C,dx,_,_,rfl,s2 _ _ hx,T.cl,T.l,f6_last _ _ _ _ _ _,rfl,?_⟩
   by_cases c:(stR ws jt wd tr).2.1=ws.flatten.length
   ·have ev:(V.int ((stR ws jt wd tr).2.1:Int)=V.int (ws.flatten.length:Int)):=by rw [c]
    show Q (.bl (decide (V.int ((stR ws jt wd tr).2.1:Int)=V.int (ws.flatten.length:Int)))) H2
    rw [decide_eq_true ev]
    exact k1 tr ⟨htk,hV,hM,c⟩ H2 s2
   ·show Q (.bl (decide (V.int ((stR ws jt wd tr).2.1:Int)=V.int (ws.flatten.length:Int)))) H2
    rw [decide_eq_false (fun z=>c (by injection z with z; omega))]
    refine k2 (fun tr' hG=>?_) H2 s2
    have:=map_trI_inj (htk.symm.trans hG.1)
    subst this
    exact c hG.2.2.2
end
end B64
namespace B64
open PySem L2
def spLCostG:Sp:=fun vs H Q _=>∃ (l wl tl:Addr) (ws:List (List Str)) (jt:Int) (wd:List Int) (m:Nat) (ts:List TrI),vs=[.ref l,.int jt,.ref wl,.int (m:Int),.ref tl]∧PcsAt H l ws ws.flatten.length∧Short ws∧ws.flatten.length ≤ 1000∧H wl=some (.lst (wd.map V.int))∧WideOk wd∧m ≤ 200 ∧
 TrG H tl ts∧(∀ tr,GoodT ws jt wd m ts tr→Q (.int (stR ws jt wd tr).2.2) H)∧((∀ tr,¬ GoodT ws jt wd m ts tr)→Q .non H)
section
variable {P:Program} {w:World} {K:PySem.W.Frag} {mg:Str→Option Value} {base:Heap}
set_option maxHeartbeats 1000000 in
theorem ok_lcostG {f fS:Addr} {fd dS:FuncData} (F:Fun K "_law_cost" "_law_cost" sLCost f fd) (N:Names mg) (GS:FnOk P w K mg base CX0 1 fS dS ["_law_pieces_here","_law_first","_law_till"] spSize) (bS:Binds K dS ["_law_pieces_here","_law_first","_law_till"] []) (mS:mg "_law_size"=some (.ref fS)) (kS:PySem.W.keepIn K (.ref fS)=true) :
  FnOk P w K mg base CX0 2 f fd ["_law_pieces_here","_law_joint","_law_widths","_law_many","_law_triples"] spLCostG:=by
 refine F.ok scLCost (fun vs H Q E h=>?_) (fun cdv A outer s H vs Q E hr h=>?_)
 ·obtain ⟨l,wl,tl,ws,jt,wd,m,ts,e,_⟩:=h
  rw [e]
  rfl
 ·obtain ⟨l,wl,tl,ws,jt,wd,m,ts,e,hP,hSh,hn,hwl,ok,hm,hTr,k1,k2⟩:=h
  subst e
  obtain ⟨as,g1,g2,g3⟩:=hTr
  obtain ⟨pl,p1,p2,p3⟩:=id hP
  refine ⟨_,pss_cons (ps_set (i:=5) scLCost.nd rfl (Or.inl rfl) pe_int)
   (pss_cons (ps_set (i:=6) scLCost.nd rfl (Or.inl rfl) pe_int)
   (pss_cons (ps_set (i:=7) scLCost.nd rfl (Or.inl rfl) pe_int)
   (pss_cons (ps_for PassesOwn.never rfl (pi_list (pv 4)) (pg_tup rfl (pgs_cons (pg_name (i:=8) scLCost.nd rfl (Or.inl rfl)) (pgs_cons (pg_name (i:=9) scLCost.nd rfl (Or.inl rfl)) (pgs_cons (pg_name (i:=10) scLCost.nd rfl (Or.inl rfl)) pgs_nil))))
    (pss_cons (ps_if (pw_or (pt_not (pt_chain op_le op_lt (pv 6) (pv 8) (pv 3))) (pw_or1 (pt_cmpR op_ne (pv 9) (pv 5) (nomark _)))).pt (pss_one (ps_ret pe_non)) pss_nil)
    (pss_cons (ps_if (pt_not (pt_chain op_lt op_le (pv 9) (pv 10) (pe_callB call_len_seq (by rfl) N.len PySem.boot_len (pa_cons (pv 0) pa_nil)))) (pss_one (ps_ret pe_non)) pss_nil)
    (pss_cons (ps_for PassesOwn.never rfl (pi_range2 rfl N.range (pa_cons (pv 6) (pa_cons (pv 8) pa_nil))) (pg_name (i:=11) scLCost.nd rfl (Or.inl rfl))
     (pss_cons (ps_set (i:=12) scLCost.nd rfl (Or.inl rfl) (pe_ix ix_list (pv 2) (pe_callB (call_min2 rfl) (by rfl) N.min PyProof.Rows.boot_min (pa_cons (pv 11) (pa_cons (pe_op op_sub (pe_callB call_len_seq (by rfl) N.len PySem.boot_len (pa_cons (pv 2) pa_nil)) pe_int) pa_nil))) (fun _ _=>rfl)))
     (pss_cons (ps_if (pt_cmpR op_le (pe_call GS hr (by rfl) mS kS bS .nil pass0 (pa_cons (pv 0) (pa_cons (pv 5) (pa_cons (pe_op op_add (pv 5) pe_int) pa_nil)))) (pv 12) (nomark _)) (pss_one (ps_ret pe_non)) pss_nil)
     (pss_one (ps_set (i:=7) scLCost.nd rfl (Or.inl rfl) (pe_op op_add (pv 7) (pe_op op_mul (pv 12) (pv 12))))))))
    (pss_cons (ps_set (i:=13) scLCost.nd rfl (Or.inl rfl) (pe_op op_sub (pe_ix ix_list (pv 2) (pe_callB (call_min2 rfl) (by rfl) N.min PyProof.Rows.boot_min (pa_cons (pv 8) (pa_cons (pe_op op_sub (pe_callB call_len_seq (by rfl) N.len PySem.boot_len (pa_cons (pv 2) pa_nil)) pe_int) pa_nil))) (fun _ _=>rfl)) (pe_call GS hr (by rfl) mS kS bS .nil pass0 (pa_cons (pv 0) (pa_cons (pv 9) (pa_cons (pv 10) pa_nil))))))
    (pss_cons (ps_if (pt_cmpR op_lt (pv 13) pe_int (nomark _)) (pss_one (ps_ret pe_non)) pss_nil)
    (pss_cons (ps_if (pt_cmpR op_lt (pv 10) (pe_callB call_len_seq (by rfl) N.len PySem.boot_len (pa_cons (pv 0) pa_nil)) (nomark _))
     (pss_one (ps_set (i:=7) scLCost.nd rfl (Or.inl rfl) (pe_op op_add (pe_op op_add (pv 7) (pe_op op_mul (pv 13) (pv 13))) (pe_op op_mul (pv 1) (pe_ix ix_tup (pe_ix ix_list (pv 0) (pe_op op_sub (pv 10) pe_int) (fun _ _=>rfl)) pe_int (fun _ _=>rfl)))))) pss_nil)
    (pss_cons (ps_set (i:=5) scLCost.nd rfl (Or.inl rfl) (pv 10))
    (pss_one (ps_set (i:=6) scLCost.nd rfl (Or.inl rfl) (pe_op op_add (pv 8) pe_int)))))))))))
   (pss_cons (ps_if (pt_cmpR op_ne (pv 5) (pe_callB call_len_seq (by rfl) N.len PySem.boot_len (pa_cons (pv 0) pa_nil)) (nomark _)) (pss_one (ps_ret pe_non)) pss_nil)
   (pss_one (ps_ret (pv 7))))))),?_⟩
  refine ⟨_,rfl,tl,rfl,⟨_,SqL.of g1⟩,?_⟩
  refine for_list (K:=K) (a:=tl) (xs:=as.map V.ref) (fun i σ H2=>∃ (tr:List Tr) (u0 u1 u2 u3 u4 u5:Option V),σ=[some (.ref l),some (.int jt),some (.ref wl),some (.int (m:Int)),some (.ref tl),some (.int ((stR ws jt wd tr).2.1:Int)),some (.int ((stR ws jt wd tr).1:Int)),some (.int (stR ws jt wd tr).2.2),u0,u1,u2,u3,u4,u5]∧H2=H∧ts.take i=tr.map trI∧ValidR ws jt wd tr∧∀ t ∈ tr,t.1 < m) ⟨[],_,_,_,_,_,_,rfl,rfl,rfl,ValidR.nil,fun t ht=>by cases ht⟩ (fun i σ H2 _ ⟨_,_,_,_,_,_,_,_,e,_⟩=>by rw [e]; exact SqL.of g1) ?_ ?_
  ·rintro i v σ H2 hv ⟨tr,u0,u1,u2,u3,u4,u5,rfl,rfl,htk,hV,hM⟩
   obtain ⟨p,hp,rfl⟩:=ref_get hv
   obtain ⟨t,ht⟩:=get_of hp g2
   have htp:=g3 i p t hp ht
   have bad:(∀ u:Tr,t=trI u→CondR ws wd (stR ws jt wd tr) u→u.1 < m→False)→∀ tr',¬ GoodT ws jt wd m ts tr':=fun h tr' hG=>by
    obtain ⟨u,e1,e2,e3⟩:=good_cond hG ht htk
    exact h u e1 e2 e3
   have est:∀ u,t=trI u→ts.take (i + 1)=(tr ++ [u]).map trI:=fun u e=>by rw [take_snoc ht,htk,e,List.map_append]; rfl
   generalize hst:stR ws jt wd tr=st at *
   refine ⟨p,_,rfl,SqT.of htp,rfl,_,_,rfl,_,_,rfl,_,_,rfl,rfl,?_⟩
   refine ⟨_,rfl,_,rfl,_,_,rfl,rfl,_,rfl,?_⟩
   by_cases c1:(st.1:Int) ≤ t.1
   case neg=>exact iteC (decide_eq_false c1) ⟨_,rfl,iteT (iteT (k2 (bad fun u e hc _=>by subst e; exact c1 (by have:=hc.1; show (st.1:Int) ≤ (u.1:Int); omega))))⟩
   refine iteB (decide_eq_true c1) ?_
   refine ⟨_,rfl,_,_,rfl,rfl,_,rfl,?_⟩
   by_cases c2:t.1 < (m:Int)
   case neg=>exact iteNB c2 (iteT (k2 (bad fun u e hc hm=>by subst e; exact c2 (by show (u.1:Int) < (m:Int); omega))))
   refine iteNS c2 ?_
   refine ⟨_,rfl,_,rfl,rfl,_,rfl,?_⟩
   by_cases c3:t.2.1=(st.2.1:Int)
   case neg=>exact iteNB (fun z=>c3 (by injection z)) (k2 (bad fun u e hc hm=>by subst e; exact c3 (by show (u.2.1:Int)=_; rw [hc.2.1])))
   refine iteNS (by rw [c3]) ?_
   refine ⟨_,rfl,_,rfl,_,_,rfl,rfl,_,rfl,?_⟩
   by_cases c4:t.2.1 < t.2.2
   case neg=>exact iteC (decide_eq_false c4) ⟨_,rfl,iteT (k2 (bad fun u e hc hm=>by subst e; exact c4 (by have h2:=hc.2.2.1; show (u.2.1:Int) < (u.2.2:Int); omega)))⟩
   refine iteB (decide_eq_true c4) ?_
   refine ⟨_,rfl,l,_,rfl,.inl (SqL.of p1),_,_,rfl,rfl,_,rfl,?_⟩
   rw [List.length_map,p2]
   by_cases c5:t.2.2 ≤ (ws.flatten.length:Int)
   case neg=>exact iteNB c5 (k2 (bad fun u e hc hm=>by subst e; exact c5 (by have h2:=hc.2.2.2.1; show (u.2.2:Int) ≤ _; omega)))
   refine iteNS c5 ?_
   obtain ⟨t1,t2,t3⟩:=t
   dsimp only at c1 c2 c3 c4 c5
   obtain ⟨n1,e1⟩:∃ n1:Nat,t1=(n1:Int):=⟨t1.toNat,by omega⟩
   obtain ⟨n3,e3⟩:∃ n3:Nat,t3=(n3:Int):=⟨t3.toNat,by omega⟩
   subst e1 e3 c3
   have q1:st.1 ≤ n1:=by omega
   have q2:n1 < m:=by omega
   have q4:st.2.1 < n3:=by omega
   have q5:n3 ≤ ws.flatten.length:=by omega
   have eu:((n1:Int),(st.2.1:Int),(n3:Int))=trI (n1,st.2.1,n3):=rfl
   have same:∀ u:Tr,((n1:Int),(st.2.1:Int),(n3:Int))=trI u→u=(n1,st.2.1,n3):=fun u e=>(trI_inj (eu.symm.trans e)).symm
   refine ⟨_,rfl,_,rfl,_,_,rfl,⟨by omega,by omega,by omega,by omega⟩,?_⟩
   rw [show ((n1:Int) - (st.1:Int)).toNat=n1 - st.1 by omega]
   refine for_range (n:=n1 - st.1) (fun j σ H3=>∃ u3 u4,σ=[some (.ref l),some (.int jt),some (.ref wl),some (.int (m:Int)),some (.ref tl),some (.int (st.2.1:Int)),some (.int (st.1:Int)),some (.int (st.2.2 + sumE wd st.1 (st.1 + j))),some (.int (n1:Int)),some (.int (st.2.1:Int)),some (.int (n3:Int)),u3,u4,u5]∧H3=H2∧∀ q,st.1 ≤ q→q < st.1 + j→mayB ws wd q st.2.1=true) ⟨_,_,by rw [Nat.add_zero,sumE_self,Int.add_zero]; rfl,rfl,fun q h1 h2=>by omega⟩ ?_ ?_
   ·rintro j σ H3 hj ⟨b3,b4,rfl,rfl,hmay⟩
    obtain ⟨hl,hat,wlo,whi⟩:=ok.at (st.1 + j)
    refine ⟨_,rfl,_,rfl,_,rfl,wl,_,rfl,.inl (SqL.of hwl),_,_,rfl,rfl,_,_,rfl,wl,_,_,_,rfl,rfl,SqL.of hwl,atI_of ?_ hat,?_⟩
    ·rw [List.length_map]
     split <;> omega
    refine ⟨_,rfl,_,rfl,_,rfl,_,_,rfl,rfl,l,ws,st.2.1,st.2.1 + 1,rfl,hP,hn,by omega,by omega,_,rfl,_,_,rfl,rfl,_,rfl,?_⟩
    by_cases c6:lenOf ws st.2.1 (st.2.1 + 1) ≤ wAt wd (st.1 + j)
    ·refine iteB (decide_eq_true c6) (k2 (bad fun u e hc hm=>?_))
     rw [same u e] at hc
     have:=(may_iff (hc.2.2.2.2.1 (st.1 + j) (by omega) (by show st.1 + j < n1; omega))).2
     omega
    refine iteC (decide_eq_false c6) ?_
    refine ⟨_,rfl,_,rfl,_,rfl,_,_,rfl,rfl,.inl ⟨by omega,by omega⟩,_,_,rfl,rfl,?_⟩
    have ev:st.2.2 + sumE wd st.1 (st.1 + j) + wAt wd (st.1 + j) * wAt wd (st.1 + j)=st.2.2 + sumE wd st.1 (st.1 + (j + 1)):=by
     rw [← Nat.add_assoc,sumE_succ]
     unfold emptyC
     rw [sq_mul]
     omega
    refine ⟨_,_,by rw [← ev]; rfl,rfl,fun q h1 h2=>?_⟩
    by_cases eq:q=st.1 + j
    ·subst eq
     unfold mayB fitB
     rw [decide_eq_true (show st.2.1 < ws.flatten.length by omega),decide_eq_false c6]
     rfl
    ·exact hmay q h1 (by omega)
   ·rintro σ H3 ⟨b3,b4,rfl,rfl,hmay⟩
    obtain ⟨hl,hat,wlo,whi⟩:=ok.at n1
    have lb:=len_bd (ws:=ws) hSh q4 (by omega)
    rw [show st.1 + (n1 - st.1)=n1 by omega] at hmay ⊢
    refine ⟨_,rfl,_,rfl,_,rfl,wl,_,rfl,.inl (SqL.of hwl),_,_,rfl,rfl,_,_,rfl,wl,_,_,_,rfl,rfl,SqL.of hwl,atI_of ?_ hat,_,rfl,_,rfl,_,rfl,l,ws,st.2.1,n3,rfl,hP,hn,q4,q5,_,_,rfl,rfl,?_⟩
    ·rw [List.length_map]
     split <;> omega
    refine ⟨_,rfl,_,_,rfl,rfl,_,rfl,?_⟩
    by_cases c7:wAt wd n1 - lenOf ws st.2.1 n3 < 0
    ·refine iteB (decide_eq_true c7) (k2 (bad fun u e hc hm=>?_))
     rw [same u e] at hc
     have:=fit_iff hc.2.2.2.2.2
     have this:lenOf ws st.2.1 n3 ≤ wAt wd n1:=this
     omega
    refine iteC (decide_eq_false c7) ?_
    have hf:fitB ws wd n1 st.2.1 n3=true:=decide_eq_true (by omega)
    have cond:CondR ws wd (stR ws jt wd tr) (n1,st.2.1,n3):=by
     rw [hst]
     exact ⟨q1,rfl,q4,q5,hmay,hf⟩
    have hM':∀ t ∈ tr ++ [(n1,st.2.1,n3)],t.1 < m:=fun t ht=>by
     rcases List.mem_append.mp ht with z | z
     ·exact hM t z
     ·rw [List.mem_singleton.mp z]
      exact q2
    refine ⟨_,rfl,_,rfl,l,_,rfl,.inl (SqL.of p1),_,_,rfl,rfl,_,rfl,?_⟩
    by_cases h1:n3 < ws.flatten.length
    ·refine iteB (decide_eq_true (by rw [List.length_map,p2]; omega)) ?_
     obtain ⟨as',q,x1,x2,x3,x4⟩:=hP.get (i:=n3 - 1) (by omega)
     have jbb:=jb_bd ws (n3 - 1)
     refine ⟨_,rfl,_,rfl,_,rfl,_,_,rfl,rfl,.inl ⟨by omega,by omega⟩,_,_,rfl,rfl,_,rfl,_,rfl,_,rfl,_,_,rfl,rfl,l,_,_,_,rfl,rfl,SqL.of x1,atI_of (j:=n3 - 1) (by omega) x2,q,_,_,_,rfl,rfl,SqT.of x4,atI_nat (j:=1) rfl,_,_,rfl,rfl,.inr ⟨by omega,by omega⟩,_,_,rfl,rfl,?_⟩
     refine ⟨_,rfl,_,rfl,_,_,rfl,rfl,?_⟩
     have ev:st.2.2 + sumE wd st.1 n1 + (wAt wd n1 - lenOf ws st.2.1 n3) * (wAt wd n1 - lenOf ws st.2.1 n3) + jt * jb ws (n3 - 1)=(stepR ws jt wd st (n1,st.2.1,n3)).2.2:=by
      show _=st.2.2 + sumE wd st.1 n1 + if n3 < ws.flatten.length then costOf ws jt wd n1 st.2.1 n3 else 0
      rw [if_pos h1]
      unfold costOf
      rw [sq_mul,price_jb (by omega)]
      omega
     exact ⟨tr ++ [(n1,st.2.1,n3)],_,_,_,_,_,_,by rw [stR_snoc,hst,← ev]; rfl,rfl,est _ eu,hV.snoc cond,hM'⟩
    ·refine iteC (decide_eq_false (by rw [List.length_map,p2]; omega)) ?_
     refine ⟨_,rfl,_,rfl,_,_,rfl,rfl,?_⟩
     have ev:st.2.2 + sumE wd st.1 n1=(stepR ws jt wd st (n1,st.2.1,n3)).2.2:=by
      show _=st.2.2 + sumE wd st.1 n1 + if n3 < ws.flatten.length then costOf ws jt wd n1 st.2.1 n3 else 0
      rw [if_neg h1,Int.add_zero]
     exact ⟨tr ++ [(n1,st.2.1,n3)],_,_,_,_,_,_,by rw [stR_snoc,hst,← ev]; rfl,rfl,est _ eu,hV.snoc cond,hM'⟩
  ·rintro σ H2 ⟨tr,u0,u1,u2,u3,u4,u5,rfl,rfl,htk,hV,hM⟩
   rw [List.length_map,g2,List.take_length] at htk
   refine ⟨_,rfl,_,rfl,l,_,rfl,.inl (SqL.of p1),rfl,_,rfl,?_⟩
   rw [List.length_map,p2]
   by_cases c:(stR ws jt wd tr).2.1=ws.flatten.length
   ·refine iteNS (by rw [c]) ?_
    exact ⟨_,rfl,k1 tr ⟨htk,hV,hM,c⟩⟩
   ·refine iteNB (fun z=>c (by injection z with z; omega)) (k2 (fun tr' hG=>?_))
    have:=map_trI_inj (htk.symm.trans hG.1)
    subst this
    exact c hG.2.2.2
end
end B64
namespace B64
open PySem L2
def StepG (ws:List (List Str)) (jt:Int) (wd:List Int) (r:Nat) (a b:List (Option Int)) (v:V) (most:Int):Prop:=∀ i c,i < ws.flatten.length→at0 a i=some c→(∀ s ∈ stepsL ws jt wd r i,∃ u,at0 b s.1=some u∧u ≤ c + s.2)∧(fitB ws wd r i ws.flatten.length=true→v ≠ .non∧most ≤ c)
def spLStepG:Sp:=fun vs H Q _=>∃ (l cl al:Addr) (ws:List (List Str)) (jt:Int) (wd:List Int) (r:Nat) (v:V) (most:Int) (a b:List (Option Int)),vs=[.ref l,.int jt,.int (wAt wd r),.ref cl,.ref al,v,.int most]∧PcsAt H l ws ws.flatten.length∧Short ws∧ws.flatten.length ≤ 1000∧WideOk wd ∧
 H cl=some (.lst (a.map oV))∧H al=some (.lst (b.map oV))∧a.length=ws.flatten.length + 1∧b.length=ws.flatten.length + 1∧(v=.non ∨ ∃ R:Int,v=.int R)∧(StepG ws jt wd r a b v most→Q (.bl true) H)∧(¬ StepG ws jt wd r a b v most→Q (.bl false) H)
section
variable {P:Program} {w:World} {K:PySem.W.Frag} {mg:Str→Option Value} {base:Heap}
set_option maxHeartbeats 1000000 in
theorem ok_lstepG {f fS:Addr} {fd dS:FuncData} (F:Fun K "_law_step" "_law_step" sLStep f fd) (N:Names mg) (GS:FnOk P w K mg base CX0 1 fS dS ["_law_pieces_here","_law_first","_law_till"] spSize) (bS:Binds K dS ["_law_pieces_here","_law_first","_law_till"] []) (mS:mg "_law_size"=some (.ref fS)) (kS:PySem.W.keepIn K (.ref fS)=true) :
  FnOk P w K mg base CX0 2 f fd ["_law_pieces_here","_law_joint","_law_width","_law_costs","_law_after","_law_end","_law_most"] spLStepG:=by
 refine F.ok scLStep (fun vs H Q E h=>?_) (fun cdv A outer s H vs Q E hr h=>?_)
 ·obtain ⟨l,cl,al,ws,jt,wd,r,v,most,a,b,e,_⟩:=h
  rw [e]
  rfl
 ·obtain ⟨l,cl,al,ws,jt,wd,r,v,most,ra,rb,e,hP,hSh,hn,ok,hcl,hal,la,lb0,hv,k1,k2⟩:=h
  subst e
  obtain ⟨pl,p1,p2,p3⟩:=id hP
  obtain ⟨_,_,wlo,whi⟩:=ok.at r
  refine ⟨_,pss_cons (ps_for PassesOwn.never rfl (pi_range1 rfl N.range (pa_cons (pe_callB call_len_seq (by rfl) N.len PySem.boot_len (pa_cons (pv 0) pa_nil)) pa_nil)) (pg_name (i:=7) scLStep.nd rfl (Or.inl rfl))
    (pss_one (ps_if (pt_cmp (pc_notN (pe_ix ix_list (pv 3) (pv 7) (fun _ _=>rfl))))
     (pss_cons (ps_for PassesOwn.never rfl (pi_range2 rfl N.range (pa_cons (pe_op op_add (pv 7) pe_int) (pa_cons (pe_callB call_len_seq (by rfl) N.len PySem.boot_len (pa_cons (pv 0) pa_nil)) pa_nil))) (pg_name (i:=8) scLStep.nd rfl (Or.inl rfl))
      (pss_cons (ps_set (i:=9) scLStep.nd rfl (Or.inl rfl) (pe_op op_sub (pv 2) (pe_call GS hr (by rfl) mS kS bS .nil pass0 (pa_cons (pv 0) (pa_cons (pv 7) (pa_cons (pv 8) pa_nil))))))
      (pss_cons (ps_set (i:=10) scLStep.nd rfl (Or.inl rfl) (pe_op op_add (pe_ix ix_list (pv 3) (pv 7) (fun _ _=>rfl)) (pe_op op_mul (pv 9) (pv 9))))
      (pss_cons (ps_set (i:=10) scLStep.nd rfl (Or.inl rfl) (pe_op op_add (pv 10) (pe_op op_mul (pv 1) (pe_ix ix_tup (pe_ix ix_list (pv 0) (pe_op op_sub (pv 8) pe_int) (fun _ _=>rfl)) pe_int (fun _ _=>rfl)))))
      (pss_one (ps_if (pw_and (pt_cmpR op_ge (pv 9) pe_int (nomark _)) (pw_and1 (pw_or (pt_cmp (pc_isN (pe_ix ix_list (pv 4) (pv 8) (fun _ _=>rfl)))) (pw_or1 (pt_cmpR op_gt (pe_ix ix_list (pv 4) (pv 8) (fun _ _=>rfl)) (pv 10) (nomark _)))).pt)).pt (pss_one (ps_ret pe_bl)) pss_nil))))))
     (pss_cons (ps_if (pt_cmpR op_gt (pe_call GS hr (by rfl) mS kS bS .nil pass0 (pa_cons (pv 0) (pa_cons (pv 7) (pa_cons (pe_op op_add (pv 7) pe_int) pa_nil)))) (pv 2) (nomark _))
      (pss_one (ps_if (pw_or (pt_cmp (pc_isN (pe_ix ix_list (pv 4) (pv 7) (fun _ _=>rfl)))) (pw_or1 (pt_cmpR op_gt (pe_ix ix_list (pv 4) (pv 7) (fun _ _=>rfl)) (pe_op op_add (pe_ix ix_list (pv 3) (pv 7) (fun _ _=>rfl)) (pe_op op_mul (pv 2) (pv 2))) (nomark _)))).pt (pss_one (ps_ret pe_bl)) pss_nil)) pss_nil)
     (pss_one (ps_if (pw_and (pt_cmpR op_le (pe_call GS hr (by rfl) mS kS bS .nil pass0 (pa_cons (pv 0) (pa_cons (pv 7) (pa_cons (pe_callB call_len_seq (by rfl) N.len PySem.boot_len (pa_cons (pv 0) pa_nil)) pa_nil)))) (pv 2) (nomark _)) (pw_and1 (pw_or (pt_cmp (pc_isN (pv 5))) (pw_or1 (pt_cmpR op_lt (pe_ix ix_list (pv 3) (pv 7) (fun _ _=>rfl)) (pv 6) (nomark _)))).pt)).pt (pss_one (ps_ret pe_bl)) pss_nil)))) pss_nil)))
   (pss_one (ps_ret pe_bl)),?_⟩
  refine ⟨_,rfl,l,_,rfl,.inl (SqL.of p1),_,rfl,by rw [List.length_map,p2]; omega,by rw [List.length_map,p2]; omega,?_⟩
  rw [List.length_map,p2,show ((ws.flatten.length:Nat):Int).toNat=ws.flatten.length by omega]
  refine for_range (n:=ws.flatten.length) (fun i σ H2=>(∃ a b c d,σ=[some (.ref l),some (.int jt),some (.int (wAt wd r)),some (.ref cl),some (.ref al),some v,some (.int most),a,b,c,d])∧H2=H∧∀ j c,j < i→at0 ra j=some c→(∀ s ∈ stepsL ws jt wd r j,∃ u,at0 rb s.1=some u∧u ≤ c + s.2)∧(fitB ws wd r j ws.flatten.length=true→v ≠ .non∧most ≤ c)) ⟨⟨_,_,_,_,rfl⟩,rfl,fun j c hj=>by omega⟩ ?_ ?_
  ·rintro i σ H2 hi ⟨⟨a,b,c,d,rfl⟩,rfl,hJ⟩
   have ei:(0:Int) + (i:Int)=(i:Int):=by omega
   have hat:(ra.map oV)[i]?=some (oV (at0 ra i)):=at0_at (by omega)
   have ext:(∀ c,at0 ra i=some c→(∀ s ∈ stepsL ws jt wd r i,∃ u,at0 rb s.1=some u∧u ≤ c + s.2)∧(fitB ws wd r i ws.flatten.length=true→v ≠ .non∧most ≤ c))→∀ j c,j < i + 1→at0 ra j=some c→(∀ s ∈ stepsL ws jt wd r j,∃ u,at0 rb s.1=some u∧u ≤ c + s.2)∧(fitB ws wd r j ws.flatten.length=true→v ≠ .non∧most ≤ c):=fun h j c hj=>by
    by_cases e:j=i
    ·subst e; exact h c
    ·exact hJ j c (by omega)
   refine ⟨_,rfl,_,rfl,cl,_,_,_,rfl,rfl,SqL.of hcl,atI_of ei hat,_,rfl,?_⟩
   cases hc:at0 ra i with
   | none=>exact iteF ⟨⟨_,_,_,_,rfl⟩,rfl,ext fun c z=>by rw [hc] at z; cases z⟩
   | some c0 =>
    rw [hc] at hat
    have hat:(ra.map oV)[i]?=some (V.int c0):=hat
    refine iteT ?_
    refine ⟨_,rfl,_,_,rfl,rfl,_,rfl,l,_,rfl,.inl (SqL.of p1),_,_,rfl,⟨by omega,by omega,by rw [List.length_map,p2]; omega,by rw [List.length_map,p2]; omega⟩,?_⟩
    rw [List.length_map,p2,show (((ws.flatten.length:Nat):Int) - (0 + (i:Int) + 1)).toNat=ws.flatten.length - (i + 1) by omega]
    refine for_range (n:=ws.flatten.length - (i + 1)) (fun j σ H3=>(∃ b c d,σ=[some (.ref l),some (.int jt),some (.int (wAt wd r)),some (.ref cl),some (.ref al),some v,some (.int most),some (.int (0 + (i:Int))),b,c,d])∧H3=H2∧∀ q,i < q→q < i + 1 + j→fitB ws wd r i q=true→∃ u,at0 rb q=some u∧u ≤ c0 + costOf ws jt wd r i q) ⟨⟨_,_,_,rfl⟩,rfl,fun q h1 h2=>by omega⟩ ?_ ?_
    ·rintro j σ H3 hj ⟨⟨b,c,d,rfl⟩,rfl,hq⟩
     have ej:(0:Int) + (i:Int) + 1 + (j:Int)=((i + 1 + j:Nat):Int):=by omega
     have lb:=len_bd (ws:=ws) (i:=i) (j:=i + 1 + j) hSh (by omega) (by omega)
     obtain ⟨as',q,q1,q2,q3,q4⟩:=hP.get (i:=i + 1 + j - 1) (by omega)
     have jbb:=jb_bd ws (i + 1 + j - 1)
     have hat':(rb.map oV)[i + 1 + j]?=some (oV (at0 rb (i + 1 + j))):=at0_at (by omega)
     refine ⟨_,rfl,_,rfl,_,rfl,_,rfl,l,ws,i,i + 1 + j,by show [V.ref l,V.int (0 + (i:Int)),V.int (0 + (i:Int) + 1 + (j:Int))]=_; rw [ej,ei],hP,hn,by omega,by omega,_,_,rfl,rfl,?_⟩
     refine ⟨_,rfl,_,rfl,cl,_,_,_,rfl,rfl,SqL.of hcl,atI_of ei hat,_,rfl,_,rfl,_,_,rfl,rfl,.inl ⟨by omega,by omega⟩,_,_,rfl,rfl,?_⟩
     refine ⟨_,rfl,_,rfl,_,rfl,_,rfl,_,_,rfl,rfl,l,_,_,_,rfl,rfl,SqL.of q1,atI_of (j:=i + 1 + j - 1) (by omega) q2,q,_,_,_,rfl,rfl,SqT.of q4,atI_nat (j:=1) rfl,_,_,rfl,rfl,.inr ⟨by omega,by omega⟩,_,_,rfl,rfl,?_⟩
     refine ⟨_,rfl,_,_,rfl,rfl,_,rfl,?_⟩
     have ev:costOf ws jt wd r i (i + 1 + j)=(wAt wd r - lenOf ws i (i + 1 + j)) * (wAt wd r - lenOf ws i (i + 1 + j)) + jt * jb ws (i + 1 + j - 1):=by
      unfold costOf
      rw [sq_mul,price_jb (by omega)]
     have extq:(fitB ws wd r i (i + 1 + j)=true→∃ u,at0 rb (i + 1 + j)=some u∧u ≤ c0 + costOf ws jt wd r i (i + 1 + j))→∀ q,i < q→q < i + 1 + (j + 1)→fitB ws wd r i q=true→∃ u,at0 rb q=some u∧u ≤ c0 + costOf ws jt wd r i q:=fun h q h1 h2=>by
      by_cases e:q=i + 1 + j
      ·subst e; exact h
      ·exact hq q h1 (by omega)
     by_cases h0:0 ≤ wAt wd r - lenOf ws i (i + 1 + j)
     ·refine iteB (decide_eq_true h0) ?_
      have hfq:fitB ws wd r i (i + 1 + j)=true:=decide_eq_true (by omega)
      have hmem:(i + 1 + j,costOf ws jt wd r i (i + 1 + j)) ∈ stepsL ws jt wd r i:=steps_iff.mpr (.inl ⟨by omega,by omega,hfq,rfl⟩)
      refine ⟨_,rfl,_,rfl,al,_,_,_,rfl,rfl,SqL.of hal,atI_of ej hat',_,rfl,?_⟩
      cases hu:at0 rb (i + 1 + j) with
      | none =>
       refine iteT (iteT (k2 (fun z=>?_)))
       obtain ⟨u,e1,_⟩:=(z i c0 hi hc).1 _ hmem
       rw [hu] at e1
       cases e1
      | some u =>
       rw [hu] at hat'
       have hat':(rb.map oV)[i + 1 + j]?=some (V.int u):=hat'
       refine iteF ?_
       refine ⟨_,rfl,_,rfl,al,_,_,_,rfl,rfl,SqL.of hal,atI_of ej hat',_,rfl,_,_,rfl,rfl,_,rfl,?_⟩
       by_cases hle:u ≤ c0 + costOf ws jt wd r i (i + 1 + j)
       ·refine iteC (decide_eq_false (by omega)) ?_
        exact ⟨⟨_,_,_,rfl⟩,rfl,extq fun _=>⟨u,hu,hle⟩⟩
       ·refine iteB (decide_eq_true (by omega)) (k2 (fun z=>?_))
        obtain ⟨u',e1,e2⟩:=(z i c0 hi hc).1 _ hmem
        rw [hu] at e1
        cases e1
        exact hle e2
     ·refine iteC (decide_eq_false h0) (iteF ⟨⟨_,_,_,rfl⟩,rfl,extq fun z=>?_⟩)
      have:=fit_iff z
      omega
    ·rintro σ H3 ⟨⟨b,c,d,rfl⟩,rfl,hq⟩
     have lb:=len_bd (ws:=ws) (i:=i) (j:=i + 1) hSh (by omega) (by omega)
     refine ⟨_,rfl,_,rfl,_,rfl,_,_,rfl,rfl,l,ws,i,i + 1,by show [V.ref l,V.int (0 + (i:Int)),V.int (0 + (i:Int) + 1)]=_; rw [ei]; rfl,hP,hn,by omega,by omega,_,rfl,_,_,rfl,rfl,_,rfl,?_⟩
     have ev:emptyC wd r=wAt wd r * wAt wd r:=by
      unfold emptyC
      rw [sq_mul]
     by_cases h0:wAt wd r < lenOf ws i (i + 1)
     ·refine iteB (decide_eq_true h0) ?_
      have hmay:mayB ws wd r i=true:=by
       unfold mayB fitB
       rw [decide_eq_true hi,decide_eq_false (by omega)]
       rfl
      have hmem:(i,emptyC wd r) ∈ stepsL ws jt wd r i:=steps_iff.mpr (.inr ⟨rfl,hmay,rfl⟩)
      have hat':(rb.map oV)[i]?=some (oV (at0 rb i)):=at0_at (by omega)
      refine ⟨_,rfl,_,rfl,al,_,_,_,rfl,rfl,SqL.of hal,atI_of ei hat',_,rfl,?_⟩
      cases hu:at0 rb i with
      | none =>
       refine iteT (iteT (k2 (fun z=>?_)))
       obtain ⟨u,e1,_⟩:=(z i c0 hi hc).1 _ hmem
       rw [hu] at e1
       cases e1
      | some u =>
      rw [hu] at hat'
      have hat':(rb.map oV)[i]?=some (V.int u):=hat'
      refine iteF ?_
      refine ⟨_,rfl,_,rfl,al,_,_,_,rfl,rfl,SqL.of hal,atI_of ei hat',_,rfl,_,rfl,cl,_,_,_,rfl,rfl,SqL.of hcl,atI_of ei hat,_,rfl,_,rfl,_,_,rfl,rfl,.inl ⟨by omega,by omega⟩,_,_,rfl,rfl,_,_,rfl,rfl,_,rfl,?_⟩
      by_cases hle:u ≤ c0 + emptyC wd r
      case neg =>
       refine iteB (decide_eq_true (by omega)) (k2 (fun z=>?_))
       obtain ⟨u',e1,e2⟩:=(z i c0 hi hc).1 _ hmem
       rw [hu] at e1
       cases e1
       exact hle e2
      refine iteC (decide_eq_false (by omega)) ?_
      have hsteps:∀ s ∈ stepsL ws jt wd r i,∃ u,at0 rb s.1=some u∧u ≤ c0 + s.2:=fun s hs=>by
       rcases steps_iff.mp (show (s.1,s.2) ∈ stepsL ws jt wd r i from hs) with ⟨g1,g2,g3,g4⟩ | ⟨g1,g2,g3⟩
       ·rw [g4]; exact hq s.1 g1 (by omega) g3
       ·rw [g1,g3]; exact ⟨u,hu,hle⟩
      refine ⟨_,rfl,_,rfl,_,rfl,l,_,rfl,.inl (SqL.of p1),l,ws,i,ws.flatten.length,by rw [ei,List.length_map,p2]; rfl,hP,hn,hi,Nat.le_refl _,_,rfl,_,_,rfl,rfl,_,rfl,?_⟩
      by_cases hf:lenOf ws i ws.flatten.length ≤ wAt wd r
      ·refine iteB (decide_eq_true hf) ?_
       have hfb:fitB ws wd r i ws.flatten.length=true:=decide_eq_true hf
       rcases hv with rfl | ⟨R,rfl⟩
       ·refine ⟨_,rfl,_,rfl,iteT (iteT (k2 (fun z=>?_)))⟩
        exact ((z i c0 hi hc).2 hfb).1 rfl
       ·refine ⟨_,rfl,_,rfl,iteF ?_⟩
        refine ⟨_,rfl,_,rfl,cl,_,_,_,rfl,rfl,SqL.of hcl,atI_of ei hat,_,rfl,_,_,rfl,rfl,_,rfl,?_⟩
        by_cases hlt:c0 < most
        ·refine iteB (decide_eq_true hlt) (k2 (fun z=>?_))
         have:=((z i c0 hi hc).2 hfb).2
         omega
        ·refine iteC (decide_eq_false hlt) ?_
         exact ⟨⟨_,_,_,_,rfl⟩,rfl,ext fun c hc'=>by rw [hc] at hc'; cases hc'; exact ⟨hsteps,fun _=>⟨(fun q=>by cases q),by omega⟩⟩⟩
      ·refine iteC (decide_eq_false hf) (iteF ?_)
       exact ⟨⟨_,_,_,_,rfl⟩,rfl,ext fun c hc'=>by rw [hc] at hc'; cases hc'; exact ⟨hsteps,fun z=>absurd (fit_iff z) hf⟩⟩
     ·refine iteC (decide_eq_false h0) ?_
      have hsteps:∀ s ∈ stepsL ws jt wd r i,∃ u,at0 rb s.1=some u∧u ≤ c0 + s.2:=fun s hs=>by
       rcases steps_iff.mp (show (s.1,s.2) ∈ stepsL ws jt wd r i from hs) with ⟨g1,g2,g3,g4⟩ | ⟨g1,g2,g3⟩
       ·rw [g4]; exact hq s.1 g1 (by omega) g3
       ·have:=(may_iff g2).2
        omega
      refine ⟨_,rfl,_,rfl,_,rfl,l,_,rfl,.inl (SqL.of p1),l,ws,i,ws.flatten.length,by rw [ei,List.length_map,p2]; rfl,hP,hn,hi,Nat.le_refl _,_,rfl,_,_,rfl,rfl,_,rfl,?_⟩
      by_cases hf:lenOf ws i ws.flatten.length ≤ wAt wd r
      ·refine iteB (decide_eq_true hf) ?_
       have hfb:fitB ws wd r i ws.flatten.length=true:=decide_eq_true hf
       rcases hv with rfl | ⟨R,rfl⟩
       ·refine ⟨_,rfl,_,rfl,iteT (iteT (k2 (fun z=>?_)))⟩
        exact ((z i c0 hi hc).2 hfb).1 rfl
       ·refine ⟨_,rfl,_,rfl,iteF ?_⟩
        refine ⟨_,rfl,_,rfl,cl,_,_,_,rfl,rfl,SqL.of hcl,atI_of ei hat,_,rfl,_,_,rfl,rfl,_,rfl,?_⟩
        by_cases hlt:c0 < most
        ·refine iteB (decide_eq_true hlt) (k2 (fun z=>?_))
         have:=((z i c0 hi hc).2 hfb).2
         omega
        ·refine iteC (decide_eq_false hlt) ?_
         exact ⟨⟨_,_,_,_,rfl⟩,rfl,ext fun c hc'=>by rw [hc] at hc'; cases hc'; exact ⟨hsteps,fun _=>⟨(fun q=>by cases q),by omega⟩⟩⟩
      ·refine iteC (decide_eq_false hf) (iteF ?_)
       exact ⟨⟨_,_,_,_,rfl⟩,rfl,ext fun c hc'=>by rw [hc] at hc'; cases hc'; exact ⟨hsteps,fun z=>absurd (fit_iff z) hf⟩⟩
  ·rintro σ H2 ⟨⟨a,b,c,d,rfl⟩,rfl,hJ⟩
   exact k1 fun i c hi hc=>hJ i c hi hc
end
end B64
namespace L2
open PySem PySem.Spec PyProof.Rows
theorem comp_mapL {K:PySem.W.Frag} {a:Addr} {xs:List V} {te:TE} {σ:St} {H:Hp} {Q:VK} (f:V→V) (hq:SqL K H a xs) (hn:xs.length < sizeLine)
  (he:∀ (i:Nat) (x:V) (H':Hp) (Q':VK),xs[i]?=some x→Same H H'→(∀ H3,Same H' H3→Q' (f x) H3)→te (some x :: σ) H' Q') (hd:∀ D H',H D=none→Same H H'→H' D=some (.lst (xs.map f))→Q (.ref D) H'):CompGo (Itl K a) H σ ttAll te Q:=by
 refine comp_listG (xs:=xs) (fun D i l H'=>Same H H'∧H D=none∧H' D=some (.lst l)∧l=(xs.take i).map f) hn (fun D hD=>⟨Same.put' (Same.refl H) hD,hD,upd_same,rfl⟩) (fun D i l H' h=>h.1.seq hq) (fun D i l H' h=>by rw [h.2.2.2,List.length_map,List.length_take]; omega) ?_ fun D l H' h=>hd D H' h.2.1 h.1 (by rw [h.2.2.1,h.2.2.2,List.take_length])
 rintro D i x l H' Q' hx ⟨s1,hD,hl,rfl⟩ k
 refine he i x H' Q' hx s1 fun H3 s3=>?_
 refine k _ _ (s3 _ _ hl) ⟨Same.put' (Same.trans s1 s3) hD,hD,upd_same,?_⟩
 have hi:=(List.getElem?_eq_some_iff.mp hx)
 obtain ⟨hlt,e⟩:=hi
 rw [List.take_succ,List.getElem?_eq_getElem hlt,List.map_append,e]
 rfl
end L2
namespace B64
open PySem L2
theorem kit_no1 {K:PySem.W.Frag}:PySem.W.kitOne K (.type "NoneType") (.type "int")=some false:=by rfl
theorem kit_bi {K:PySem.W.Frag}:PySem.W.kitOne K (.type "bool") (.type "int")=some true:=by rfl
theorem kit_bb {K:PySem.W.Frag}:PySem.W.kitOne K (.type "bool") (.type "bool")=some true:=by rfl
theorem kit_si {K:PySem.W.Frag}:PySem.W.kitOne K (.type "str") (.type "int")=some false:=by rfl
theorem kit_nt {K:PySem.W.Frag}:PySem.W.kitOne K (.type "NoneType") (.type "tuple")=some false:=by rfl
theorem kit_lt {K:PySem.W.Frag}:PySem.W.kitOne K (.type "list") (.type "tuple")=some false:=by rfl
theorem kit_nl {K:PySem.W.Frag}:PySem.W.kitOne K (.type "NoneType") (.type "list")=some false:=by rfl
theorem kit_tl {K:PySem.W.Frag}:PySem.W.kitOne K (.type "tuple") (.type "list")=some false:=by rfl
def isI:V→Bool
 | .int _=>true
 | _=>false
def isE:V→Bool
 | .non=>true
 | .int z=>decide (0 ≤ z)
 | _=>false
def tupB (H:Hp):V→Bool
 | .ref p=>(match H p with | some (.tup _)=>true | _=>false)
 | _=>false
def trsB (H:Hp):V→Bool
 | .ref p=>(match H p with | some (.lst es)=>es.all (tupB H) | _=>false)
 | _=>false
def rowB (H:Hp) (n:Nat):V→Bool
 | .ref p=>(match H p with | some (.lst xs)=>decide (xs.length=n) && xs.all isE | _=>false)
 | _=>false
def tabB (H:Hp) (m n:Nat):V→Bool
 | .ref p=>(match H p with | some (.lst es)=>decide (es.length=m) && es.all (rowB H n) | _=>false)
 | _=>false
def CellOk (v:V):Prop:=v=.non ∨ (∃ z,v=.int z) ∨ (∃ b,v=.bl b) ∨ ∃ x,v=.str x
def ElemOk (H:Hp) (e:V):Prop:=(∃ (p:Addr) (t:TrI),e=.ref p∧H p=some (.tup (trIV t))) ∨ e=.non ∨ ∃ (p:Addr) (xs:List V),e=.ref p∧H p=some (.lst xs)
def RowOk (H:Hp) (e:V):Prop:=(∃ (p:Addr) (xs:List V),e=.ref p∧H p=some (.lst xs)∧xs.length ≤ 10000∧∀ x ∈ xs,CellOk x) ∨ ∃ (p:Addr) (xs:List V),e=.ref p∧H p=some (.tup xs)
def TrV (H:Hp) (v:V):Prop:=(∃ (l:Addr) (es:List V),v=.ref l∧H l=some (.lst es)∧es.length ≤ 10000∧∀ e ∈ es,ElemOk H e) ∨ (∃ (l:Addr) (es:List V),v=.ref l∧H l=some (.tup es)) ∨ v=.non
def TabV (H:Hp) (v:V):Prop:=(∃ (l:Addr) (es:List V),v=.ref l∧H l=some (.lst es)∧es.length ≤ 10000∧∀ e ∈ es,RowOk H e) ∨ (∃ (l:Addr) (es:List V),v=.ref l∧H l=some (.tup es)) ∨ v=.non
theorem ElemOk.same {H H':Hp} {e:V} (h:ElemOk H e) (s:Same H H'):ElemOk H' e∧tupB H' e=tupB H e:=by
 rcases h with ⟨p,t,rfl,hp⟩ | rfl | ⟨p,xs,rfl,hp⟩
 ·exact ⟨.inl ⟨p,t,rfl,s _ _ hp⟩,by unfold tupB; dsimp only; rw [hp,s _ _ hp]⟩
 ·exact ⟨.inr (.inl rfl),rfl⟩
 ·exact ⟨.inr (.inr ⟨p,xs,rfl,s _ _ hp⟩),by unfold tupB; dsimp only; rw [hp,s _ _ hp]⟩
theorem RowOk.same {H H':Hp} {e:V} {n:Nat} (h:RowOk H e) (s:Same H H'):RowOk H' e∧rowB H' n e=rowB H n e:=by
 rcases h with ⟨p,xs,rfl,hp,hl,hx⟩ | ⟨p,xs,rfl,hp⟩
 ·exact ⟨.inl ⟨p,xs,rfl,s _ _ hp,hl,hx⟩,by unfold rowB; dsimp only; rw [hp,s _ _ hp]⟩
 ·exact ⟨.inr ⟨p,xs,rfl,s _ _ hp⟩,by unfold rowB; dsimp only; rw [hp,s _ _ hp]⟩
def spWholeG:Sp:=fun vs H Q _=>∃ v:V,vs=[v]∧CellOk v∧Q (.bl (isI v)) H
def spEntryG:Sp:=fun vs H Q _=>∃ v:V,vs=[v]∧CellOk v∧Q (.bl (isE v)) H
def spTupOfG:Sp:=fun vs H Q _=>∃ v:V,vs=[v,.int 3]∧ElemOk H v∧Q (.bl (tupB H v)) H
def spTripleG:Sp:=fun vs H Q _=>∃ v:V,vs=[v]∧ElemOk H v∧∀ H',Same H H'→Q (.bl (tupB H v)) H'
def spTriplesG:Sp:=fun vs H Q _=>∃ v:V,vs=[v]∧TrV H v∧∀ H',Same H H'→Q (.bl (trsB H v)) H'
def spEntriesG:Sp:=fun vs H Q _=>∃ (v:V) (n:Nat),vs=[v,.int (n:Int)]∧RowOk H v∧∀ H',Same H H'→Q (.bl (rowB H n v)) H'
def spIsTableG:Sp:=fun vs H Q _=>∃ (v:V) (m n:Nat),vs=[v,.int (m:Int),.int (n:Int)]∧TabV H v∧∀ H',Same H H'→Q (.bl (tabB H m n v)) H'
section
variable {P:Program} {w:World} {K:PySem.W.Frag} {mg:Str→Option Value} {base:Heap}
theorem ok_wholeG {f:Addr} {fd:FuncData} (F:Fun K "is_whole" "is_whole" sWhole f fd) (N:Names mg):FnOk P w K mg base CX0 1 f fd ["thing"] spWholeG:=by
 refine F.ok scWhole (fun vs H Q E h=>?_) (fun cdv A outer s H vs Q E hr h=>?_)
 ·obtain ⟨i,e,_⟩:=h
  rw [e]
  rfl
 ·obtain ⟨v,e,hv,k⟩:=h
  subst e
  refine ⟨_,pss_one (ps_ret (pe_and (pe_callB call_isinst (by rfl) N.inst PyProof.Rows.boot_isinstance (pa_cons (pv 0) (pa_cons (pe_bltn (v:=.ty "int") (by rfl) N.int PyProof.Rows.boot_int rfl (by decide)) pa_nil)))
   (pe_one (pe_not (pe_callB call_isinst (by rfl) N.inst PyProof.Rows.boot_isinstance (pa_cons (pv 0) (pa_cons (pe_bltn (v:=.ty "bool") (by rfl) N.bool PyProof.Rows.boot_bool rfl (by decide)) pa_nil))))))),?_⟩
  rcases hv with rfl | ⟨z,rfl⟩ | ⟨b,rfl⟩ | ⟨x,rfl⟩
  ·exact ⟨_,rfl,_,"int",_,_,rfl,TyOf.non,kit_no1,_,rfl,iteF k⟩
  ·refine ⟨_,rfl,_,"int",_,_,rfl,TyOf.int z,kit_ints,_,rfl,iteT ?_⟩
   exact ⟨_,rfl,_,"bool",_,_,rfl,TyOf.int z,kit_intb,_,rfl,k⟩
  ·refine ⟨_,rfl,_,"int",_,_,rfl,TyOf.bl b,kit_bi,_,rfl,iteT ?_⟩
   exact ⟨_,rfl,_,"bool",_,_,rfl,TyOf.bl b,kit_bb,_,rfl,k⟩
  ·exact ⟨_,rfl,_,"int",_,_,rfl,TyOf.str x,kit_si,_,rfl,iteF k⟩
theorem ok_entryG {f fW:Addr} {fd dW:FuncData} (F:Fun K "is_entry" "is_entry" sEntry f fd)
  (GW:FnOk P w K mg base CX0 1 fW dW ["thing"] spWholeG) (bW:Binds K dW ["thing"] []) (mW:mg "is_whole"=some (.ref fW)) (kW:PySem.W.keepIn K (.ref fW)=true):FnOk P w K mg base CX0 2 f fd ["thing"] spEntryG:=by
 refine F.ok scEntry (fun vs H Q E h=>?_) (fun cdv A outer s H vs Q E hr h=>?_)
 ·obtain ⟨o,e,_⟩:=h
  rw [e]
  rfl
 ·obtain ⟨v,e,hv,k⟩:=h
  subst e
  refine ⟨_,pss_one (ps_ret (pe_or (pe_cmp (pc_isN (pv 0))) (pe_one (pe_and (pe_call GW hr rfl mW kW bW .nil pass0 (pa_cons (pv 0) pa_nil)) (pe_one (pe_cmpR op_ge (pv 0) pe_int (nomark _))))))),?_⟩
  rcases id hv with rfl | ⟨z,rfl⟩ | ⟨b,rfl⟩ | ⟨x,rfl⟩
  ·exact ⟨_,rfl,_,rfl,iteT k⟩
  ·refine ⟨_,rfl,_,rfl,iteF ?_⟩
   refine ⟨_,rfl,_,rfl,hv,_,rfl,iteT ?_⟩
   exact ⟨_,rfl,_,_,rfl,rfl,k⟩
  ·refine ⟨_,rfl,_,rfl,iteF ?_⟩
   exact ⟨_,rfl,_,rfl,hv,_,rfl,iteF k⟩
  ·refine ⟨_,rfl,_,rfl,iteF ?_⟩
   exact ⟨_,rfl,_,rfl,hv,_,rfl,iteF k⟩
theorem ok_tupOfG {f:Addr} {fd:FuncData} (F:Fun K "is_tuple_of" "is_tuple_of" sTupOf f fd) (N:Names mg):FnOk P w K mg base CX0 1 f fd ["thing","many"] spTupOfG:=by
 refine F.ok scTupOf (fun vs H Q E h=>?_) (fun cdv A outer s H vs Q E hr h=>?_)
 ·obtain ⟨p,e,_⟩:=h
  rw [e]
  rfl
 ·obtain ⟨v,e,hv,k⟩:=h
  subst e
  refine ⟨_,pss_one (ps_ret (pe_and (pe_callB call_isinst (by rfl) N.inst PyProof.Rows.boot_isinstance (pa_cons (pv 0) (pa_cons (pe_bltn (v:=.ty "tuple") (by rfl) N.tuple PyProof.Rows.boot_tuple rfl (by decide)) pa_nil)))
   (pe_one (pe_cmpR op_eq (pe_callB call_len_seq (by rfl) N.len PySem.boot_len (pa_cons (pv 0) pa_nil)) (pv 1) (nomark _))))),?_⟩
  rcases hv with ⟨p,t,rfl,hp⟩ | rfl | ⟨p,xs,rfl,hp⟩
  ·refine ⟨_,rfl,_,"tuple",_,_,rfl,TyOf.tup hp,kit_tup,_,rfl,iteT ?_⟩
   refine ⟨_,rfl,p,_,rfl,.inr (SqT.of hp),_,rfl,rfl,?_⟩
   rw [decide_eq_true (show V.int (((trIV t).length:Nat):Int)=V.int 3 from rfl)]
   have e:tupB H (.ref p)=true:=by unfold tupB; dsimp only; rw [hp]
   rw [e] at k
   exact k
  ·exact ⟨_,rfl,_,"tuple",_,_,rfl,TyOf.non,kit_nt,_,rfl,iteF k⟩
  ·refine ⟨_,rfl,_,"tuple",_,_,rfl,TyOf.lst hp,kit_lt,_,rfl,iteF ?_⟩
   have e:tupB H (.ref p)=false:=by unfold tupB; dsimp only; rw [hp]
   rw [e] at k
   exact k
theorem ok_tripleG {f fT fW:Addr} {fd dT dW:FuncData} (F:Fun K "is_triple" "is_triple" sTriple f fd) (N:Names mg)
  (GT:FnOk P w K mg base CX0 1 fT dT ["thing","many"] spTupOfG) (bT:Binds K dT ["thing","many"] []) (mT:mg "is_tuple_of"=some (.ref fT)) (kT:PySem.W.keepIn K (.ref fT)=true)
  (GW:FnOk P w K mg base CX0 1 fW dW ["thing"] spWholeG) (bW:Binds K dW ["thing"] []) (mW:mg "is_whole"=some (.ref fW)) (kW:PySem.W.keepIn K (.ref fW)=true):FnOk P w K mg base CX0 2 f fd ["thing"] spTripleG:=by
 refine F.ok scTriple (fun vs H Q E h=>?_) (fun cdv A outer s H vs Q E hr h=>?_)
 ·obtain ⟨p,e,_⟩:=h
  rw [e]
  rfl
 ·obtain ⟨v,e,hv,k⟩:=h
  subst e
  refine ⟨_,pss_one (ps_ret (pe_and (pe_call GT hr rfl mT kT bT .nil pass0 (pa_cons (pv 0) (pa_cons pe_int pa_nil)))
   (pe_one (pe_callB (call_allL rfl) (by rfl) N.all PyProof.Rows.boot_all (pa_cons (pe_comp (compSc_mk (fs:=defScope sTriple) (N:=["thing"]) rfl rfl (by decide +kernel)) rfl (pi_tup (pv 0)) (fun _ _ _ _ _=>pts_nil)
    (fun _ _ _ _ _=>pe_call GW hr (by rfl) mW kW bW .nil pass0 (pa_cons (pv 0) pa_nil))) pa_nil))))),?_⟩
  refine ⟨_,rfl,v,rfl,hv,_,rfl,?_⟩
  cases eb:tupB H v with
  | false =>
   rw [eb] at k
   exact iteF (k H (Same.refl H))
  | true =>
   rw [eb] at k
   rcases hv with ⟨p,t,rfl,hp⟩ | rfl | ⟨p,xs,rfl,hp⟩
   ·refine iteT ?_
    refine ⟨_,rfl,p,rfl,⟨_,SqT.of hp⟩,comp_allT hp (small (Nat.le_of_ble_eq_true rfl)) ?_ fun D H' hD s1 hl=>?_⟩
    ·intro i x H' Q' hx s1 kk
     obtain ⟨z,rfl⟩:∃ z,x=V.int z:=by
      match i,hx with
      | 0,hx=>exact ⟨_,(Option.some.inj hx).symm⟩
      | 1,hx=>exact ⟨_,(Option.some.inj hx).symm⟩
      | 2,hx=>exact ⟨_,(Option.some.inj hx).symm⟩
      | i + 3,hx=>simp at hx
     exact ⟨_,rfl,_,rfl,.inr (.inl ⟨z,rfl⟩),kk H' (Same.refl _)⟩
    ·refine ⟨D,List.replicate 3 true,rfl,SqL.of hl,?_⟩
     rw [trues_all]
     exact k H' s1
   ·cases eb
   ·unfold tupB at eb
    dsimp only at eb
    rw [hp] at eb
    cases eb
theorem ok_triplesG {f fT:Addr} {fd dT:FuncData} (F:Fun K "are_triples" "are_triples" sTriples f fd) (N:Names mg)
  (GT:FnOk P w K mg base CX0 2 fT dT ["thing"] spTripleG) (bT:Binds K dT ["thing"] []) (mT:mg "is_triple"=some (.ref fT)) (kT:PySem.W.keepIn K (.ref fT)=true):FnOk P w K mg base CX0 3 f fd ["thing"] spTriplesG:=by
 refine F.ok scTriples (fun vs H Q E h=>?_) (fun cdv A outer s H vs Q E hr h=>?_)
 ·obtain ⟨l,e,_⟩:=h
  rw [e]
  rfl
 ·obtain ⟨v,e,hv,k⟩:=h
  subst e
  refine ⟨_,pss_one (ps_ret (pe_and (pe_callB call_isinst (by rfl) N.inst PyProof.Rows.boot_isinstance (pa_cons (pv 0) (pa_cons (pe_bltn (v:=.ty "list") (by rfl) N.list PyProof.Rows.boot_list rfl (by decide)) pa_nil)))
   (pe_one (pe_callB (call_allL rfl) (by rfl) N.all PyProof.Rows.boot_all (pa_cons (pe_comp (compSc_mk (fs:=defScope sTriples) (N:=["thing"]) rfl rfl (by decide +kernel)) rfl (pi_list (pv 0)) (fun _ _ _ _ _=>pts_nil)
    (fun _ _ _ _ _=>pe_call GT hr (by rfl) mT kT bT .nil pass0 (pa_cons (pv 0) pa_nil))) pa_nil))))),?_⟩
  rcases hv with ⟨l,es,rfl,h1,hl,he⟩ | ⟨l,es,rfl,h1⟩ | rfl
  ·refine ⟨_,rfl,_,"list",_,_,rfl,TyOf.lst h1,kit_list,_,rfl,iteT ?_⟩
   refine ⟨_,rfl,l,rfl,⟨_,SqL.of h1⟩,comp_mapL (fun x=>V.bl (tupB H x)) (SqL.of h1) (small (by omega)) ?_ fun D H' hD s1 hl=>?_⟩
   ·intro i x H' Q' hx s1 kk
    obtain ⟨q1,q2⟩:=(he x (List.mem_of_getElem? hx)).same s1
    refine ⟨_,rfl,x,rfl,q1,fun H3 s3=>?_⟩
    rw [q2]
    exact kk H3 s3
   ·refine ⟨D,es.map (tupB H),rfl,SqL.of (by rw [hl,List.map_map]; rfl),?_⟩
    have e:trsB H (.ref l)=es.all (tupB H):=by unfold trsB; dsimp only; rw [h1]
    have z:=k H' s1
    rw [e] at z
    rw [List.all_map]
    exact z
  ·refine ⟨_,rfl,_,"list",_,_,rfl,TyOf.tup h1,kit_tl,_,rfl,iteF ?_⟩
   have e:trsB H (.ref l)=false:=by unfold trsB; dsimp only; rw [h1]
   rw [e] at k
   exact k H (Same.refl H)
  ·exact ⟨_,rfl,_,"list",_,_,rfl,TyOf.non,kit_nl,_,rfl,iteF (k H (Same.refl H))⟩
def lstB (H:Hp) (n:Nat):V→Bool
 | .ref p=>(match H p with | some (.lst xs)=>decide (xs.length=n) | _=>false)
 | _=>false
def LstV (H:Hp) (v:V):Prop:=(∃ (l:Addr) (es:List V),v=.ref l∧H l=some (.lst es)) ∨ (∃ (l:Addr) (es:List V),v=.ref l∧H l=some (.tup es)) ∨ v=.non
def spLstOfG:Sp:=fun vs H Q _=>∃ (v:V) (n:Nat),vs=[v,.int (n:Int)]∧LstV H v∧Q (.bl (lstB H n v)) H
theorem ok_lstOfG {f:Addr} {fd:FuncData} (F:Fun K "is_list_of" "is_list_of" sLstOf f fd) (N:Names mg):FnOk P w K mg base CX0 1 f fd ["thing","many"] spLstOfG:=by
 refine F.ok scLstOf (fun vs H Q E h=>?_) (fun cdv A outer s H vs Q E hr h=>?_)
 ·obtain ⟨v,n,e,_⟩:=h
  rw [e]
  rfl
 ·obtain ⟨v,n,e,hv,k⟩:=h
  subst e
  refine ⟨_,pss_one (ps_ret (pe_and (pe_callB call_isinst (by rfl) N.inst PyProof.Rows.boot_isinstance (pa_cons (pv 0) (pa_cons (pe_bltn (v:=.ty "list") (by rfl) N.list PyProof.Rows.boot_list rfl (by decide)) pa_nil)))
   (pe_one (pe_cmpR op_eq (pe_callB call_len_seq (by rfl) N.len PySem.boot_len (pa_cons (pv 0) pa_nil)) (pv 1) (nomark _))))),?_⟩
  rcases hv with ⟨l,es,rfl,h1⟩ | ⟨l,es,rfl,h1⟩ | rfl
  ·have e:lstB H n (.ref l)=decide (es.length=n):=by unfold lstB; dsimp only; rw [h1]
   rw [e] at k
   refine ⟨_,rfl,_,"list",_,_,rfl,TyOf.lst h1,kit_list,_,rfl,iteT ?_⟩
   refine ⟨_,rfl,l,_,rfl,.inl (SqL.of h1),_,rfl,rfl,?_⟩
   rw [show decide (V.int (es.length:Int)=V.int (n:Int))=decide (es.length=n) from decide_eq_decide.mpr ⟨fun z=>by injection z with z; omega,fun z=>by rw [z]⟩]
   exact k
  ·have e:lstB H n (.ref l)=false:=by unfold lstB; dsimp only; rw [h1]
   rw [e] at k
   exact ⟨_,rfl,_,"list",_,_,rfl,TyOf.tup h1,kit_tl,_,rfl,iteF k⟩
  ·exact ⟨_,rfl,_,"list",_,_,rfl,TyOf.non,kit_nl,_,rfl,iteF k⟩
theorem ok_entriesG {f fL fE:Addr} {fd dL dE:FuncData} (F:Fun K "are_entries" "are_entries" sEntries f fd) (N:Names mg)
  (GL:FnOk P w K mg base CX0 1 fL dL ["thing","many"] spLstOfG) (bL:Binds K dL ["thing","many"] []) (mL:mg "is_list_of"=some (.ref fL)) (kL:PySem.W.keepIn K (.ref fL)=true)
  (GE:FnOk P w K mg base CX0 2 fE dE ["thing"] spEntryG) (bE:Binds K dE ["thing"] []) (mE:mg "is_entry"=some (.ref fE)) (kE:PySem.W.keepIn K (.ref fE)=true):FnOk P w K mg base CX0 3 f fd ["thing","many"] spEntriesG:=by
 refine F.ok scEntries (fun vs H Q E h=>?_) (fun cdv A outer s H vs Q E hr h=>?_)
 ·obtain ⟨p,n,e,_⟩:=h
  rw [e]
  rfl
 ·obtain ⟨v,n,e,hv,k⟩:=h
  subst e
  have hrL:=hr.mono (j:=1) (by decide)
  refine ⟨_,pss_one (ps_ret (pe_and (pe_call GL hrL (by rfl) mL kL bL .nil pass0 (pa_cons (pv 0) (pa_cons (pv 1) pa_nil)))
   (pe_one (pe_callB (call_allL rfl) (by rfl) N.all PyProof.Rows.boot_all (pa_cons (pe_comp (compSc_mk (fs:=defScope sEntries) (N:=["thing","many"]) rfl rfl (by decide +kernel)) rfl (pi_list (pv 0)) (fun _ _ _ _ _=>pts_nil)
    (fun _ _ _ _ _=>pe_call GE hr (by rfl) mE kE bE .nil pass0 (pa_cons (pv 0) pa_nil))) pa_nil))))),?_⟩
  rcases hv with ⟨l,es,rfl,h1,hl,he⟩ | ⟨l,es,rfl,h1⟩
  ·have e:rowB H n (.ref l)=(decide (es.length=n) && es.all isE):=by unfold rowB; dsimp only; rw [h1]
   rw [e] at k
   have el:lstB H n (.ref l)=decide (es.length=n):=by unfold lstB; dsimp only; rw [h1]
   refine ⟨_,rfl,_,rfl,_,n,rfl,.inl ⟨l,es,rfl,h1⟩,_,rfl,?_⟩
   rw [el]
   by_cases c:es.length=n
   ·rw [decide_eq_true c,Bool.true_and] at k
    refine iteB (decide_eq_true c) ?_
    refine ⟨_,rfl,l,rfl,⟨_,SqL.of h1⟩,comp_mapL (fun x=>V.bl (isE x)) (SqL.of h1) (small (by omega)) ?_ fun D H' hD s1 hl=>?_⟩
    ·intro i x H' Q' hx s1 kk
     exact ⟨_,rfl,x,rfl,he x (List.mem_of_getElem? hx),kk H' (Same.refl _)⟩
    ·refine ⟨D,es.map isE,rfl,SqL.of (by rw [hl,List.map_map]; rfl),?_⟩
     have z:=k H' s1
     rw [List.all_map]
     exact z
   ·rw [decide_eq_false c,Bool.false_and] at k
    exact iteC (decide_eq_false c) (k H (Same.refl H))
  ·have el:lstB H n (.ref l)=false:=by unfold lstB; dsimp only; rw [h1]
   refine ⟨_,rfl,_,rfl,_,n,rfl,.inr (.inl ⟨l,es,rfl,h1⟩),_,rfl,iteC el ?_⟩
   have e:rowB H n (.ref l)=false:=by unfold rowB; dsimp only; rw [h1]
   rw [e] at k
   exact k H (Same.refl H)
theorem ok_isTableG {f fL fE:Addr} {fd dL dE:FuncData} (F:Fun K "is_table" "is_table" sIsTable f fd) (N:Names mg)
  (GL:FnOk P w K mg base CX0 1 fL dL ["thing","many"] spLstOfG) (bL:Binds K dL ["thing","many"] []) (mL:mg "is_list_of"=some (.ref fL)) (kL:PySem.W.keepIn K (.ref fL)=true)
  (GE:FnOk P w K mg base CX0 3 fE dE ["thing","many"] spEntriesG) (bE:Binds K dE ["thing","many"] []) (mE:mg "are_entries"=some (.ref fE)) (kE:PySem.W.keepIn K (.ref fE)=true):FnOk P w K mg base CX0 4 f fd ["thing","many","wide"] spIsTableG:=by
 refine F.ok scIsTable (fun vs H Q E h=>?_) (fun cdv A outer s H vs Q E hr h=>?_)
 ·obtain ⟨l,m,n,e,_⟩:=h
  rw [e]
  rfl
 ·obtain ⟨v,m,n,e,hv,k⟩:=h
  subst e
  have hrL:=hr.mono (j:=1) (by decide)
  refine ⟨_,pss_one (ps_ret (pe_and (pe_call GL hrL (by rfl) mL kL bL .nil pass0 (pa_cons (pv 0) (pa_cons (pv 1) pa_nil)))
   (pe_one (pe_callB (call_allL rfl) (by rfl) N.all PyProof.Rows.boot_all (pa_cons (pe_comp (compSc_mk (fs:=defScope sIsTable) (N:=["thing","many","wide"]) rfl rfl (by decide +kernel)) rfl (pi_list (pv 0)) (fun _ _ _ _ _=>pts_nil)
    (fun _ _ _ _ _=>pe_call GE hr (by rfl) mE kE bE .nil pass0 (pa_cons (pv 0) (pa_cons (pv 3) pa_nil)))) pa_nil))))),?_⟩
  rcases hv with ⟨l,es,rfl,h1,hl,he⟩ | ⟨l,es,rfl,h1⟩ | rfl
  ·have e:tabB H m n (.ref l)=(decide (es.length=m) && es.all (rowB H n)):=by unfold tabB; dsimp only; rw [h1]
   rw [e] at k
   have el:lstB H m (.ref l)=decide (es.length=m):=by unfold lstB; dsimp only; rw [h1]
   refine ⟨_,rfl,_,rfl,_,m,rfl,.inl ⟨l,es,rfl,h1⟩,_,rfl,?_⟩
   rw [el]
   by_cases c:es.length=m
   ·rw [decide_eq_true c,Bool.true_and] at k
    refine iteB (decide_eq_true c) ?_
    refine ⟨_,rfl,l,rfl,⟨_,SqL.of h1⟩,comp_mapL (fun x=>V.bl (rowB H n x)) (SqL.of h1) (small (by omega)) ?_ fun D H' hD s1 hl=>?_⟩
    ·intro i x H' Q' hx s1 kk
     obtain ⟨q1,q2⟩:=(he x (List.mem_of_getElem? hx)).same (n:=n) s1
     refine ⟨_,rfl,_,rfl,x,n,rfl,q1,fun H3 s3=>?_⟩
     rw [q2]
     exact kk H3 s3
    ·refine ⟨D,es.map (rowB H n),rfl,SqL.of (by rw [hl,List.map_map]; rfl),?_⟩
     have z:=k H' s1
     rw [List.all_map]
     exact z
   ·rw [decide_eq_false c,Bool.false_and] at k
    exact iteC (decide_eq_false c) (k H (Same.refl H))
  ·have el:lstB H m (.ref l)=false:=by unfold lstB; dsimp only; rw [h1]
   refine ⟨_,rfl,_,rfl,_,m,rfl,.inr (.inl ⟨l,es,rfl,h1⟩),_,rfl,iteC el ?_⟩
   have e:tabB H m n (.ref l)=false:=by unfold tabB; dsimp only; rw [h1]
   rw [e] at k
   exact k H (Same.refl H)
  ·exact ⟨_,rfl,_,rfl,_,m,rfl,.inr (.inr rfl),_,rfl,iteF (k H (Same.refl H))⟩
end
end B64
namespace B64
open PySem L2
theorem tups_uniq {H:Hp} {l:Addr} {a b:List TrI} (h:TrG H l a) (g:TrG H l b):a=b:=by
 obtain ⟨as,h1,h2,h3⟩:=h
 obtain ⟨bs,g1,g2,g3⟩:=g
 have e:as=bs:=by
  have z:as.map V.ref=bs.map V.ref:=by
   rw [h1] at g1
   injection g1 with g1
   injection g1
  exact (List.map_inj_right (fun _ _ e=>by injection e)).mp z
 subst e
 refine List.ext_getElem? fun i=>?_
 by_cases hi:i < as.length
 ·have e1:as[i]?=some as[i]:=by simp
  have e2:a[i]?=some a[i]:=by simp [show i < a.length by omega]
  have e3:b[i]?=some b[i]:=by simp [show i < b.length by omega]
  have q1:=h3 i _ _ e1 e2
  have q2:=g3 i _ _ e1 e3
  rw [q1] at q2
  injection q2 with q2
  injection q2 with q2
  injection q2 with x1 q2
  injection q2 with x2 q2
  injection q2 with x3 _
  injection x1 with x1
  injection x2 with x2
  injection x3 with x3
  rw [e2,e3]
  exact congrArg some (Prod.ext x1 (Prod.ext x2 x3))
 ·rw [List.getElem?_eq_none (by omega),List.getElem?_eq_none (by omega)]
theorem oV_inj {a b:List (Option Int)} (h:a.map oV=b.map oV):a=b:=(List.map_inj_right (fun x y e=>by
 cases x with
 | none=>cases y with
  | none=>rfl
  | some _=>cases e
 | some _=>cases y with
  | none=>cases e
  | some _=>injection e with e; rw [e])).mp h
theorem tab_uniq {H:Hp} {l:Addr} {a b:Tbl} (h:TabG H l a) (g:TabG H l b):a=b:=by
 obtain ⟨as,h1,h2,h3⟩:=h
 obtain ⟨bs,g1,g2,g3⟩:=g
 have e:as=bs:=by
  have z:as.map V.ref=bs.map V.ref:=by
   rw [h1] at g1
   injection g1 with g1
   injection g1
  exact (List.map_inj_right (fun _ _ e=>by injection e)).mp z
 subst e
 refine List.ext_getElem? fun i=>?_
 by_cases hi:i < as.length
 ·have e1:as[i]?=some as[i]:=by simp
  have e2:a[i]?=some a[i]:=by simp [show i < a.length by omega]
  have e3:b[i]?=some b[i]:=by simp [show i < b.length by omega]
  have q1:=h3 i _ _ e1 e2
  have q2:=g3 i _ _ e1 e3
  rw [q1] at q2
  injection q2 with q2
  injection q2 with q2
  rw [e2,e3,oV_inj q2]
 ·rw [List.getElem?_eq_none (by omega),List.getElem?_eq_none (by omega)]
theorem pick_all {α β:Type} {R:α→β→Prop}:∀ (l:List α),(∀ x ∈ l,∃ y,R x y)→∃ m:List β,m.length=l.length∧∀ (i:Nat) (x:α) (y:β),l[i]?=some x→m[i]?=some y→R x y
 | [],_=>⟨[],rfl,fun i x y e=>by simp at e⟩
 | x :: l,h=>by
  obtain ⟨y,hy⟩:=h x List.mem_cons_self
  obtain ⟨m,hm,hr⟩:=pick_all l fun z hz=>h z (List.mem_cons_of_mem _ hz)
  refine ⟨y :: m,by rw [List.length_cons,List.length_cons,hm],fun i a b e1 e2=>?_⟩
  cases i with
  | zero =>
   have z1:x=a:=Option.some.inj e1
   have z2:y=b:=Option.some.inj e2
   rw [← z1,← z2]
   exact hy
  | succ i=>exact hr i a b e1 e2
theorem refs_of {es:List V} (h:∀ e ∈ es,∃ p:Addr,e=.ref p):∃ as:List Addr,es=as.map V.ref:=by
 obtain ⟨as,h1,h2⟩:=pick_all (R:=fun e (p:Addr)=>e=.ref p) es h
 refine ⟨as,List.ext_getElem? fun i=>?_⟩
 rw [List.getElem?_map]
 by_cases hi:i < es.length
 ·have e1:es[i]?=some es[i]:=by simp
  have e2:as[i]?=some as[i]:=by simp [show i < as.length by omega]
  rw [e1,e2,h2 i _ _ e1 e2]
  rfl
 ·rw [List.getElem?_eq_none (by omega),List.getElem?_eq_none (by omega)]
  rfl
theorem trs_true {H:Hp} {v:V} (h:TrV H v) (e:trsB H v=true):∃ l ts,v=.ref l∧TrG H l ts∧ts.length ≤ 10000:=by
 rcases h with ⟨l,es,rfl,h1,hl,he⟩ | ⟨l,es,rfl,h1⟩ | rfl
 ·have e2:es.all (tupB H)=true:=by
   unfold trsB at e
   dsimp only at e
   rw [h1] at e
   exact e
  rw [List.all_eq_true] at e2
  have ht:∀ x ∈ es,∃ (p:Addr) (t:TrI),x=.ref p∧H p=some (.tup (trIV t)):=fun x hx=>by
   rcases he x hx with z | rfl | ⟨p,xs,rfl,hp⟩
   ·exact z
   ·have:=e2 _ hx
    cases this
   ·have:=e2 _ hx
    unfold tupB at this
    dsimp only at this
    rw [hp] at this
    cases this
  obtain ⟨as,ea⟩:=refs_of fun x hx=>by
   obtain ⟨p,_,z,_⟩:=ht x hx
   exact ⟨p,z⟩
  subst ea
  obtain ⟨ts,t1,t2⟩:=pick_all (R:=fun (p:Addr) (t:TrI)=>H p=some (.tup (trIV t))) as fun p hp=>by
   obtain ⟨q,t,z,hq⟩:=ht (.ref p) (List.mem_map.mpr ⟨p,hp,rfl⟩)
   injection z with z
   exact ⟨t,by rw [z]; exact hq⟩
  rw [List.length_map] at hl
  exact ⟨l,ts,rfl,⟨as,h1,t1.symm,fun i p t e1 e2=>t2 i p t e1 e2⟩,by omega⟩
 ·unfold trsB at e
  dsimp only at e
  rw [h1] at e
  cases e
 ·cases e
theorem trs_false {H:Hp} {v:V} (e:trsB H v=false):∀ l ts,v=.ref l→¬ TrG H l ts:=fun l ts hv hG=>by
 subst hv
 obtain ⟨as,h1,h2,h3⟩:=hG
 unfold trsB at e
 dsimp only at e
 rw [h1] at e
 dsimp only at e
 rw [List.all_map,List.all_eq_false] at e
 obtain ⟨p,hp,hb⟩:=e
 obtain ⟨i,hi⟩:=List.getElem?_of_mem hp
 obtain ⟨t,ht⟩:=get_of hi h2
 refine hb ?_
 show tupB H (.ref p)=true
 unfold tupB
 dsimp only
 rw [h3 i p t hi ht]
def RowsR (n:Nat) (tbl:Tbl):Prop:=∀ row ∈ tbl,row.length=n∧∀ z,some z ∈ row→0 ≤ z
theorem row_true {H:Hp} {n:Nat} {x:V} (h:RowOk H x) (e:rowB H n x=true):∃ (p:Addr) (row:List (Option Int)),x=.ref p∧H p=some (.lst (row.map oV))∧row.length=n∧∀ z,some z ∈ row→0 ≤ z:=by
 rcases h with ⟨p,xs,rfl,hp,hl,hx⟩ | ⟨p,xs,rfl,hp⟩
 ·unfold rowB at e
  dsimp only at e
  rw [hp] at e
  dsimp only at e
  rw [Bool.and_eq_true,decide_eq_true_iff,List.all_eq_true] at e
  obtain ⟨row,r1,r2⟩:=pick_all (R:=fun (x:V) (o:Option Int)=>x=oV o∧∀ z,o=some z→0 ≤ z) xs fun x hxx=>by
   have q:=e.2 x hxx
   rcases hx x hxx with rfl | ⟨z,rfl⟩ | ⟨b,rfl⟩ | ⟨s,rfl⟩
   ·exact ⟨none,rfl,fun z e=>by cases e⟩
   ·exact ⟨some z,rfl,fun z' e=>by cases e; exact decide_eq_true_iff.mp q⟩
   ·cases q
   ·cases q
  have ex:xs=row.map oV:=List.ext_getElem? fun i=>by
   rw [List.getElem?_map]
   by_cases hi:i < xs.length
   ·have e1:xs[i]?=some xs[i]:=by simp
    have e2:row[i]?=some row[i]:=by simp [show i < row.length by omega]
    rw [e1,e2,(r2 i _ _ e1 e2).1]
    rfl
   ·rw [List.getElem?_eq_none (by omega),List.getElem?_eq_none (by omega)]
    rfl
  refine ⟨p,row,rfl,by rw [← ex]; exact hp,by omega,fun z hz=>?_⟩
  obtain ⟨i,hi⟩:=List.getElem?_of_mem hz
  have hl:=get_lt hi
  have e1:xs[i]?=some xs[i]:=by simp [show i < xs.length by omega]
  exact (r2 i _ _ e1 hi).2 z rfl
 ·unfold rowB at e
  dsimp only at e
  rw [hp] at e
  cases e
theorem row_is {H:Hp} {n:Nat} {p:Addr} {row:List (Option Int)} (hp:H p=some (.lst (row.map oV))) (h1:row.length=n) (h2:∀ z,some z ∈ row→0 ≤ z):rowB H n (.ref p)=true:=by
 unfold rowB
 dsimp only
 rw [hp]
 dsimp only
 rw [List.length_map,decide_eq_true h1,Bool.true_and,List.all_map,List.all_eq_true]
 intro o ho
 cases o with
 | none=>rfl
 | some z=>exact decide_eq_true (h2 z ho)
theorem tab_true {H:Hp} {m n:Nat} {v:V} (h:TabV H v) (e:tabB H m n v=true):∃ l tbl,v=.ref l∧TabG H l tbl∧tbl.length=m∧RowsR n tbl:=by
 rcases h with ⟨l,es,rfl,h1,hl,he⟩ | ⟨l,es,rfl,h1⟩ | rfl
 ·unfold tabB at e
  dsimp only at e
  rw [h1] at e
  dsimp only at e
  rw [Bool.and_eq_true,decide_eq_true_iff,List.all_eq_true] at e
  have ht:∀ x ∈ es,∃ (p:Addr) (row:List (Option Int)),x=.ref p∧H p=some (.lst (row.map oV))∧row.length=n∧∀ z,some z ∈ row→0 ≤ z:=fun x hx=>row_true (he x hx) (e.2 x hx)
  obtain ⟨as,ea⟩:=refs_of fun x hx=>by
   obtain ⟨p,_,z,_⟩:=ht x hx
   exact ⟨p,z⟩
  subst ea
  obtain ⟨tbl,t1,t2⟩:=pick_all (R:=fun (p:Addr) (row:List (Option Int))=>H p=some (.lst (row.map oV))∧row.length=n∧∀ z,some z ∈ row→0 ≤ z) as fun p hp=>by
   obtain ⟨q,t,z,hq⟩:=ht (.ref p) (List.mem_map.mpr ⟨p,hp,rfl⟩)
   injection z with z
   exact ⟨t,by rw [z]; exact hq⟩
  have el:=e.1
  rw [List.length_map] at el
  refine ⟨l,tbl,rfl,⟨as,h1,t1.symm,fun i p t e1 e2=>(t2 i p t e1 e2).1⟩,by omega,fun row hrow=>?_⟩
  obtain ⟨i,hi⟩:=List.getElem?_of_mem hrow
  have hl:=get_lt hi
  have e1:as[i]?=some as[i]:=by simp [show i < as.length by omega]
  exact (t2 i _ _ e1 hi).2
 ·unfold tabB at e
  dsimp only at e
  rw [h1] at e
  cases e
 ·cases e
theorem tab_false {H:Hp} {m n:Nat} {v:V} (e:tabB H m n v=false):∀ l tbl,v=.ref l→TabG H l tbl→tbl.length=m→¬ RowsR n tbl:=fun l tbl hv hG hm hR=>by
 subst hv
 obtain ⟨as,h1,h2,h3⟩:=hG
 unfold tabB at e
 dsimp only at e
 rw [h1] at e
 dsimp only at e
 rw [List.length_map,decide_eq_true (show as.length=m by omega),Bool.true_and,List.all_map,List.all_eq_false] at e
 obtain ⟨p,hp,hb⟩:=e
 obtain ⟨i,hi⟩:=List.getElem?_of_mem hp
 obtain ⟨t,ht⟩:=get_of hi h2
 have q:=hR t (List.mem_of_getElem? ht)
 exact hb (row_is (h3 i p t hi ht) q.1 q.2)
structure GoodS (ws:List (List Str)) (jt:Int) (wd:List Int) (m:Nat) (H:Hp) (v u:V) (tr:List Tr) (tbl:Tbl) (R:Nat):Prop where
 t:∃ l,v=.ref l∧TrG H l (tr.map trI)
 u:∃ tb,u=.ref tb∧TabG H tb tbl
 v:ValidR ws jt wd tr
 rows:∀ t ∈ tr,t.1 < m
 pl:(stR ws jt wd tr).2.1=ws.flatten.length
 len:tbl.length=m + 1
 rl:RowsR (ws.flatten.length + 1) tbl
 z:gt tbl 0 0=some 0
 en:EndR tr R
 st:∀ r a b,r < m→tbl[r]?=some a→tbl[r + 1]?=some b→StepsG ws jt wd r a b∧EndsG ws wd r a (sumTo (rowC ws jt wd tr) R) R
def spShownG:Sp:=fun vs H Q _=>∃ (a wl:Addr) (v u:V) (ws:List (List Str)) (jt:Int) (wd:List Int) (m:Nat),vs=[.ref a,.int jt,.ref wl,.int (m:Int),v,u]∧WordsAt H a ws∧Short ws∧ws.flatten.length ≤ 1000∧H wl=some (.lst (wd.map V.int))∧WideOk wd∧m ≤ 200∧TrV H v∧TabV H u ∧
 (∀ tr tbl R,GoodS ws jt wd m H v u tr tbl R→∀ H',Same H H'→Q (.bl true) H')∧((∀ tr tbl R,¬ GoodS ws jt wd m H v u tr tbl R)→∀ H',Same H H'→Q (.bl false) H')
end B64
namespace B64
open PySem L2
theorem TrV.same {H H':Hp} {v:V} (h:TrV H v) (s:Same H H'):TrV H' v∧trsB H' v=trsB H v:=by
 rcases h with ⟨l,es,rfl,h1,hl,he⟩ | ⟨l,es,rfl,h1⟩ | rfl
 ·refine ⟨.inl ⟨l,es,rfl,s _ _ h1,hl,fun e he2=>((he e he2).same s).1⟩,?_⟩
  unfold trsB
  dsimp only
  rw [h1,s _ _ h1]
  dsimp only
  rw [Bool.eq_iff_iff,List.all_eq_true,List.all_eq_true]
  exact ⟨fun h e he2=>by rw [← ((he e he2).same s).2]; exact h e he2,fun h e he2=>by rw [((he e he2).same s).2]; exact h e he2⟩
 ·refine ⟨.inr (.inl ⟨l,es,rfl,s _ _ h1⟩),?_⟩
  unfold trsB
  dsimp only
  rw [h1,s _ _ h1]
 ·exact ⟨.inr (.inr rfl),rfl⟩
theorem TabV.same {H H':Hp} {v:V} {m n:Nat} (h:TabV H v) (s:Same H H'):TabV H' v∧tabB H' m n v=tabB H m n v:=by
 rcases h with ⟨l,es,rfl,h1,hl,he⟩ | ⟨l,es,rfl,h1⟩ | rfl
 ·refine ⟨.inl ⟨l,es,rfl,s _ _ h1,hl,fun e he2=>((he e he2).same (n:=n) s).1⟩,?_⟩
  unfold tabB
  dsimp only
  rw [h1,s _ _ h1]
  dsimp only
  have e2:es.all (rowB H' n)=es.all (rowB H n):=by
   rw [Bool.eq_iff_iff,List.all_eq_true,List.all_eq_true]
   exact ⟨fun h e he2=>by rw [← ((he e he2).same s).2]; exact h e he2,fun h e he2=>by rw [((he e he2).same s).2]; exact h e he2⟩
  rw [e2]
 ·refine ⟨.inr (.inl ⟨l,es,rfl,s _ _ h1⟩),?_⟩
  unfold tabB
  dsimp only
  rw [h1,s _ _ h1]
 ·exact ⟨.inr (.inr rfl),rfl⟩
theorem trAt_of {H:Hp} {l:Addr} {tr:List Tr} (h:TrG H l (tr.map trI)):TrAt H l tr:=by
 obtain ⟨as,h1,h2,h3⟩:=h
 rw [List.length_map] at h2
 exact ⟨as,h1,h2,fun k p t e1 e2=>h3 k p (trI t) e1 (by rw [List.getElem?_map,e2]; rfl)⟩
theorem endR_ex (tr:List Tr):∃ R,EndR tr R:=by
 cases e:tr.length with
 | zero=>exact ⟨0,.inl ⟨List.length_eq_zero_iff.mp e,rfl⟩⟩
 | succ n =>
  obtain ⟨as0,p,ea,_⟩:=last_split e
  exact ⟨p.1,.inr ⟨as0,p.2.1,p.2.2,ea⟩⟩
theorem endR_uniq {tr:List Tr} {R R':Nat} (h:EndR tr R) (g:EndR tr R'):R=R':=by
 rcases h with ⟨e,e0⟩ | ⟨ts0,p,q,e⟩
 ·rcases g with ⟨_,e1⟩ | ⟨ts0,p,q,e2⟩
  ·rw [e0,e1]
  ·rw [e] at e2
   have:=congrArg List.length e2
   simp at this
 ·rcases g with ⟨e2,_⟩ | ⟨ts0',p',q',e2⟩
  ·rw [e] at e2
   have:=congrArg List.length e2
   simp at this
  ·rw [e] at e2
   have:=(List.append_inj' e2 rfl).2
   injection this with this _
   injection this
section
variable {P:Program} {w:World} {K:PySem.W.Frag} {mg:Str→Option Value} {base:Heap}
set_option maxHeartbeats 2000000 in
theorem ok_shownG {f C fI fR fB fS fT fH fE:Addr} {fd dI dR dB dS dT dH dE:FuncData} (F:Fun K "rows_shown" "rows_shown" sShown f fd) (N:Names mg) (T:TxtS K C) (mgC:mg "Setting"=some (.ref C)) (M:Mk K C fI) (GI:FnOk P w K mg base CX0 2 fI dI ["self","words","joint","widths"] (spInit K C)) (bI:Binds K dI ["self","words","joint","widths"] [])
  (GR:FnOk P w K mg base CX0 3 fR dR ["thing"] spTriplesG) (bR:Binds K dR ["thing"] []) (mR:mg "are_triples"=some (.ref fR)) (kR:PySem.W.keepIn K (.ref fR)=true)
  (GB:FnOk P w K mg base CX0 4 fB dB ["thing","many","wide"] spIsTableG) (bB:Binds K dB ["thing","many","wide"] []) (mB:mg "is_table"=some (.ref fB)) (kB:PySem.W.keepIn K (.ref fB)=true)
  (GS:FnOk P w K mg base CX0 4 fS dS ["setting","many","triples"] (spTrG C)) (bS:Binds K dS ["setting","many","triples"] []) (mS:mg "triples_set"=some (.ref fS)) (kS:PySem.W.keepIn K (.ref fS)=true)
  (GT:FnOk P w K mg base CX0 3 fT dT ["setting","triples","end"] (spTotal C)) (bT:Binds K dT ["setting","triples","end"] []) (mT:mg "total_cost"=some (.ref fT)) (kT:PySem.W.keepIn K (.ref fT)=true)
  (GH:FnOk P w K mg base CX0 5 fH dH ["setting","row","table"] (spStepsG C)) (bH:Binds K dH ["setting","row","table"] []) (mH:mg "steps_held"=some (.ref fH)) (kH:PySem.W.keepIn K (.ref fH)=true)
  (GE:FnOk P w K mg base CX0 3 fE dE ["setting","row","entries","total","end"] (spEndsG C)) (bE:Binds K dE ["setting","row","entries","total","end"] []) (mE:mg "ends_held"=some (.ref fE)) (kE:PySem.W.keepIn K (.ref fE)=true) :
  FnOk P w K mg base CX0 6 f fd ["WORDS","JOINT","widths","many","triples","table"] spShownG:=by
 refine F.ok scShown (fun vs H Q E h=>?_) (fun cdv A outer s H vs Q E hr h=>?_)
 ·obtain ⟨a,wl,v,u,ws,jt,wd,m,e,_⟩:=h
  rw [e]
  rfl
 ·obtain ⟨a,wl,v,u,ws,jt,wd,m,e,hW,hS,hn,hwl,ok,hm,hTv,hUv,k1,k2⟩:=h
  subst e
  have hr3:Room 3 _:=hr.mono (by decide)
  have hr4:Room 4 _:=hr.mono (by decide)
  have hu:=hu_of hr
  refine ⟨_,pss_cons (ps_set (i:=6) scShown.nd rfl (Or.inl rfl) (pe_make M GI hr3 rfl mgC bI .nil pass0 (pa_cons (pv 0) (pa_cons (pv 1) (pa_cons (pv 2) pa_nil)))))
   (pss_cons (ps_if (pt_not (pw_and (pt_val (pe_call GR hr3 (by rfl) mR kR bR .nil pass0 (pa_cons (pv 4) pa_nil))) (pw_and1 (pt_val (pe_call GB hr4 (by rfl) mB kB bB .nil pass0 (pa_cons (pv 5) (pa_cons (pe_op op_add (pv 3) pe_int) (pa_cons (pe_op op_add (pe_fld (pv 6) rfl) pe_int) pa_nil))))))).pt) (pss_one (ps_ret pe_bl)) pss_nil)
   (pss_cons (ps_if (pt_not (pw_and (pt_val (pe_call GS hr4 (by rfl) mS kS bS .nil pass0 (pa_cons (pv 6) (pa_cons (pv 3) (pa_cons (pv 4) pa_nil))))) (pw_and1 (pt_cmpR op_eq (pe_ix ix_list (pe_ix ix_list (pv 5) pe_int (fun _ _=>rfl)) pe_int (fun _ _=>rfl)) pe_int (nomark _)))).pt) (pss_one (ps_ret pe_bl)) pss_nil)
   (pss_cons (ps_set (i:=7) scShown.nd rfl (Or.inl rfl) (pe_ifExp (pt_cmpR (op_neN (Nat.lt_of_succ_lt hu)) (pv 4) (pe_lst pa_nil) (nomark _)) (pe_ix ix_tup (pe_ix ix_list (pv 4) (pe_un un_neg pe_int) (fun _ _=>rfl)) pe_int (fun _ _=>rfl)) pe_int))
   (pss_cons (ps_set (i:=8) scShown.nd rfl (Or.inl rfl) (pe_call GT hr3 rfl mT kT bT .nil pass0 (pa_cons (pv 6) (pa_cons (pv 4) (pa_cons (pv 7) pa_nil)))))
   (pss_cons (ps_for PassesOwn.never rfl (pi_range1 rfl N.range (pa_cons (pv 3) pa_nil)) (pg_name (i:=9) scShown.nd rfl (Or.inl rfl))
    (pss_one (ps_if (pt_not (pw_and (pt_val (pe_call GH hr (by rfl) mH kH bH .nil pass0 (pa_cons (pv 6) (pa_cons (pv 9) (pa_cons (pv 5) pa_nil))))) (pw_and1 (pt_val (pe_call GE hr3 (by rfl) mE kE bE .nil pass0 (pa_cons (pv 6) (pa_cons (pv 9) (pa_cons (pe_ix ix_list (pv 5) (pv 9) (fun _ _=>rfl)) (pa_cons (pv 8) (pa_cons (pv 7) pa_nil))))))))).pt) (pss_one (ps_ret pe_bl)) pss_nil)))
   (pss_one (ps_ret pe_bl))))))),?_⟩
  refine ⟨_,rfl,_,rfl,_,rfl,?_⟩
  intro x dx nx ndx nex
  have s0:Same H (upd (upd H dx (.own x)) x (.ins C dx [])):=fun b o e=>by
   rw [upd_ne (ne_of_none e nx),upd_ne (ne_of_none e ndx)]
   exact e
  refine ⟨x,dx,a,wl,ws,jt,wd,rfl,upd_same,hW.same s0,hS,hn,s0 _ _ hwl,fun H1 kp hSt=>⟨rfl,?_⟩⟩
  have s1:Same H H1:=fun b o e=>kp b o (s0 b o e) (ne_of_none e nx)
  have hB:Base C H1 x ws jt wd:=⟨hSt,ok,hS,hn⟩
  obtain ⟨dx1,lw,lp,lq,lb,le,hx,_⟩:=id hB.1
  obtain ⟨hTv1,etr⟩:=hTv.same s1
  refine ⟨_,rfl,v,rfl,hTv1,fun H2 s2=>⟨_,rfl,?_⟩⟩
  rw [etr]
  have s12:=Same.trans s1 s2
  cases eb:trsB H v with
  | false=>exact iteF (iteT (k2 (fun tr tbl R g=>by obtain ⟨l,e1,e2⟩:=g.t; exact trs_false eb l _ e1 e2) H2 s12))
  | true =>
  refine iteT ?_
  obtain ⟨l,ts,rfl,hG,htl⟩:=trs_true hTv eb
  obtain ⟨hUv2,eut⟩:=hUv.same (m:=m + 1) (n:=ws.flatten.length + 1) s12
  refine ⟨_,rfl,_,rfl,_,_,rfl,rfl,_,rfl,x,C,dx1,_,_,rfl,s2 _ _ hx,T.cl,T.l,f6_last _ _ _ _ _ _,_,_,rfl,rfl,u,m + 1,ws.flatten.length + 1,rfl,hUv2,fun H3 s3=>⟨_,rfl,?_⟩⟩
  rw [eut]
  have s13:=Same.trans s12 s3
  have s23:=Same.trans s2 s3
  cases ec:tabB H (m + 1) (ws.flatten.length + 1) u with
  | false=>exact iteT (k2 (fun tr tbl R g=>by obtain ⟨tb,e1,e2⟩:=g.u; exact tab_false ec tb _ e1 e2 g.len g.rl) H3 s13)
  | true =>
  refine iteF ?_
  obtain ⟨tb,tbl,rfl,hU,hlen,hRows⟩:=tab_true hUv ec
  have utab:∀ {tr' tbl' R'},GoodS ws jt wd m H (.ref l) (.ref tb) tr' tbl' R'→tbl'=tbl∧ts=tr'.map trI:=fun g=>by
   obtain ⟨l',e1,e2⟩:=g.t
   obtain ⟨tb',e3,e4⟩:=g.u
   injection e1 with e1
   injection e3 with e3
   subst e1 e3
   exact ⟨tab_uniq e4 hU,tups_uniq hG e2⟩
  refine ⟨_,rfl,_,rfl,_,rfl,x,l,ws,jt,wd,m,ts,rfl,hB.same s23,hG.same s13,hm,fun tr hgt H4 s4=>⟨_,rfl,iteT ?_⟩,fun hno H4 s4=>⟨_,rfl,iteF (iteT (k2 (fun tr' tbl' R' g=>?_) H4 (Same.trans s13 s4)))⟩⟩
  case refine_2=>exact hno tr' ⟨(utab g).2,g.v,g.rows,g.pl⟩
  obtain ⟨ets,hV,hM,hpl⟩:=hgt
  subst ets
  have utr:∀ {tr' tbl' R'},GoodS ws jt wd m H (.ref l) (.ref tb) tr' tbl' R'→tbl'=tbl∧tr'=tr:=fun g=>⟨(utab g).1,(map_trI_inj (utab g).2).symm⟩
  have s14:=Same.trans s13 s4
  have s24:=Same.trans s23 s4
  have ga:∀ r,r ≤ m→∃ row,tbl[r]?=some row∧row.length=ws.flatten.length + 1:=fun r hr=>by
   have e1:tbl[r]?=some tbl[r]:=by simp [show r < tbl.length by omega]
   exact ⟨_,e1,(hRows _ (List.mem_of_getElem? e1)).1⟩
  obtain ⟨row0,er0,l0⟩:=ga 0 (Nat.zero_le _)
  obtain ⟨as',q1,t1,t2,t3,t4⟩:=(hU.same s14).get er0
  have hat:(row0.map oV)[0]?=some (oV (at0 row0 0)):=at0_at (by omega)
  have eg:gt tbl 0 0=at0 row0 0:=by unfold gt; rw [er0]; rfl
  refine ⟨_,rfl,tb,_,_,_,rfl,rfl,SqL.of t1,atI_nat (j:=0) t3,q1,_,_,_,rfl,rfl,SqL.of t4,atI_nat (j:=0) hat,(by cases at0 row0 0 <;> rfl),_,rfl,?_⟩
  by_cases hz:at0 row0 0=some 0
  case neg =>
   refine iteNB (fun z=>hz ?_) (k2 (fun tr' tbl' R' g=>?_) H4 s14)
   ·cases e:at0 row0 0 with
    | none=>rw [e] at z; cases z
    | some y =>
     rw [e] at z
     injection z with z
     rw [z]
   ·obtain ⟨e1,_⟩:=utr g
    have:=g.z
    rw [e1,eg] at this
    exact hz this
  refine iteNS (by rw [hz]; rfl) ?_
  obtain ⟨R,hE⟩:=endR_ex tr
  have hR:R ≤ 200:=by
   rcases hE with ⟨_,e⟩ | ⟨ts0,p,q,e⟩
   ·omega
   ·have:=hM (R,p,q) (by rw [e]; simp)
    have this:R < m:=this
    omega
  obtain ⟨as,g1,g2,g3⟩:=trAt_of (hG.same s14)
  refine ⟨_,rfl,smallE (by simp),fun b hb=>?_⟩
  have s5:Same H4 (upd H4 b (.lst [])):=Same.put (Same.refl H4) hb
  have n5:(upd H4 b (.lst [])) b=some (.lst []):=upd_same
  generalize upd H4 b (.lst [])=H5 at *
  have s15:=Same.trans s14 s5
  have s25:=Same.trans s24 s5
  refine ⟨l,b,_,rfl,rfl,SqL.of (s5 _ _ g1),SqL.of n5,_,rfl,?_⟩
  refine ifExp_both (.int (R:Int)) ?_ (fun hc Q' kq=>?_) (fun hc Q' kq=>?_)
  rotate_left
  ·rcases hE with ⟨e,_⟩ | ⟨ts0,p0,q0,e⟩
   ·subst e
    have:as=[]:=List.length_eq_zero_iff.mp g2
    subst this
    cases hc
   ·obtain ⟨as0,pl,ea,hl0⟩:=last_split (n:=ts0.length) (by rw [g2,e,List.length_append,List.length_singleton])
    have hp:=g3 ts0.length pl (R,p0,q0) (by rw [ea,← hl0]; simp) (by rw [e]; simp)
    refine ⟨_,rfl,_,rfl,l,_,_,_,rfl,rfl,SqL.of (s5 _ _ g1),?_,pl,_,_,_,rfl,rfl,SqT.of (s5 _ _ hp),atI_nat (j:=0) rfl,kq⟩
    rw [ea,List.map_append]
    exact atI_last (as0.map V.ref) (V.ref pl)
  ·rcases hE with ⟨e,e0⟩ | ⟨ts0,p0,q0,e⟩
   ·subst e0
    exact kq
   ·have hne:as ≠ []:=fun z=>by
     rw [z,e,List.length_append] at g2
     simp at g2
    cases as with
    | nil=>exact absurd rfl hne
    | cons a0 as0=>cases hc
  have hB5:=hB.same s25
  have htr5:TrAt H5 l tr:=trAt_of (hG.same s15)
  refine ⟨_,rfl,_,rfl,_,rfl,x,l,ws,jt,wd,R,tr,rfl,hB5,htr5,fun t ht=>?_,hR,by rw [List.length_map] at htl; exact htl,fun H6 s6=>?_⟩
  ·obtain ⟨i,hi⟩:=List.getElem?_of_mem ht
   obtain ⟨_,_,c3,c4,_⟩:=hV i t hi
   exact ⟨c3,c4⟩
  have hB6:=hB5.same s6
  have s16:=Same.trans s15 s6
  have hU6:=hU.same s16
  refine ⟨_,rfl,(m:Int),rfl,by omega,by omega,?_⟩
  rw [show ((m:Nat):Int).toNat=m by omega]
  refine for_range (n:=m) (fun i σ H7=>(∃ b,σ=[some (.ref a),some (.int jt),some (.ref wl),some (.int (m:Int)),some (.ref l),some (.ref tb),some (.ref x),some (.int (R:Int)),some (.int (sumTo (rowC ws jt wd tr) R)),b])∧Same H6 H7∧∀ r a b,r < i→tbl[r]?=some a→tbl[r + 1]?=some b→StepsG ws jt wd r a b∧EndsG ws wd r a (sumTo (rowC ws jt wd tr) R) R) ⟨⟨_,rfl⟩,Same.refl _,fun r a b hr=>by omega⟩ ?_ ?_
  ·rintro i σ H7 hi ⟨⟨b,rfl⟩,s7,hJ⟩
   have ei:(0:Int) + (i:Int)=(i:Int):=by omega
   obtain ⟨ra,era,la⟩:=ga i (by omega)
   obtain ⟨rb,erb,lb⟩:=ga (i + 1) (by omega)
   have bad:∀ H',Same H7 H'→(¬ (StepsG ws jt wd i ra rb∧EndsG ws wd i ra (sumTo (rowC ws jt wd tr) R) R))→Q (.bl false) H':=fun H' s' hno=>k2 (fun tr' tbl' R' g=>by
    obtain ⟨e1,e2⟩:=utr g
    subst e1 e2
    have e3:=endR_uniq g.en hE
    subst e3
    exact hno (g.st i ra rb hi era erb)) H' (Same.trans s16 (Same.trans s7 s'))
   refine ⟨_,rfl,_,rfl,_,rfl,x,tb,ws,jt,wd,tbl,i,ra,rb,by rw [ei]; rfl,hB6.same s7,hU6.same s7,era,erb,la,lb,fun hst H8 s8=>⟨_,rfl,iteT ?_⟩,fun hst H8 s8=>⟨_,rfl,iteF (iteT (bad H8 s8 fun z=>hst z.1))⟩⟩
   have s78:=Same.trans s7 s8
   obtain ⟨as',q1,t1,t2,t3,t4⟩:=(hU6.same s78).get era
   refine ⟨_,rfl,_,rfl,_,rfl,_,rfl,tb,_,_,_,rfl,rfl,SqL.of t1,atI_of (j:=i) ei t3,_,rfl,_,rfl,x,q1,ws,jt,wd,i,R,_,ra,by rw [ei]; rfl,hB6.same s78,t4,la,fun hen=>⟨_,rfl,iteF ⟨⟨_,rfl⟩,s78,fun r a b hr ea eb=>?_⟩⟩,fun hen=>⟨_,rfl,iteT (bad H8 s8 fun z=>hen z.2)⟩⟩
   by_cases e:r=i
   ·subst e
    rw [era] at ea
    rw [erb] at eb
    cases ea
    cases eb
    exact ⟨hst,hen⟩
   ·exact hJ r a b (by omega) ea eb
  ·rintro σ H7 ⟨⟨b,rfl⟩,s7,hJ⟩
   exact k1 tr tbl R ⟨⟨l,rfl,hG⟩,⟨tb,rfl,hU⟩,hV,hM,hpl,hlen,hRows,by rw [eg]; exact hz,hE,hJ⟩ H7 (Same.trans s16 s7)
end
end B64
namespace B64
open PySem L2
theorem sumTo_gap {f:Nat→Int} {wd:List Int} {a:Nat}:∀ d,(∀ q,a ≤ q→q < a + d→f q=emptyC wd q)→sumTo f (a + d)=sumTo f a + sumE wd a (a + d)
 | 0,_=>by rw [Nat.add_zero,sumE_self,Int.add_zero]
 | d + 1,h=>by
  have ih:=sumTo_gap d fun q h1 h2=>h q h1 (by omega)
  show sumTo f (a + d) + f (a + d)=_
  rw [ih,← Nat.add_assoc,sumE_succ,h (a + d) (by omega) (by omega)]
  omega
theorem pre_sum {ws:List (List Str)} {jt:Int} {wd:List Int} {tr:List Tr} (hV:ValidR ws jt wd tr):∀ k,k ≤ tr.length→(∀ i t,i < k→tr[i]?=some t→t.2.2 < ws.flatten.length) →
  (stR ws jt wd (tr.take k)).2.2=sumTo (rowC ws jt wd (tr.take k)) (stR ws jt wd (tr.take k)).1∧∀ q,(stR ws jt wd (tr.take k)).1 ≤ q→lookC ws jt wd (tr.take k) q=none
 | 0,_,_=>⟨rfl,fun _ _=>rfl⟩
 | k + 1,hk,hl=>by
  have hg:tr[k]?=some tr[k]:=by simp
  obtain ⟨i1,i2⟩:=pre_sum hV k (by omega) fun i t hi e=>hl i t (by omega) e
  have c:=hV k _ hg
  have hlt:=hl k _ (Nat.lt_succ_self _) hg
  have es:stR ws jt wd (tr.take (k + 1))=stepR ws jt wd (stR ws jt wd (tr.take k)) tr[k]:=by rw [take_snoc hg,stR_snoc]
  have et:tr.take (k + 1)=tr.take k ++ [tr[k]]:=take_snoc hg
  generalize tr[k]=t at *
  generalize hp:tr.take k=pr at *
  have e1:(stR ws jt wd (tr.take (k + 1))).1=t.1 + 1:=by rw [es]; rfl
  have e3:(stR ws jt wd (tr.take (k + 1))).2.2=(stR ws jt wd pr).2.2 + sumE wd (stR ws jt wd pr).1 t.1 + costOf ws jt wd t.1 t.2.1 t.2.2:=by
   rw [es]
   show _ + (if t.2.2 < ws.flatten.length then _ else _)=_
   rw [if_pos hlt]
  rw [e3,e1,et]
  have c1:=c.1
  have old:∀ q,q < t.1→rowC ws jt wd (pr ++ [t]) q=rowC ws jt wd pr q:=fun q hq=>by
   unfold rowC
   rw [lookC_snoc,if_neg (by omega)]
  refine ⟨?_,fun q hq=>?_⟩
  ·show _=sumTo (rowC ws jt wd (pr ++ [t])) t.1 + rowC ws jt wd (pr ++ [t]) t.1
   have a1:rowC ws jt wd (pr ++ [t]) t.1=costOf ws jt wd t.1 t.2.1 t.2.2:=by
    unfold rowC
    rw [lookC_snoc,if_pos rfl]
    rfl
   have a2:=sumTo_gap (f:=rowC ws jt wd pr) (wd:=wd) (a:=(stR ws jt wd pr).1) (t.1 - (stR ws jt wd pr).1) fun q h1 h2=>by
    unfold rowC
    rw [i2 q h1]
    rfl
   rw [show (stR ws jt wd pr).1 + (t.1 - (stR ws jt wd pr).1)=t.1 by omega] at a2
   rw [a1,sumTo_congr old,a2,i1]
  ·rw [lookC_snoc,if_neg (by omega)]
   exact i2 q (by omega)
theorem till_lt {ws:List (List Str)} {jt:Int} {wd:List Int} {tr:List Tr} (hV:ValidR ws jt wd tr) {i:Nat} {t:Tr} (hi:i + 1 < tr.length) (e:tr[i]?=some t):t.2.2 < ws.flatten.length:=by
 have hg:tr[i + 1]?=some tr[i + 1]:=by simp
 obtain ⟨_,c2,c3,c4,_⟩:=hV (i + 1) _ hg
 rw [take_snoc e,stR_snoc] at c2
 have c2:tr[i + 1].2.1=t.2.2:=c2
 omega
theorem cost_sum {ws:List (List Str)} {jt:Int} {wd:List Int} {tr ts0:List Tr} {R p q:Nat} (hV:ValidR ws jt wd tr) (hpl:(stR ws jt wd tr).2.1=ws.flatten.length) (e:tr=ts0 ++ [(R,p,q)]):(stR ws jt wd tr).2.2=sumTo (rowC ws jt wd tr) R:=by
 have hl:tr.length=ts0.length + 1:=by rw [e,List.length_append,List.length_singleton]
 have et:tr.take ts0.length=ts0:=by rw [e,List.take_left]
 have hg:tr[ts0.length]?=some (R,p,q):=by rw [e]; simp
 obtain ⟨i1,i2⟩:=pre_sum hV ts0.length (by omega) fun i t hi ei=>till_lt hV (by omega) ei
 have c:=hV _ _ hg
 rw [et] at i1 i2 c
 have es:stR ws jt wd tr=stepR ws jt wd (stR ws jt wd ts0) (R,p,q):=by rw [e,stR_snoc]
 have hq:q=ws.flatten.length:=by
  rw [es] at hpl
  exact hpl
 have c1:(stR ws jt wd ts0).1 ≤ R:=c.1
 rw [es]
 show (stR ws jt wd ts0).2.2 + sumE wd (stR ws jt wd ts0).1 R + (if q < ws.flatten.length then _ else _)=_
 rw [if_neg (by omega),Int.add_zero]
 have old:∀ z,z < R→rowC ws jt wd tr z=rowC ws jt wd ts0 z:=fun z hz=>by
  rw [e]
  unfold rowC
  rw [lookC_snoc,if_neg (by show ¬ z=R; omega)]
 have a2:=sumTo_gap (f:=rowC ws jt wd ts0) (wd:=wd) (a:=(stR ws jt wd ts0).1) (R - (stR ws jt wd ts0).1) fun z h1 h2=>by
  unfold rowC
  rw [i2 z h1]
  rfl
 rw [show (stR ws jt wd ts0).1 + (R - (stR ws jt wd ts0).1)=R by omega] at a2
 rw [sumTo_congr old,a2,i1]
theorem step_iff {ws:List (List Str)} {jt:Int} {wd:List Int} {r R:Nat} {a b:List (Option Int)} {C:Int} (la:a.length=ws.flatten.length + 1):StepG ws jt wd r a b (.int (R:Int)) (if r < R then C + 1 else C) ↔ StepsG ws jt wd r a b∧EndsG ws wd r a C R:=by
 constructor
 ·intro h
  refine ⟨fun i c hc s hs=>?_,fun i c hi hc hf=>?_⟩
  ·by_cases hi:i < ws.flatten.length
   ·exact (h i c hi hc).1 s hs
   ·have hi2:=at0_lt hc
    have e:i=ws.flatten.length:=by omega
    rcases steps_iff.mp (show (s.1,s.2) ∈ stepsL ws jt wd r i from hs) with ⟨g1,g2,_⟩ | ⟨g1,g2,_⟩
    ·omega
    ·have:=(may_iff g2).1
     omega
  ·have:=((h i c hi hc).2 hf).2
   split at this <;> omega
 ·rintro ⟨h1,h2⟩ i c hi hc
  refine ⟨h1 i c hc,fun hf=>⟨(fun z=>by cases z),?_⟩⟩
  have:=h2 i c hi hc hf
  split <;> omega
end B64
namespace B64
open PySem L2
def mostOf (C:Int) (v:V) (r:Nat):Int:=match v with
 | .int R=>if (r:Int) < R then C + 1 else C
 | _=>C
def ShowsG (ws:List (List Str)) (jt:Int) (wd:List Int) (m:Nat) (tbl:Tbl) (C:Int) (v:V):Prop:=(∀ r a b,r < m→tbl[r]?=some a→tbl[r + 1]?=some b→StepG ws jt wd r a b v (mostOf C v r))∧gt tbl 0 0=some 0
def spLShowsG:Sp:=fun vs H Q _=>∃ (l wl tb:Addr) (ws:List (List Str)) (jt:Int) (wd:List Int) (m:Nat) (C:Int) (v:V) (tbl:Tbl),vs=[.ref l,.int jt,.ref wl,.ref tb,.int C,v]∧PcsAt H l ws ws.flatten.length∧Short ws∧ws.flatten.length ≤ 1000∧H wl=some (.lst (wd.map V.int))∧WideOk wd∧TabG H tb tbl∧tbl.length=m + 1∧m ≤ 200∧RowsR (ws.flatten.length + 1) tbl ∧
 (v=.non ∨ ∃ R:Int,v=.int R)∧(ShowsG ws jt wd m tbl C v→Q (.bl true) H)∧(¬ ShowsG ws jt wd m tbl C v→Q (.bl false) H)
section
variable {P:Program} {w:World} {K:PySem.W.Frag} {mg:Str→Option Value} {base:Heap}
abbrev nLShows:List Str:=["_law_pieces_here","_law_joint","_law_widths","_law_table","_law_cost_here","_law_last","_law_row","_law_most","_law_width"]
theorem scLShows:FnScope nLShows ["_law_pieces_here","_law_joint","_law_widths","_law_table","_law_cost_here","_law_last"] (defScope sLShows):=⟨rfl,rfl,rfl,by decide +kernel,rfl,by decide +kernel,by decide +kernel⟩
set_option maxHeartbeats 1000000 in
theorem ok_lshowsG {f fS:Addr} {fd dS:FuncData} (F:Fun K "_law_shows" "_law_shows" sLShows f fd) (N:Names mg) (GS:FnOk P w K mg base CX0 2 fS dS ["_law_pieces_here","_law_joint","_law_width","_law_costs","_law_after","_law_end","_law_most"] spLStepG) (bS:Binds K dS ["_law_pieces_here","_law_joint","_law_width","_law_costs","_law_after","_law_end","_law_most"] []) (mS:mg "_law_step"=some (.ref fS)) (kS:PySem.W.keepIn K (.ref fS)=true) :
  FnOk P w K mg base CX0 3 f fd ["_law_pieces_here","_law_joint","_law_widths","_law_table","_law_cost_here","_law_last"] spLShowsG:=by
 refine F.ok scLShows (fun vs H Q E h=>?_) (fun cdv A outer s H vs Q E hr h=>?_)
 ·obtain ⟨l,wl,tb,ws,jt,wd,m,C,v,tbl,e,_⟩:=h
  rw [e]
  rfl
 ·obtain ⟨l,wl,tb,ws,jt,wd,m,C,v,tbl,e,hP,hSh,hn,hwl,ok,hT,hlen,hm,hRows,hv,k1,k2⟩:=h
  subst e
  obtain ⟨pl,p1,p2,p3⟩:=id hP
  obtain ⟨as,t1,t2,t3⟩:=id hT
  have ga:∀ r,r ≤ m→∃ row,tbl[r]?=some row∧row.length=ws.flatten.length + 1:=fun r hr=>by
   have e1:tbl[r]?=some tbl[r]:=by simp [show r < tbl.length by omega]
   exact ⟨_,e1,(hRows _ (List.mem_of_getElem? e1)).1⟩
  refine ⟨_,pss_cons (ps_for PassesOwn.never rfl (pi_range1 rfl N.range (pa_cons (pe_op op_sub (pe_callB call_len_seq (by rfl) N.len PySem.boot_len (pa_cons (pv 3) pa_nil)) pe_int) pa_nil)) (pg_name (i:=6) scLShows.nd rfl (Or.inl rfl))
    (pss_cons (ps_set (i:=7) scLShows.nd rfl (Or.inl rfl) (pv 4))
    (pss_cons (ps_if (pw_and (pt_cmp (pc_notN (pv 5))) (pw_and1 (pt_cmpR op_lt (pv 6) (pv 5) (nomark _)))).pt (pss_one (ps_set (i:=7) scLShows.nd rfl (Or.inl rfl) (pe_op op_add (pv 4) pe_int))) pss_nil)
    (pss_cons (ps_set (i:=8) scLShows.nd rfl (Or.inl rfl) (pe_ix ix_list (pv 2) (pe_callB (call_min2 rfl) (by rfl) N.min PyProof.Rows.boot_min (pa_cons (pv 6) (pa_cons (pe_op op_sub (pe_callB call_len_seq (by rfl) N.len PySem.boot_len (pa_cons (pv 2) pa_nil)) pe_int) pa_nil))) (fun _ _=>rfl)))
    (pss_one (ps_if (pt_not (pt_val (pe_call GS hr (by rfl) mS kS bS .nil pass0 (pa_cons (pv 0) (pa_cons (pv 1) (pa_cons (pv 8) (pa_cons (pe_ix ix_list (pv 3) (pv 6) (fun _ _=>rfl)) (pa_cons (pe_ix ix_list (pv 3) (pe_op op_add (pv 6) pe_int) (fun _ _=>rfl)) (pa_cons (pv 5) (pa_cons (pv 7) pa_nil)))))))))) (pss_one (ps_ret pe_bl)) pss_nil))))))
   (pss_one (ps_ret (pe_cmpR op_eq (pe_ix ix_list (pe_ix ix_list (pv 3) pe_int (fun _ _=>rfl)) pe_int (fun _ _=>rfl)) pe_int (nomark _)))),?_⟩
  refine ⟨_,rfl,tb,_,rfl,.inl (SqL.of t1),_,_,rfl,rfl,_,rfl,by rw [List.length_map,t2]; omega,by rw [List.length_map,t2]; omega,?_⟩
  rw [List.length_map,t2,hlen,show (((m + 1:Nat):Int) - 1).toNat=m by omega]
  refine for_range (n:=m) (fun i σ H2=>(∃ a b c,σ=[some (.ref l),some (.int jt),some (.ref wl),some (.ref tb),some (.int C),some v,a,b,c])∧H2=H∧∀ r a b,r < i→tbl[r]?=some a→tbl[r + 1]?=some b→StepG ws jt wd r a b v (mostOf C v r)) ⟨⟨_,_,_,rfl⟩,rfl,fun r a b hr=>by omega⟩ ?_ ?_
  ·rintro i σ H2 hi ⟨⟨a,b,c,rfl⟩,rfl,hJ⟩
   have ei:(0:Int) + (i:Int)=(i:Int):=by omega
   obtain ⟨hl,hat,lo,hi'⟩:=ok.at i
   obtain ⟨ra,era,la⟩:=ga i (by omega)
   obtain ⟨rb,erb,lb⟩:=ga (i + 1) (by omega)
   have bad:(¬ StepG ws jt wd i ra rb v (mostOf C v i))→Q (.bl false) H2:=fun hno=>k2 fun z=>hno (z.1 i ra rb hi era erb)
   have ext:StepG ws jt wd i ra rb v (mostOf C v i)→∀ r a b,r < i + 1→tbl[r]?=some a→tbl[r + 1]?=some b→StepG ws jt wd r a b v (mostOf C v r):=fun h r a b hr ea eb=>by
    by_cases e:r=i
    ·subst e
     rw [era] at ea
     rw [erb] at eb
     cases ea
     cases eb
     exact h
    ·exact hJ r a b (by omega) ea eb
   refine ⟨_,rfl,?_⟩
   refine ⟨_,rfl,_,rfl,?_⟩
   have hvk:=hv
   rcases hv with rfl | ⟨R,rfl⟩
   ·refine iteF (iteF ?_)
    have emost:mostOf C .non i=C:=rfl
    obtain ⟨as0,a0,x1,x2,x3,x4⟩:=hT.get era
    obtain ⟨as1,a1,y1,y2,y3,y4⟩:=hT.get erb
    refine ⟨_,rfl,_,rfl,_,rfl,wl,_,rfl,.inl (SqL.of hwl),_,_,rfl,rfl,_,_,rfl,wl,_,_,_,rfl,rfl,SqL.of hwl,atI_of ?_ hat,?_⟩
    ·rw [List.length_map,ei]
     split <;> omega
    refine ⟨_,rfl,_,rfl,_,rfl,_,rfl,_,rfl,tb,_,_,_,rfl,rfl,SqL.of x1,atI_of ei x3,_,rfl,_,rfl,_,_,rfl,rfl,tb,_,_,_,rfl,rfl,SqL.of y1,atI_of (j:=i + 1) (by omega) y3,_,rfl,_,rfl,l,a0,a1,ws,jt,wd,i,_,_,ra,rb,rfl,hP,hSh,hn,ok,x4,y4,la,lb,hvk,fun hst=>⟨_,rfl,iteF ?_⟩,fun hst=>⟨_,rfl,iteT (bad fun z=>hst ?_)⟩⟩
    ·exact ⟨⟨_,_,_,rfl⟩,rfl,ext (by rw [emost]; exact hst)⟩
    ·rw [emost] at z
     exact z
   ·refine iteT ?_
    refine ⟨_,rfl,_,rfl,_,_,rfl,rfl,_,rfl,?_⟩
    by_cases hlt:(i:Int) < R
    ·refine iteB (decide_eq_true (by omega)) ?_
     refine ⟨_,rfl,_,_,rfl,rfl,?_⟩
     have emost:mostOf C (.int R) i=C + 1:=if_pos hlt
     obtain ⟨as0,a0,x1,x2,x3,x4⟩:=hT.get era
     obtain ⟨as1,a1,y1,y2,y3,y4⟩:=hT.get erb
     refine ⟨_,rfl,_,rfl,_,rfl,wl,_,rfl,.inl (SqL.of hwl),_,_,rfl,rfl,_,_,rfl,wl,_,_,_,rfl,rfl,SqL.of hwl,atI_of ?_ hat,?_⟩
     ·rw [List.length_map,ei]
      split <;> omega
     refine ⟨_,rfl,_,rfl,_,rfl,_,rfl,_,rfl,tb,_,_,_,rfl,rfl,SqL.of x1,atI_of ei x3,_,rfl,_,rfl,_,_,rfl,rfl,tb,_,_,_,rfl,rfl,SqL.of y1,atI_of (j:=i + 1) (by omega) y3,_,rfl,_,rfl,l,a0,a1,ws,jt,wd,i,_,_,ra,rb,rfl,hP,hSh,hn,ok,x4,y4,la,lb,hvk,fun hst=>⟨_,rfl,iteF ?_⟩,fun hst=>⟨_,rfl,iteT (bad fun z=>hst ?_)⟩⟩
     ·exact ⟨⟨_,_,_,rfl⟩,rfl,ext (by rw [emost]; exact hst)⟩
     ·rw [emost] at z
      exact z
    ·refine iteC (decide_eq_false (by omega)) ?_
     have emost:mostOf C (.int R) i=C:=if_neg hlt
     obtain ⟨as0,a0,x1,x2,x3,x4⟩:=hT.get era
     obtain ⟨as1,a1,y1,y2,y3,y4⟩:=hT.get erb
     refine ⟨_,rfl,_,rfl,_,rfl,wl,_,rfl,.inl (SqL.of hwl),_,_,rfl,rfl,_,_,rfl,wl,_,_,_,rfl,rfl,SqL.of hwl,atI_of ?_ hat,?_⟩
     ·rw [List.length_map,ei]
      split <;> omega
     refine ⟨_,rfl,_,rfl,_,rfl,_,rfl,_,rfl,tb,_,_,_,rfl,rfl,SqL.of x1,atI_of ei x3,_,rfl,_,rfl,_,_,rfl,rfl,tb,_,_,_,rfl,rfl,SqL.of y1,atI_of (j:=i + 1) (by omega) y3,_,rfl,_,rfl,l,a0,a1,ws,jt,wd,i,_,_,ra,rb,rfl,hP,hSh,hn,ok,x4,y4,la,lb,hvk,fun hst=>⟨_,rfl,iteF ?_⟩,fun hst=>⟨_,rfl,iteT (bad fun z=>hst ?_)⟩⟩
     ·exact ⟨⟨_,_,_,rfl⟩,rfl,ext (by rw [emost]; exact hst)⟩
     ·rw [emost] at z
      exact z
  ·rintro σ H2 ⟨⟨a,b,c,rfl⟩,rfl,hJ⟩
   obtain ⟨row0,er0,l0⟩:=ga 0 (Nat.zero_le _)
   obtain ⟨as0,a0,x1,x2,x3,x4⟩:=hT.get er0
   have hat:(row0.map oV)[0]?=some (oV (at0 row0 0)):=at0_at (by omega)
   have eg:gt tbl 0 0=at0 row0 0:=by unfold gt; rw [er0]; rfl
   refine ⟨_,rfl,tb,_,_,_,rfl,rfl,SqL.of x1,atI_nat (j:=0) x3,a0,_,_,_,rfl,rfl,SqL.of x4,atI_nat (j:=0) hat,(by cases at0 row0 0 <;> rfl),?_⟩
   show Q (.bl (decide (oV (at0 row0 0)=V.int 0))) H2
   by_cases hz:at0 row0 0=some 0
   ·rw [decide_eq_true (by rw [hz]; rfl)]
    exact k1 ⟨hJ,by rw [eg]; exact hz⟩
   ·rw [decide_eq_false (fun z=>hz (by
     cases e:at0 row0 0 with
     | none=>rw [e] at z; cases z
     | some y=>rw [e] at z; injection z with z; rw [z]))]
    exact k2 fun z=>hz (by rw [← eg]; exact z.2)
end
end B64
namespace L2
open PySem PySem.Spec PyProof.Rows
theorem comp_mapT {K:PySem.W.Frag} {a:Addr} {xs:List V} {te:TE} {σ:St} {H:Hp} {Q:VK} (f:V→V) (hq:H a=some (.tup xs)) (hn:xs.length < sizeLine)
  (he:∀ (i:Nat) (x:V) (H':Hp) (Q':VK),xs[i]?=some x→Same H H'→(∀ H3,Same H' H3→Q' (f x) H3)→te (some x :: σ) H' Q') (hd:∀ D H',H D=none→Same H H'→H' D=some (.lst (xs.map f))→Q (.ref D) H'):CompGo (Itt K a) H σ ttAll te Q:=by
 intro D hD
 refine ⟨fun i m H'=>m=xs.length - i∧i ≤ xs.length∧Same H H'∧H' D=some (.lst ((xs.take i).map f)),⟨xs.length,by omega,Nat.zero_le _,Same.put' (Same.refl H) hD,upd_same⟩,?_⟩
 rintro i m H' ⟨rfl,hi,s1,hl⟩
 have q:SqT K H' a xs:=SqT.of (s1 _ _ hq)
 by_cases hlt:i < xs.length
 ·refine .inr ⟨⟨xs,xs[i],q,by simp [hlt]⟩,fun x H2 y=>?_⟩
  obtain ⟨e,y⟩:=y
  subst e
  have hx:=y xs q
  unfold ttAll
  refine iteT (he i x H2 _ hx s1 fun H3 s3=>?_)
  refine ⟨(xs.take i).map f,s3 _ _ hl,by rw [List.length_map,List.length_take]; omega,xs.length - (i + 1),by omega,rfl,hlt,Same.put' (Same.trans s1 s3) hD,?_⟩
  rw [upd_same,List.take_succ,hx,List.map_append]
  rfl
 ·have e:i=xs.length:=by omega
  subst e
  rw [List.take_length] at hl
  exact .inl ⟨⟨xs,q,Nat.le_refl _⟩,hd D H' hD s1 hl⟩
end L2
namespace B64
open PySem L2
def isP:V→Bool
 | .int z=>decide (0 ≤ z)
 | _=>false
def spLNum:Sp:=fun vs H Q _=>∃ v:V,vs=[v]∧CellOk v∧Q (.bl (isP v)) H
section
variable {P:Program} {w:World} {K:PySem.W.Frag} {mg:Str→Option Value} {base:Heap}
theorem scLIsNum:FnScope ["_law_thing"] ["_law_thing"] (defScope sLIsNum):=⟨rfl,rfl,rfl,by decide +kernel,rfl,by decide +kernel,by decide +kernel⟩
theorem ok_lnum {f:Addr} {fd:FuncData} (F:Fun K "_law_is_number" "_law_is_number" sLIsNum f fd) (N:Names mg):FnOk P w K mg base CX0 1 f fd ["_law_thing"] spLNum:=by
 refine F.ok scLIsNum (fun vs H Q E h=>?_) (fun cdv A outer s H vs Q E hr h=>?_)
 ·obtain ⟨i,e,_⟩:=h
  rw [e]
  rfl
 ·obtain ⟨v,e,hv,k⟩:=h
  subst e
  refine ⟨_,pss_one (ps_ret (pe_and (pe_callB call_isinst (by rfl) N.inst PyProof.Rows.boot_isinstance (pa_cons (pv 0) (pa_cons (pe_bltn (v:=.ty "int") (by rfl) N.int PyProof.Rows.boot_int rfl (by decide)) pa_nil)))
   (pe_and (pe_not (pe_callB call_isinst (by rfl) N.inst PyProof.Rows.boot_isinstance (pa_cons (pv 0) (pa_cons (pe_bltn (v:=.ty "bool") (by rfl) N.bool PyProof.Rows.boot_bool rfl (by decide)) pa_nil))))
   (pe_one (pe_cmpR op_ge (pv 0) pe_int (nomark _)))))),?_⟩
  rcases hv with rfl | ⟨z,rfl⟩ | ⟨b,rfl⟩ | ⟨x,rfl⟩
  ·exact ⟨_,rfl,_,"int",_,_,rfl,TyOf.non,kit_no1,_,rfl,iteF k⟩
  ·refine ⟨_,rfl,_,"int",_,_,rfl,TyOf.int z,kit_ints,_,rfl,iteT ?_⟩
   refine ⟨_,rfl,_,"bool",_,_,rfl,TyOf.int z,kit_intb,_,rfl,_,rfl,iteT ?_⟩
   exact ⟨_,rfl,_,_,rfl,rfl,k⟩
  ·refine ⟨_,rfl,_,"int",_,_,rfl,TyOf.bl b,kit_bi,_,rfl,iteT ?_⟩
   exact ⟨_,rfl,_,"bool",_,_,rfl,TyOf.bl b,kit_bb,_,rfl,_,rfl,iteF k⟩
  ·exact ⟨_,rfl,_,"int",_,_,rfl,TyOf.str x,kit_si,_,rfl,iteF k⟩
end
end B64
namespace L2
open PySem PySem.Spec PyProof.Rows
section
variable {es:List Expr} {env:Env}
end
end L2
namespace B64
open PySem L2
theorem seq_abs {t u:TS} {D:Ends} {σ:St} {H:Hp} (h:∀ N:St→Hp→Prop,(∀ σ H,u D σ H→N σ H)→t { D with nx:=N } σ H):tSeq t u D σ H:=h _ fun _ _ x=>x
def RightE (H:Hp) (e:V):Prop:=∃ (p:Addr) (t:TrI),e=.ref p∧H p=some (.tup (trIV t))∧0 ≤ t.1∧0 ≤ t.2.1∧0 ≤ t.2.2
def RightT (H:Hp) (v:V):Prop:=∃ (l:Addr) (es:List V),v=.ref l∧H l=some (.lst es)∧∀ e ∈ es,RightE H e
def RightR (H:Hp) (n:Nat) (e:V):Prop:=∃ (p:Addr) (row:List (Option Int)),e=.ref p∧H p=some (.lst (row.map oV))∧row.length=n∧∀ z,some z ∈ row→0 ≤ z
def RightU (H:Hp) (u:V) (m n:Nat):Prop:=∃ (l:Addr) (es:List V),u=.ref l∧H l=some (.lst es)∧es.length=m∧∀ e ∈ es,RightR H n e
def cellP (x:V):Bool:=decide (x=.non) || isP x
theorem kit_ll {K:PySem.W.Frag}:PySem.W.kitOne K (.type "list") (.type "list")=some true:=by rfl
theorem kit_tt {K:PySem.W.Frag}:PySem.W.kitOne K (.type "tuple") (.type "tuple")=some true:=by rfl
theorem inF {bs:List Bool}:inV (.bl false) (bs.map V.bl)=!bs.all id:=by
 induction bs with
 | nil=>rfl
 | cons b l ih =>
  cases b with
  | true =>
   rw [List.map_cons,List.all_cons]
   show (eqV (.bl false) (.bl true) || inV (.bl false) (l.map V.bl))=_
   rw [ih]
   rfl
  | false =>
   rw [List.map_cons,List.all_cons]
   show (eqV (.bl false) (.bl false) || inV (.bl false) (l.map V.bl))=_
   rfl
theorem flats {bs:List Bool}:(bs.map V.bl).all flatV=true:=by
 rw [List.all_map]
 exact List.all_eq_true.mpr fun _ _=>rfl
theorem row_of {xs:List V} (hc:∀ x ∈ xs,CellOk x) (h:xs.all cellP=true):∃ row:List (Option Int),xs=row.map oV∧∀ z,some z ∈ row→0 ≤ z:=by
 induction xs with
 | nil=>exact ⟨[],rfl,fun z h=>nomatch h⟩
 | cons x l ih =>
  rw [List.all_cons] at h
  obtain ⟨h1,h2⟩:=Bool.and_eq_true_iff.mp h
  obtain ⟨row,e,hr⟩:=ih (fun y hy=>hc y (List.mem_cons_of_mem _ hy)) h2
  rcases hc x List.mem_cons_self with rfl | ⟨z,rfl⟩ | ⟨b,rfl⟩ | ⟨y,rfl⟩
  ·exact ⟨none :: row,by rw [e]; rfl,fun z hz=>hr z ((List.mem_cons.mp hz).resolve_left (by intro q; cases q))⟩
  ·refine ⟨some z :: row,by rw [e]; rfl,fun w hw=>?_⟩
   rcases List.mem_cons.mp hw with q | q
   ·cases q
    exact of_decide_eq_true h1
   ·exact hr w q
  ·cases h1
  ·cases h1
theorem row_no {xs:List V} {row:List (Option Int)} (e:xs=row.map oV) (hr:∀ z,some z ∈ row→0 ≤ z):xs.all cellP=true:=by
 subst e
 rw [List.all_map]
 refine List.all_eq_true.mpr fun o ho=>?_
 cases o with
 | none=>rfl
 | some z=>exact decide_eq_true (hr z ho)
def spRight:Sp:=fun vs H Q _=>∃ (l:Addr) (ws:List (List Str)) (m:Nat) (v u:V),vs=[.ref l,.int (m:Int),v,u]∧PcsAt H l ws ws.flatten.length∧TrV H v∧TabV H u ∧
 (RightT H v→RightU H u (m + 1) (ws.flatten.length + 1)→∀ H',Same H H'→Q (.bl true) H')∧((¬ RightT H v ∨ ¬ RightU H u (m + 1) (ws.flatten.length + 1))→∀ H',Same H H'→Q (.bl false) H')
section
variable {P:Program} {w:World} {K:PySem.W.Frag} {mg:Str→Option Value} {base:Heap}
abbrev nLRight:List Str:=["_law_pieces_here","_law_many","_law_triples","_law_table","_law_triple","_law_costs"]
theorem scLRight:FnScope nLRight ["_law_pieces_here","_law_many","_law_triples","_law_table"] (defScope sLRight):=⟨rfl,rfl,rfl,by decide +kernel,rfl,by decide +kernel,by decide +kernel⟩
set_option maxHeartbeats 16000000 in
theorem ok_lRight {f f1:Addr} {fd d1:FuncData} (F:Fun K "_law_are_right" "_law_are_right" sLRight f fd) (N:Names mg)
  (G1:FnOk P w K mg base CX0 1 f1 d1 ["_law_thing"] spLNum) (b1:Binds K d1 ["_law_thing"] []) (m1:mg "_law_is_number"=some (.ref f1)) (k1:PySem.W.keepIn K (.ref f1)=true):FnOk P w K mg base CX0 2 f fd ["_law_pieces_here","_law_many","_law_triples","_law_table"] spRight:=by
 refine F.ok scLRight (fun vs H Q E h=>?_) (fun cdv A outer s H vs Q E hr h=>?_)
 ·obtain ⟨l,ws,m,v,u,e,_⟩:=h
  rw [e]
  rfl
 ·obtain ⟨l,ws,m,v,u,e,hp,hv,hu,kT,kF⟩:=h
  subst e
  have hr1:=hr.mono (j:=1) (by decide)
  refine ⟨_,pss_cons (ps_if (pw_or (pt_not (pt_val (pe_callB call_isinst (by rfl) N.inst PyProof.Rows.boot_isinstance (pa_cons (pv 2) (pa_cons (pe_bltn (v:=.ty "list") (by rfl) N.list PyProof.Rows.boot_list rfl (by decide)) pa_nil))))) (pw_or (pt_not (pt_val (pe_callB call_isinst (by rfl) N.inst PyProof.Rows.boot_isinstance (pa_cons (pv 3) (pa_cons (pe_bltn (v:=.ty "list") (by rfl) N.list PyProof.Rows.boot_list rfl (by decide)) pa_nil))))) (pw_or1 (pt_cmpR op_ne (pe_callB call_len_seq (by rfl) N.len PySem.boot_len (pa_cons (pv 3) pa_nil)) (pe_op op_add (pv 1) pe_int) (nomark _))))).pt (pss_one (ps_ret pe_bl)) pss_nil)
   (pss_cons (ps_for PassesOwn.never rfl (pi_list (pv 2)) (pg_name (i:=4) scLRight.nd rfl (Or.inl rfl))
    (pss_cons (ps_if (pw_or (pt_not (pt_val (pe_callB call_isinst (by rfl) N.inst PyProof.Rows.boot_isinstance (pa_cons (pv 4) (pa_cons (pe_bltn (v:=.ty "tuple") (by rfl) N.tuple PyProof.Rows.boot_tuple rfl (by decide)) pa_nil))))) (pw_or1 (pt_cmpR op_ne (pe_callB call_len_seq (by rfl) N.len PySem.boot_len (pa_cons (pv 4) pa_nil)) pe_int (nomark _)))).pt (pss_one (ps_ret pe_bl)) pss_nil)
    (pss_one (ps_if (pt_cmpR (r:=rIn K false) op_in_seq pe_bl (pe_comp (compSc_mk (fs:=defScope sLRight) (N:=nLRight) rfl rfl (by decide +kernel)) rfl (pi_tup (pv 4)) (fun _ _ _ _ _=>pts_nil) (fun _ _ _ _ _=>(pe_call G1 hr1 (by rfl) m1 k1 b1 .nil pass0 (pa_cons (pv 0) pa_nil)))) (by rfl)) (pss_one (ps_ret pe_bl)) pss_nil))))
   (pss_cons (ps_for PassesOwn.never rfl (pi_list (pv 3)) (pg_name (i:=5) scLRight.nd rfl (Or.inl rfl))
    (pss_cons (ps_if (pw_or (pt_not (pt_val (pe_callB call_isinst (by rfl) N.inst PyProof.Rows.boot_isinstance (pa_cons (pv 5) (pa_cons (pe_bltn (v:=.ty "list") (by rfl) N.list PyProof.Rows.boot_list rfl (by decide)) pa_nil))))) (pw_or1 (pt_cmpR op_ne (pe_callB call_len_seq (by rfl) N.len PySem.boot_len (pa_cons (pv 5) pa_nil)) (pe_op op_add (pe_callB call_len_seq (by rfl) N.len PySem.boot_len (pa_cons (pv 0) pa_nil)) pe_int) (nomark _)))).pt (pss_one (ps_ret pe_bl)) pss_nil)
    (pss_one (ps_if (pt_cmpR (r:=rIn K false) op_in_seq pe_bl (pe_comp (compSc_mk (fs:=defScope sLRight) (N:=nLRight) rfl rfl (by decide +kernel)) rfl (pi_list (pv 5)) (fun _ _ _ _ _=>pts_nil) (fun _ _ _ _ _=>(pe_or (pe_cmpR op_isN (pv 0) pe_non (nomark _)) (pe_one (pe_call G1 hr1 (by rfl) m1 k1 b1 .nil pass0 (pa_cons (pv 0) pa_nil)))))) (by rfl)) (pss_one (ps_ret pe_bl)) pss_nil))))
   (pss_one (ps_ret pe_bl)))),?_⟩
  try rw [show (cxOf CX0 P w K mg base nLRight "_law_are_right" (defScope sLRight) f cdv A outer s H E).nox.K=K from rfl]
  have noT:¬ RightT H v→∀ H',Same H H'→Q (.bl false) H':=fun z=>kF (.inl z)
  have noU:¬ RightU H u (m + 1) (ws.flatten.length + 1)→∀ H',Same H H'→Q (.bl false) H':=fun z=>kF (.inr z)
  refine seq_abs fun N1 hN=>?_
  rcases hv with ⟨lv,es,rfl,hlv,hes,hel⟩ | ⟨lv,es,rfl,hlv⟩ | rfl
  ·refine ⟨_,rfl,_,"list",_,_,rfl,TyOf.lst hlv,kit_ll,_,rfl,iteF ?_⟩
   rcases hu with ⟨lu,fs,rfl,hlu,hfs,hfl⟩ | ⟨lu,fs,rfl,hlu⟩ | rfl
   ·refine ⟨_,rfl,_,"list",_,_,rfl,TyOf.lst hlu,kit_ll,_,rfl,iteF ?_⟩
    refine ⟨_,rfl,lu,fs,rfl,.inl (SqL.of hlu),_,rfl,_,_,rfl,rfl,rfl,_,rfl,ite2 (fun hq=>?_) (fun hq=>?_)⟩
    ·refine noU (fun ⟨l',es',e1,e2,e3,_⟩=>?_) H (Same.refl _)
     cases e1
     rw [hlu] at e2
     cases e2
     rw [e3] at hq
     revert hq
     simp
    have hfm:fs.length=m + 1:=by
     have:¬ ((fs.length:Int) ≠ (m:Int) + 1):=fun z=>hq (by simp only [Bool.not_eq_true',decide_eq_false_iff_not]; intro q; injection q with q; exact z q)
     omega
    refine hN _ _ ?_
    clear hN N1 hq
    refine seq_abs fun N1 hN=>?_
    refine ⟨_,rfl,lv,rfl,⟨_,SqL.of hlv⟩,for_list (K:=K) (a:=lv) (xs:=es) (fun i σ G=>∃ u4 u5:Option V,σ=[some (.ref l),some (.int m),some (.ref lv),some (.ref lu),u4,u5]∧Same H G∧∀ e ∈ es.take i,RightE H e) ⟨none,none,rfl,Same.refl _,fun e he=>by simp at he⟩ (fun i σ G _ ⟨_,_,_,sG,_⟩=>SqL.of (sG _ _ hlv)) ?_ ?_⟩
    ·rintro i x σ G hx ⟨u4,u5,rfl,sG,hall⟩
     have hxm:=List.mem_of_getElem? hx
     refine seq_abs fun N1 hN=>?_
     rcases hel x hxm with ⟨p,t,rfl,hpt⟩ | rfl | ⟨p,xs,rfl,hpx⟩
     ·refine ⟨_,rfl,_,"tuple",_,_,rfl,TyOf.tup (sG _ _ hpt),kit_tt,_,rfl,iteF ?_⟩
      refine ⟨_,rfl,p,_,rfl,.inr (SqT.of (sG _ _ hpt)),rfl,_,rfl,iteF ?_⟩
      refine hN _ _ ?_
      clear hN N1
      refine ⟨_,rfl,p,rfl,⟨_,SqT.of (sG _ _ hpt)⟩,comp_mapT (fun x=>.bl (isP x)) (sG _ _ hpt) (small (by show 3 ≤ 100000; decide)) (fun j x H' Q' hxj s' hq=>?_) fun DD H1 hD s1 h1=>?_⟩
      ·refine ⟨_,rfl,x,rfl,?_,hq H' (Same.refl _)⟩
       have:=List.mem_of_getElem? hxj
       simp only [trIV,List.mem_cons,List.not_mem_nil,or_false] at this
       rcases this with rfl | rfl | rfl <;> exact .inr (.inl ⟨_,rfl⟩)
      ·have h1':H1 DD=some (.lst (([isP (.int t.1),isP (.int t.2.1),isP (.int t.2.2)]).map V.bl)):=h1
       refine ⟨DD,_,rfl,.inl (SqL.of h1'),rfl,flats,_,rfl,?_⟩
       rw [show (if false=true then !inV (V.bl false) (List.map V.bl [isP (V.int t.1),isP (V.int t.2.1),isP (V.int t.2.2)]) else inV (V.bl false) (List.map V.bl [isP (V.int t.1),isP (V.int t.2.1),isP (V.int t.2.2)]))=!([isP (V.int t.1),isP (V.int t.2.1),isP (V.int t.2.2)]).all id from inF]
       refine ite2 (fun hc=>?_) (fun hc=>?_)
       ·refine noT (fun ⟨l',es',e1,e2,e3⟩=>?_) H1 (Same.trans sG s1)
        cases e1
        rw [hlv] at e2
        cases e2
        obtain ⟨p',t',e4,e5,b1,b2,b3⟩:=e3 _ hxm
        cases e4
        rw [hpt] at e5
        have e6:t=t':=by
         obtain ⟨a1,a2,a3⟩:=t
         obtain ⟨c1,c2,c3⟩:=t'
         simp only [trIV,Option.some.injEq,HO.tup.injEq,List.cons.injEq,V.int.injEq,and_true] at e5
         obtain ⟨rfl,rfl,rfl⟩:=e5
         rfl
        subst e6
        revert hc
        simp [isP,b1,b2,b3]
       ·refine (show ∃ u4 u5:Option V,_ from ⟨_,_,rfl,Same.trans sG s1,fun e he=>?_⟩)
        rw [List.take_succ,hx] at he
        rcases List.mem_append.mp he with he | he
        ·exact hall e he
        ·rw [List.mem_singleton.mp he]
         have hc2:(isP (.int t.1) && (isP (.int t.2.1) && (isP (.int t.2.2) && true)))=true:=by
          cases z:(isP (.int t.1) && (isP (.int t.2.1) && (isP (.int t.2.2) && true))) with
          | true=>rfl
          | false=>exact absurd (by show (!(isP (.int t.1) && (isP (.int t.2.1) && (isP (.int t.2.2) && true))))=true; rw [z]; rfl) hc
         simp only [Bool.and_eq_true,isP,decide_eq_true_eq,and_true] at hc2
         exact ⟨p,t,rfl,hpt,hc2.1,hc2.2.1,hc2.2.2⟩
     ·refine ⟨_,rfl,_,"tuple",_,_,rfl,TyOf.non,kit_nt,_,rfl,iteT ?_⟩
      refine noT (fun ⟨l',es',e1,e2,e3⟩=>?_) G sG
      cases e1
      rw [hlv] at e2
      cases e2
      obtain ⟨p',t',e4,_⟩:=e3 _ hxm
      cases e4
     ·refine ⟨_,rfl,_,"tuple",_,_,rfl,TyOf.lst (sG _ _ hpx),kit_lt,_,rfl,iteT ?_⟩
      refine noT (fun ⟨l',es',e1,e2,e3⟩=>?_) G sG
      cases e1
      rw [hlv] at e2
      cases e2
      obtain ⟨p',t',e4,e5,_⟩:=e3 _ hxm
      cases e4
      rw [hpx] at e5
      cases e5
    ·rintro σ G ⟨u4,u5,rfl,sG,hall⟩
     rw [List.take_length] at hall
     refine hN _ _ ?_
     clear hN N1
     have hRT:RightT H (.ref lv):=⟨lv,es,rfl,hlv,hall⟩
     obtain ⟨as,ha1,ha2,_⟩:=hp
     refine seq_abs fun N1 hN=>?_
     refine ⟨_,rfl,lu,rfl,⟨_,SqL.of (sG _ _ hlu)⟩,for_list (K:=K) (a:=lu) (xs:=fs) (fun i σ G=>∃ u5:Option V,σ=[some (.ref l),some (.int m),some (.ref lv),some (.ref lu),u4,u5]∧Same H G∧∀ e ∈ fs.take i,RightR H (ws.flatten.length + 1) e) ⟨_,rfl,sG,fun e he=>by simp at he⟩ (fun i σ G _ ⟨_,_,sG,_⟩=>SqL.of (sG _ _ hlu)) ?_ ?_⟩
     ·rintro i x σ G2 hx ⟨u5,rfl,sG2,hall2⟩
      have hxm:=List.mem_of_getElem? hx
      refine seq_abs fun N1 hN=>?_
      rcases hfl x hxm with ⟨p,xs,rfl,hpx,hxl,hcell⟩ | ⟨p,xs,rfl,hpx⟩
      ·refine ⟨_,rfl,_,"list",_,_,rfl,TyOf.lst (sG2 _ _ hpx),kit_ll,_,rfl,iteF ?_⟩
       refine ⟨_,rfl,p,xs,rfl,.inl (SqL.of (sG2 _ _ hpx)),_,rfl,l,_,rfl,.inl (SqL.of (sG2 _ _ ha1)),_,_,rfl,rfl,rfl,_,rfl,ite2 (fun hq=>?_) (fun hq=>?_)⟩
       ·refine noU (fun ⟨l',es',e1,e2,e3,e4⟩=>?_) G2 sG2
        cases e1
        rw [hlu] at e2
        cases e2
        obtain ⟨p',row,e5,e6,e7,_⟩:=e4 _ hxm
        cases e5
        rw [hpx] at e6
        cases e6
        revert hq
        rw [List.length_map,List.length_map,e7,ha2]
        simp
       have hxn:xs.length=ws.flatten.length + 1:=by
        have:¬ ((xs.length:Int) ≠ (ws.flatten.length:Int) + 1):=fun z=>hq (by rw [List.length_map,ha2]; simp only [Bool.not_eq_true',decide_eq_false_iff_not]; intro q; injection q with q; exact z q)
        omega
       refine hN _ _ ?_
       clear hN N1
       refine ⟨_,rfl,p,rfl,⟨_,SqL.of (sG2 _ _ hpx)⟩,comp_mapL (fun x=>.bl (cellP x)) (SqL.of (sG2 _ _ hpx)) (small (by omega)) (fun j y H' Q' hy s' hq'=>?_) fun DD H1 hD s1 h1=>?_⟩
       ·refine ⟨_,rfl,rfl,_,rfl,ite2 (fun z=>?_) (fun z=>?_)⟩
        ·have z2:=hq' H' (Same.refl _)
         unfold cellP at z2
         rw [z,Bool.true_or] at z2
         exact z2
        ·refine ⟨_,rfl,y,rfl,hcell y (List.mem_of_getElem? hy),?_⟩
         have z2:=hq' H' (Same.refl _)
         unfold cellP at z2
         rw [Bool.eq_false_iff.mpr z,Bool.false_or] at z2
         exact z2
       ·have h1':H1 DD=some (.lst ((xs.map cellP).map V.bl)):=by rw [h1,List.map_map]; rfl
        refine ⟨DD,_,rfl,.inl (SqL.of h1'),rfl,flats,_,rfl,?_⟩
        rw [show (if false=true then !inV (V.bl false) (List.map V.bl (xs.map cellP)) else inV (V.bl false) (List.map V.bl (xs.map cellP)))=!(xs.map cellP).all id from inF,List.all_map]
        refine ite2 (fun hc=>?_) (fun hc=>?_)
        ·refine noU (fun ⟨l',es',e1,e2,e3,e4⟩=>?_) H1 (Same.trans sG2 s1)
         cases e1
         rw [hlu] at e2
         cases e2
         obtain ⟨p',row,e5,e6,e7,e8⟩:=e4 _ hxm
         cases e5
         rw [hpx] at e6
         have e9:xs=row.map oV:=by cases e6; rfl
         have z:=row_no e9 e8
         have hc':(!xs.all (id ∘ cellP))=true:=hc
         rw [show xs.all (id ∘ cellP)=xs.all cellP from rfl,z] at hc'
         cases hc'
        ·refine (show ∃ u5:Option V,_ from ⟨_,rfl,Same.trans sG2 s1,fun e he=>?_⟩)
         rw [List.take_succ,hx] at he
         rcases List.mem_append.mp he with he | he
         ·exact hall2 e he
         ·rw [List.mem_singleton.mp he]
          have hc2:xs.all cellP=true:=by
           cases z:xs.all cellP with
           | true=>rfl
           | false=>exact absurd (by show (!xs.all (id ∘ cellP))=true; rw [show xs.all (id ∘ cellP)=xs.all cellP from rfl,z]; rfl) hc
          obtain ⟨row,e,hr'⟩:=row_of hcell hc2
          exact ⟨p,row,rfl,by rw [hpx,e],by rw [← hxn,e,List.length_map],hr'⟩
      ·refine ⟨_,rfl,_,"list",_,_,rfl,TyOf.tup (sG2 _ _ hpx),kit_tl,_,rfl,iteT ?_⟩
       refine noU (fun ⟨l',es',e1,e2,e3,e4⟩=>?_) G2 sG2
       cases e1
       rw [hlu] at e2
       cases e2
       obtain ⟨p',row,e5,e6,_⟩:=e4 _ hxm
       cases e5
       rw [hpx] at e6
       cases e6
     ·rintro σ G2 ⟨u5,rfl,sG2,hall2⟩
      rw [List.take_length] at hall2
      refine hN _ _ ?_
      exact kT hRT ⟨lu,fs,rfl,hlu,hfm,hall2⟩ G2 sG2
   ·refine ⟨_,rfl,_,"list",_,_,rfl,TyOf.tup hlu,kit_tl,_,rfl,iteT ?_⟩
    refine noU (fun ⟨l',es',e1,e2,_⟩=>?_) H (Same.refl _)
    cases e1
    rw [hlu] at e2
    cases e2
   ·refine ⟨_,rfl,_,"list",_,_,rfl,TyOf.non,kit_nl,_,rfl,iteT ?_⟩
    exact noU (fun ⟨l',es',e1,_⟩=>nomatch e1) H (Same.refl _)
  ·refine ⟨_,rfl,_,"list",_,_,rfl,TyOf.tup hlv,kit_tl,_,rfl,iteT ?_⟩
   refine noT (fun ⟨l',es',e1,e2,_⟩=>?_) H (Same.refl _)
   cases e1
   rw [hlv] at e2
   cases e2
  ·refine ⟨_,rfl,_,"list",_,_,rfl,TyOf.non,kit_nl,_,rfl,iteT ?_⟩
   exact noT (fun ⟨l',es',e1,_⟩=>nomatch e1) H (Same.refl _)
end
end B64
namespace B64
open PySem L2
theorem atI_lst {α:Type} {xs:List α} {x:α} (h:xs[xs.length - 1]?=some x):atI xs (-1)=some x:=by
 have hl:=get_lt h
 unfold atI ixN
 rw [if_neg (by decide),if_pos (by omega)]
 show xs[((-1:Int) + (xs.length:Int)).toNat]?=some x
 rw [show ((-1:Int) + (xs.length:Int)).toNat=xs.length - 1 by omega]
 exact h
theorem right_tr {H:Hp} {v:V} (h:RightT H v):∃ l ts,v=.ref l∧TrG H l ts:=by
 obtain ⟨l,es,rfl,hl,he⟩:=h
 obtain ⟨as,rfl⟩:=refs_of fun e hm=>(by obtain ⟨p,t,rfl,_⟩:=he e hm; exact ⟨p,rfl⟩:∃ p:Addr,e=.ref p)
 obtain ⟨ts,h1,h2⟩:=pick_all (R:=fun (p:Addr) (t:TrI)=>H p=some (.tup (trIV t))) as fun p hp=>by
  obtain ⟨p',t,e,h3,_⟩:=he (.ref p) (List.mem_map.mpr ⟨p,hp,rfl⟩)
  cases e
  exact ⟨t,h3⟩
 exact ⟨l,ts,rfl,as,hl,h1.symm,fun k p t e1 e2=>h2 k p t e1 e2⟩
theorem right_tab {H:Hp} {u:V} {m n:Nat} (h:RightU H u m n):∃ l tbl,u=.ref l∧TabG H l tbl∧tbl.length=m∧RowsR n tbl:=by
 obtain ⟨l,es,rfl,hl,hm,he⟩:=h
 obtain ⟨as,rfl⟩:=refs_of fun e hm=>(by obtain ⟨p,t,rfl,_⟩:=he e hm; exact ⟨p,rfl⟩:∃ p:Addr,e=.ref p)
 obtain ⟨tbl,h1,h2⟩:=pick_all (R:=fun (p:Addr) (row:List (Option Int))=>H p=some (.lst (row.map oV))∧row.length=n∧∀ z,some z ∈ row→0 ≤ z) as fun p hp=>by
  obtain ⟨p',row,e,h3,h4⟩:=he (.ref p) (List.mem_map.mpr ⟨p,hp,rfl⟩)
  cases e
  exact ⟨row,h3,h4⟩
 rw [List.length_map] at hm
 refine ⟨l,tbl,rfl,⟨as,hl,h1.symm,fun k p t e1 e2=>(h2 k p t e1 e2).1⟩,by omega,fun row hr=>?_⟩
 obtain ⟨k,hk⟩:=List.getElem?_of_mem hr
 have hlt:k < as.length:=by rw [← h1]; exact get_lt hk
 exact (h2 k as[k] row (List.getElem?_eq_getElem hlt) hk).2
theorem good_right {ws:List (List Str)} {jt:Int} {wd:List Int} {m:Nat} {H:Hp} {v u:V} {tr:List Tr} {tbl:Tbl} {R:Nat} (g:GoodS ws jt wd m H v u tr tbl R):RightT H v∧RightU H u (m + 1) (ws.flatten.length + 1):=by
 constructor
 ·obtain ⟨l,rfl,as,h1,h2,h3⟩:=g.t
  refine ⟨l,_,rfl,h1,fun e he=>?_⟩
  obtain ⟨p,hp,rfl⟩:=List.mem_map.mp he
  obtain ⟨k,hk⟩:=List.getElem?_of_mem hp
  have hlt:k < tr.length:=by
   have:=get_lt hk
   rw [h2,List.length_map] at this
   exact this
  have e1:(tr.map trI)[k]?=some (trI tr[k]):=by rw [List.getElem?_map,List.getElem?_eq_getElem hlt]; rfl
  exact ⟨p,_,rfl,h3 k p _ hk e1,Int.natCast_nonneg _,Int.natCast_nonneg _,Int.natCast_nonneg _⟩
 ·obtain ⟨l,rfl,as,h1,h2,h3⟩:=g.u
  refine ⟨l,_,rfl,h1,by rw [List.length_map,h2,g.len],fun e he=>?_⟩
  obtain ⟨p,hp,rfl⟩:=List.mem_map.mp he
  obtain ⟨k,hk⟩:=List.getElem?_of_mem hp
  have hlt:k < tbl.length:=by rw [← h2]; exact get_lt hk
  have e1:tbl[k]?=some tbl[k]:=List.getElem?_eq_getElem hlt
  obtain ⟨a,b⟩:=g.rl _ (List.mem_of_getElem? e1)
  exact ⟨p,_,rfl,h3 k p _ hk e1,a,b⟩
theorem most_eq (C:Int) (R r:Nat):mostOf C (.int (R:Int)) r=if r < R then C + 1 else C:=by
 unfold mostOf
 dsimp only
 by_cases h:r < R
 ·rw [if_pos h,if_pos (by omega)]
 ·rw [if_neg h,if_neg (by omega)]
def lastV (tr:List Tr):V:=match tr.getLast? with
 | none=>.non
 | some t=>.int (t.1:Int)
theorem shows_iff {ws:List (List Str)} {jt:Int} {wd:List Int} {m:Nat} {H:Hp} {v u:V} {l tb:Addr} {tr:List Tr} {tbl:Tbl} (hv:v=.ref l) (hu:u=.ref tb) (hT:TrG H l (tr.map trI)) (hB:TabG H tb tbl) (hV:ValidR ws jt wd tr) (hr:∀ t ∈ tr,t.1 < m) (hp:(stR ws jt wd tr).2.1=ws.flatten.length) (hl:tbl.length=m + 1) (hR:RowsR (ws.flatten.length + 1) tbl) :
  ShowsG ws jt wd m tbl (stR ws jt wd tr).2.2 (lastV tr) ↔ ∃ R,GoodS ws jt wd m H v u tr tbl R:=by
 have rowl:∀ (r:Nat) (a:List (Option Int)),tbl[r]?=some a→a.length=ws.flatten.length + 1:=fun r a e=>(hR a (List.mem_of_getElem? e)).1
 rcases List.eq_nil_or_concat tr with e | ⟨ts0,t,e⟩
 ·subst e
  have n0:ws.flatten.length=0:=hp.symm
  constructor
  ·rintro ⟨_,z⟩
   refine ⟨0,⟨l,hv,hT⟩,⟨tb,hu,hB⟩,hV,hr,hp,hl,hR,z,.inl ⟨rfl,rfl⟩,fun r a b _ _ _=>⟨fun i c _ s hs=>?_,fun i c hi=>by omega⟩⟩
   have:=steps_lt hs
   omega
  ·rintro ⟨R,g⟩
   exact ⟨fun r a b _ _ _ i c hi=>by omega,g.z⟩
 ·rw [List.concat_eq_append] at e
  obtain ⟨R,p,q⟩:=t
  have el:lastV tr=.int (R:Int):=by unfold lastV; rw [e,List.getLast?_append]; rfl
  have ec:=cost_sum hV hp e
  rw [el]
  constructor
  ·rintro ⟨h1,z⟩
   refine ⟨R,⟨l,hv,hT⟩,⟨tb,hu,hB⟩,hV,hr,hp,hl,hR,z,.inr ⟨ts0,p,q,e⟩,fun r a b h2 h3 h4=>?_⟩
   have h5:=h1 r a b h2 h3 h4
   rw [most_eq] at h5
   have h6:=(step_iff (rowl r a h3)).mp h5
   rw [ec] at h6
   exact h6
  ·rintro ⟨R',g⟩
   have eR:R'=R:=endR_uniq g.en (.inr ⟨ts0,p,q,e⟩)
   subst eR
   refine ⟨fun r a b h2 h3 h4=>?_,g.z⟩
   rw [most_eq]
   refine (step_iff (rowl r a h3)).mpr ?_
   rw [ec]
   exact g.st r a b h2 h3 h4
def spDue:Sp:=fun vs H Q _=>∃ (l wl:Addr) (v u:V) (ws:List (List Str)) (jt:Int) (wd:List Int) (m:Nat),vs=[.ref l,.int jt,.ref wl,.int (m:Int),v,u]∧PcsAt H l ws ws.flatten.length∧Short ws∧ws.flatten.length ≤ 1000∧H wl=some (.lst (wd.map V.int))∧WideOk wd∧m ≤ 200∧TrV H v∧TabV H u ∧
 (∀ tr tbl R,GoodS ws jt wd m H v u tr tbl R→∀ H',Same H H'→Q (.bl true) H')∧((∀ tr tbl R,¬ GoodS ws jt wd m H v u tr tbl R)→∀ H',Same H H'→Q (.bl false) H')
theorem GoodS.back {ws:List (List Str)} {jt:Int} {wd:List Int} {m:Nat} {H H':Hp} {v u:V} {tr:List Tr} {tbl:Tbl} {R:Nat} {l tb:Addr} {ts:List TrI} (g:GoodS ws jt wd m H v u tr tbl R) (hv:v=.ref l) (hu:u=.ref tb) (hT:TrG H l ts):ts=tr.map trI:=by
 obtain ⟨l',e,h⟩:=g.t
 rw [hv] at e
 cases e
 exact tups_uniq hT h
section
variable {P:Program} {w:World} {K:PySem.W.Frag} {mg:Str→Option Value} {base:Heap}
abbrev nLDue:List Str:=["_law_pieces_here","_law_joint","_law_widths","_law_many","_law_triples","_law_table","_law_cost_here","_law_last"]
theorem scLDue:FnScope nLDue ["_law_pieces_here","_law_joint","_law_widths","_law_many","_law_triples","_law_table"] (defScope sLDue):=⟨rfl,rfl,rfl,by decide +kernel,rfl,by decide +kernel,by decide +kernel⟩
set_option maxHeartbeats 16000000 in
theorem ok_lDue {f f1 f2 f3:Addr} {fd d1 d2 d3:FuncData} (F:Fun K "_law_due" "_law_due" sLDue f fd) (N:Names mg)
  (G1:FnOk P w K mg base CX0 2 f1 d1 ["_law_pieces_here","_law_many","_law_triples","_law_table"] spRight) (b1:Binds K d1 ["_law_pieces_here","_law_many","_law_triples","_law_table"] []) (m1:mg "_law_are_right"=some (.ref f1)) (k1:PySem.W.keepIn K (.ref f1)=true)
  (G2:FnOk P w K mg base CX0 2 f2 d2 ["_law_pieces_here","_law_joint","_law_widths","_law_many","_law_triples"] spLCostG) (b2:Binds K d2 ["_law_pieces_here","_law_joint","_law_widths","_law_many","_law_triples"] []) (m2:mg "_law_cost"=some (.ref f2)) (k2:PySem.W.keepIn K (.ref f2)=true)
  (G3:FnOk P w K mg base CX0 3 f3 d3 ["_law_pieces_here","_law_joint","_law_widths","_law_table","_law_cost_here","_law_last"] spLShowsG) (b3:Binds K d3 ["_law_pieces_here","_law_joint","_law_widths","_law_table","_law_cost_here","_law_last"] []) (m3:mg "_law_shows"=some (.ref f3)) (k3:PySem.W.keepIn K (.ref f3)=true):FnOk P w K mg base CX0 4 f fd ["_law_pieces_here","_law_joint","_law_widths","_law_many","_law_triples","_law_table"] spDue:=by
 refine F.ok scLDue (fun vs H Q E h=>?_) (fun cdv A outer s H vs Q E hr h=>?_)
 ·obtain ⟨l,wl,v,u,ws,jt,wd,m,e,_⟩:=h
  rw [e]
  rfl
 ·obtain ⟨l,wl,v,u,ws,jt,wd,m,e,hp,hs,hn,hw,hwo,hm,hv,hu,kT,kF⟩:=h
  subst e
  have hr2:=hr.mono (j:=2) (by decide)
  have hr3:=hr.mono (j:=3) (by decide)
  refine ⟨_,pss_cons (ps_if (pt_not (pt_val (pe_call G1 hr2 (by rfl) m1 k1 b1 .nil pass0 (pa_cons (pv 0) (pa_cons (pv 3) (pa_cons (pv 4) (pa_cons (pv 5) pa_nil))))))) (pss_one (ps_ret pe_bl)) pss_nil)
   (pss_cons (ps_set (i:=6) scLDue.nd rfl (Or.inl rfl) (pe_call G2 hr2 (by rfl) m2 k2 b2 .nil pass0 (pa_cons (pv 0) (pa_cons (pv 1) (pa_cons (pv 2) (pa_cons (pv 3) (pa_cons (pv 4) pa_nil)))))))
   (pss_cons (ps_if (pt_cmpR op_isN (pv 6) pe_non (nomark _)) (pss_one (ps_ret pe_bl)) pss_nil)
   (pss_cons (ps_set (i:=7) scLDue.nd rfl (Or.inl rfl) pe_non)
   (pss_cons (ps_if (pt_cmpR op_gt (pe_callB call_len_seq (by rfl) N.len PySem.boot_len (pa_cons (pv 4) pa_nil)) pe_int (nomark _)) (pss_one (ps_set (i:=7) scLDue.nd rfl (Or.inl rfl) (pe_ix ix_tup (pe_ix ix_list (pv 4) (pe_un un_neg pe_int) (fun _ _=>rfl)) pe_int (fun _ _=>rfl)))) pss_nil)
   (pss_one (ps_ret (pe_call G3 hr3 (by rfl) m3 k3 b3 .nil pass0 (pa_cons (pv 0) (pa_cons (pv 1) (pa_cons (pv 2) (pa_cons (pv 5) (pa_cons (pv 6) (pa_cons (pv 7) pa_nil))))))))))))),?_⟩
  try rw [show (cxOf CX0 P w K mg base nLDue "_law_due" (defScope sLDue) f cdv A outer s H E).nox.K=K from rfl]
  refine seq_abs fun N1 hN=>?_
  refine ⟨_,rfl,_,rfl,_,rfl,_,rfl,l,ws,m,v,u,rfl,hp,hv,hu,fun h1 h2 H1 s1=>?_,fun h1 H1 s1=>?_⟩
  ·refine ⟨_,rfl,iteF ?_⟩
   obtain ⟨lt,ts,rfl,hT⟩:=right_tr h1
   obtain ⟨tb,tbl,rfl,hB,hlen,hR⟩:=right_tab h2
   clear h1 h2
   refine hN _ _ ?_
   clear hN N1
   have hp1:=hp.same s1
   have hw1:=s1 _ _ hw
   have hT1:TrG H1 lt ts:=by
    obtain ⟨as,a1,a2,a3⟩:=hT
    exact ⟨as,s1 _ _ a1,a2,fun k p t e1 e2=>s1 _ _ (a3 k p t e1 e2)⟩
   have hB1:=hB.same s1
   refine seq_abs fun N1 hN=>?_
   refine ⟨_,rfl,_,rfl,_,rfl,_,rfl,_,rfl,l,wl,lt,ws,jt,wd,m,ts,rfl,hp1,hs,hn,hw1,hwo,hm,hT1,fun tr hG=>?_,fun hno=>?_⟩
   ·refine hN _ _ ?_
    clear hN N1
    obtain ⟨rfl,hV,hrow,hpl⟩:=hG
    refine seq_abs fun N1 hN=>?_
    refine ⟨_,rfl,rfl,_,rfl,iteC (decide_eq_false (by intro z; cases z)) ?_⟩
    refine hN _ _ ?_
    clear hN N1
    refine seq_abs fun N1 hN=>?_
    show N1 _ _
    refine hN _ _ ?_
    clear hN N1
    obtain ⟨as,a1,a2,a3⟩:=hT1
    rw [List.length_map] at a2
    have hfin:∀ H2,Same H H2→(ShowsG ws jt wd m tbl (stR ws jt wd tr).2.2 (lastV tr)→Q (.bl true) H2)∧(¬ ShowsG ws jt wd m tbl (stR ws jt wd tr).2.2 (lastV tr)→Q (.bl false) H2):=fun H2 s2=>by
     have hif:=shows_iff (H:=H) (v:=.ref lt) (u:=.ref tb) rfl rfl hT hB hV hrow hpl hlen hR
     refine ⟨fun z=>?_,fun z=>kF (fun tr' tbl' R' g=>z ?_) H2 s2⟩
     ·obtain ⟨R,g⟩:=hif.mp z
      exact kT tr tbl R g H2 s2
     ·have e1:=map_trI_inj (g.back (H':=H) rfl rfl hT)
      subst e1
      obtain ⟨tb',e2,hB'⟩:=g.u
      cases e2
      have e3:=tab_uniq hB hB'
      subst e3
      exact hif.mpr ⟨R',g⟩
    have last:∀ (σv:V),σv=lastV tr→(σv=.non ∨ ∃ R:Int,σv=.int R):=fun σv e=>by
     rw [e]
     unfold lastV
     split
     ·exact .inl rfl
     ·exact .inr ⟨_,rfl⟩
    refine seq_abs fun N1 hN=>?_
    refine ⟨_,rfl,lt,_,rfl,.inl (SqL.of a1),_,_,rfl,rfl,_,rfl,ite2 (fun hq=>?_) (fun hq=>?_)⟩
    ·have hq2:0 < tr.length:=by
      have:=of_decide_eq_true hq
      rw [List.length_map] at this
      omega
     have hlt:tr.length - 1 < as.length:=by omega
     have ex:(as.map V.ref)[(as.map V.ref).length - 1]?=some (V.ref as[tr.length - 1]):=by
      rw [List.length_map,a2,List.getElem?_map,List.getElem?_eq_getElem hlt]
      rfl
     have et:(tr.map trI)[tr.length - 1]?=some (trI tr[tr.length - 1]):=by rw [List.getElem?_map,List.getElem?_eq_getElem (by omega)]; rfl
     have hA:=a3 _ _ _ (List.getElem?_eq_getElem hlt) et
     refine ⟨_,rfl,_,rfl,lt,_,_,_,rfl,rfl,SqL.of a1,atI_lst ex,_,_,_,_,rfl,rfl,SqT.of hA,atI_nat (j:=0) rfl,?_⟩
     refine hN _ _ ?_
     clear hN N1
     have elast:V.int (trI tr[tr.length - 1]).1=lastV tr:=by
      unfold lastV
      rw [List.getLast?_eq_getElem?,List.getElem?_eq_getElem (by omega)]
      rfl
     obtain ⟨z1,z2⟩:=hfin H1 s1
     refine ⟨_,rfl,_,rfl,_,rfl,_,rfl,_,rfl,_,rfl,l,wl,tb,ws,jt,wd,m,_,lastV tr,tbl,by rw [← elast]; rfl,hp1,hs,hn,hw1,hwo,hB1,hlen,hm,hR,last _ rfl,z1,z2⟩
    ·have hq2:tr=[]:=by
      cases tr with
      | nil=>rfl
      | cons _ _=>exact absurd (decide_eq_true (by rw [List.length_map,a2,List.length_cons]; omega)) hq
     refine hN _ _ ?_
     clear hN N1
     have elast:V.non=lastV tr:=by rw [hq2]; rfl
     obtain ⟨z1,z2⟩:=hfin H1 s1
     refine ⟨_,rfl,_,rfl,_,rfl,_,rfl,_,rfl,_,rfl,l,wl,tb,ws,jt,wd,m,_,lastV tr,tbl,by rw [← elast]; rfl,hp1,hs,hn,hw1,hwo,hB1,hlen,hm,hR,last _ rfl,z1,z2⟩
   ·refine hN _ _ ?_
    clear hN N1
    refine ⟨_,rfl,rfl,_,rfl,iteB (decide_eq_true rfl) ?_⟩
    refine kF (fun tr tbl R g=>?_) H1 s1
    exact hno tr ⟨g.back (H':=H) rfl rfl hT,g.v,g.rows,g.pl⟩
  ·refine ⟨_,rfl,iteT ?_⟩
   refine kF (fun tr tbl R g=>?_) H1 s1
   obtain ⟨z1,z2⟩:=good_right g
   exact h1.elim (fun z=>z z1) (fun z=>z z2)
end
end B64
namespace L2
open PySem PySem.Spec PyProof.Rows
abbrev Cx.compN (X:Cx) (N':List Str) (scope:Scope) (cl:List (Str × Addr)) (C:Addr) (fp:List Addr) (s:Shared) (H:Hp):Cx :=
 { X with N:=N',s₀:=s,H₀:=H,env:=compEnvC scope cl C X.env,outer:=X.stack,ex:=fp,fn:=fun _=>false,pn:=[],xe:=fun _ _=>False }
structure CompScN (X:Cx) (k:Nat) (N':List Str) (scope:Scope):Prop where
 kind:scope.kind=.function
 cell:∀ y ∈ scope.names,y.2 ≠ .cell
 names:∀ y ∈ scope.names,y.2=.local→scope.names.lookup y.1=some .local
 free:∀ y ∈ scope.names,y.2=.free→X.env.kindOf y.1=some .cell ∨ X.env.kindOf y.1=some .free
 len:N'.length=k + X.N.length
 cap:∀ i y,N'[k + i]?=some y→(X.N[i]?=some y∧capOk scope X.env y=true) ∨ scope.names.lookup y=none
theorem compN_inv {X:Cx} {k:Nat} {N':List Str} {scope:Scope} {cl:List (Str × Addr)} {fp:List Addr} {pins:List (Addr × Obj)} {σ:St} {H:Hp} {s:Shared} {h':Heap} {tk:Nat} {m:Str→Option Value} (S:CompScN X k N' scope) (I:Inv X pins σ H s)
  (hns:h'.Ns s.heap.objs.size m) (hk:∀ b o,s.heap.get? b=some o→h'.get? b=some o) (hf:∀ b ∈ fp,FpOk X pins H b) (ho:∀ b ∈ fp,∃ o,s.heap.get? b=some o)
  (hsub:∀ y c,cl.lookup y=some c→X.env.cells.lookup y=some c) (hall:∀ y ∈ scope.names,y.2=.free→∃ c,cl.lookup y.1=some c) :
  Inv (X.compN N' scope cl s.heap.objs.size fp s H) (X.pn ++ pins) (List.replicate k none ++ σ) H { s with heap:=h',toks:=tk }:=by
 refine ⟨⟨I.ok.mod,S.kind,I.ok.glob,I.ok.blt,Nat.le_refl _,fun y z c h1 h2=>I.ok.inj y z c (hsub y c h1) (hsub z c h2),fun y hy=>?_,fun y c hfn=>absurd hfn Bool.false_ne_true,I.ok.hd,I.ok.frames,.inl rfl,fun b hb=>⟨?_,fun y c e=>(hf b hb).2.2.2.2.1 y c (hsub y c e)⟩,
  I.bs,Nat.le_trans I.ok.bsz I.sz,fun b o e hb=>?_,fun b hb hs=>?_,I.stack,I.stkFree⟩,rfl,I.bare,Un.kept hk,⟨m,hns,fun i y v e1 e2 e3=>?_⟩,fun y c e=>?_,I.fresh,fun y c e=>I.freeC y c (hsub y c e),fun p hp=>?_,I.hok.kept hk,?_⟩
 ·have hy':∃ k,(k=NameKind.cell ∨ k=NameKind.free)∧(relabel scope X.env).names.lookup y=some k:=by
   rcases hy with z | z
   ·exact ⟨_,.inl rfl,z⟩
   ·exact ⟨_,.inr rfl,z⟩
  obtain ⟨k,hk',e⟩:=hy'
  obtain ⟨k0,e0,r⟩:=rel_look e
  have kf:k0=.free:=by
   rcases r with r | r
   ·subst r
    rcases hk' with z | z
    ·subst z
     exact absurd rfl (S.cell _ (PySem.mem_of_lookup e0))
    ·exact z
   ·exact r.1
  subst kf
  exact hall (y,.free) (free_mem e0) rfl
 ·obtain ⟨o,e⟩:=ho b hb
  exact Nat.ne_of_lt (Heap.lt_size e)
 ·rcases (hf b hb).2.2.2.1 with z | z
  ·exact I.ok.noex b o e z
  ·exact absurd (Nat.lt_of_lt_of_le (Heap.lt_size e) (Nat.le_trans I.ok.bsz z)) (Nat.lt_irrefl _)
 ·rcases List.mem_cons.mp (I.stkSub b hs) with z | z
  ·exact (hf b hb).2.1 z
  ·exact (hf b hb).2.2.1 z
 ·have e1q:N'[i]?=some y:=e1
  by_cases hik:i < k
  ·rw [List.getElem?_append_left (by simpa using hik),List.getElem?_replicate] at e2
   rw [if_pos hik] at e2
   cases e2
  obtain ⟨i,rfl⟩:∃ d,i=k + d:=⟨i - k,by omega⟩
  have e2':σ[i]?=some (some v):=by
   rw [List.getElem?_append_right (by simp)] at e2
   simpa using e2
  have hvis:∃ k,(relabel scope X.env).names.lookup y=some k:=by
   rcases e3 with z | z | z
   ·exact ⟨_,z⟩
   ·exact ⟨_,z⟩
   ·exact ⟨_,z⟩
  obtain ⟨k,ek⟩:=hvis
  obtain ⟨k0,e0,r⟩:=rel_look ek
  rcases S.cap i y e1q with ⟨e1',hc⟩ | z0
  case inr=>rw [z0] at e0; cases e0
  unfold capOk at hc
  rw [e0] at hc
  have kf:k0=.free:=by cases k0 <;> simp_all
  subst kf
  have hkk:X.env.kindOf y=some .cell ∨ X.env.kindOf y=some .free:=by simpa using hc
  obtain ⟨m0,hn0,hl0⟩:=I.loc
  obtain ⟨u,ru,l⟩:=hl0 i y v e1' e2' (.inr hkk)
  refine ⟨u,ru,.inr ?_⟩
  obtain ⟨c',hc'⟩:=hall (y,.free) (free_mem e0) rfl
  rcases l with ⟨z,_⟩ | ⟨_,c,ec,⟨o,ho',hd'⟩⟩
  ·rcases hkk with q | q <;> rw [z] at q <;> cases q
  ·have e4:=hsub y c' hc'
   rw [ec] at e4
   have e5:c=c':=Option.some.inj e4
   subst e5
   refine ⟨?_,c,hc',o,hk _ _ ho',hd'⟩
   rcases r with r | r
   ·subst r
    exact .inr ek
   ·obtain ⟨_,r⟩:=r
    subst r
    exact .inl ek
 ·obtain ⟨v,o,ho',hd'⟩:=I.cell y c (hsub y c e)
  exact ⟨v,o,hk _ _ ho',hd'⟩
 ·have hp':p ∈ X.pn ++ pins:=by simpa using hp
  obtain ⟨e,n,ne,nf,d⟩:=I.pin p hp'
  refine ⟨hk _ _ e,n,Nat.ne_of_lt (Heap.lt_size e),fun z=>?_,d⟩
  rcases List.mem_cons.mp (I.stkSub p.1 z) with q | q
  ·exact ne q
  ·exact nf q
 ·show (List.replicate k none ++ σ).length=N'.length
  rw [S.len,List.length_append,List.length_replicate,I.len]
def CompGoN (J:It) (H1:Hp) (k:Nat) (σ:St) (g:TG) (tt:TT) (te:TE) (Q:VK):Prop:=∀ D,H1 D=none→∃ W:Nat→Nat→Hp→Prop,(∃ m,W 0 m (upd H1 D (.lst [])))∧∀ i m H,W i m H →
 (J.stop i H∧Q (.ref D) H) ∨ (J.go i H∧∀ x H' ρ,ρ.length=k→J.yld i H x H'→g x (ρ ++ σ) H' fun σ2 H2=>(∃ ρ2:St,ρ2.length=k∧σ2=ρ2 ++ σ)∧tt σ2 H2 fun b H3=>if b=true then te σ2 H3 fun y H4=>∃ ys,H4 D=some (.lst ys)∧ys.length < sizeLine∧∃ m',m' < m∧W (i + 1) m' (upd H4 D (.lst (ys ++ [y])))
  else ∃ m',m' < m∧W (i + 1) m' H3)
def tCompN (wi:TI) (k:Nat) (g:TG) (tt:TT) (te:TE):TE:=fun σ H Q=>wi σ H fun J H1=>CompGoN J H1 k σ g tt te Q
section
variable {X:Cx} {k:Nat} {N':List Str} {tg:Expr} {pos:Pos} {elt iter:Expr} {ifs:List Expr} {scope:Scope} {wi:TI} {g:TG} {tt:TT} {te:TE}
theorem compN_core {pins:List (Addr × Obj)} {σ:St} {H2:Hp} {s2:Shared} {it:Addr} {fp:List Addr} {tn:Nat→Heap→Prop} {J:It} {Q:VK} {cl:List (Str × Addr)} {E:Value→Shared→Prop} {RR:Value→Addr→Result→Shared→Prop}
  (S:CompScN X k N' scope) (hcal:X.calm=true) (hclos:(∀ y c,cl.lookup y=some c→X.env.cells.lookup y=some c)∧∀ y ∈ scope.names,y.2=.free→∃ c,cl.lookup y.1=some c)
  (hg:∀ cl C fp s H,PG (X.compN N' scope cl C fp s H) tg g) (ht:∀ cl C fp s H,PTs (X.compN N' scope cl C fp s H) ifs tt) (he:∀ cl C fp s H,PE (X.compN N' scope cl C fp s H) elt te)
  (I2:Inv X pins σ H2 s2) (T:Turn X.prog X.w X.K tg J fp it tn) (st2:tn 0 s2.heap) (f2:∀ b ∈ fp,FpOk X pins H2 b)
  (q:CompGoN J H2 k σ g tt te Q)
  (hRR:∀ D C s' H' m',Inv X pins σ H' s'→s'.heap.Ns C m'→FpOk X pins H' C→Q (.ref D) H'→RR (.ref D) C (.ok .next) s') :
  wpAny (model X.prog X.w) X.A (newList []) (fun acc s3=>wpAny (model X.prog X.w) X.A (newFunctionEnv scope X.env.globals cl [] X.env.qual none .none (some X.env)) (fun cenv s4 =>
   codeAny (model X.prog X.w) X.A (.compStart (.ListComp elt [⟨tg,iter,ifs,0⟩] scope pos) 0 (.ref it) acc { cenv with scope:=relabel scope X.env }) (RR acc cenv.locals) s4) E s3) E s2:=by
 obtain ⟨hsub,hall⟩:=hclos
 refine wpAny_newObj_type (wpAny_newFunctionEnv S.cell (by intro y hy; simp at hy) (fun h1 hns hsb=>?_) S.kind)
 have I3:Inv X pins σ (upd H2 s2.heap.objs.size (.lst [])) { s2 with heap:=s2.heap.push { cls:=.type "list",data:=.seq ([]:List Value).toArray } }:=I2.lnew (t':=s2.toks) .nil (by simp)
 have hD:H2 s2.heap.objs.size=none:=I2.fresh
 obtain ⟨W,⟨m0,w0⟩,turn⟩:=q _ hD
 generalize hs3:({ s2 with heap:=s2.heap.push { cls:=.type "list",data:=.seq ([]:List Value).toArray } }:Shared)=s3 at I3
 have hs3':({ s2 with heap:=s2.heap.push { cls:=.type "list",dict:=none,data:=.seq ([]:List Value).toArray } }:Shared)=s3:=hs3
 dsimp only at hns hsb ⊢
 generalize hDD:s2.heap.objs.size=D at *
 have eh:s2.heap.push { cls:=.type "list",dict:=none,data:=.seq ([]:List Value).toArray }=s3.heap:=by rw [← hs3]
 rw [eh] at hns hsb
 have keep:∀ b o,s3.heap.get? b=some o→h1.get? b=some o:=fun b o e=>hsb.extBut b o (Nat.ne_of_lt (Heap.lt_size e)) (Heap.get?_push_of_some _ e)
 have objs:∀ b ∈ fp,∃ o,s3.heap.get? b=some o:=fun b hb=>by
  obtain ⟨o,e,_⟩:=T.obj _ _ st2 b hb
  rw [← eh]
  exact ⟨o,Heap.get?_push_of_some _ e⟩
 have f3:∀ b ∈ fp,FpOk X pins (upd H2 D (.lst [])) b:=fun b hb=>by
  obtain ⟨o,e,_⟩:=T.obj _ _ st2 b hb
  have ne:b ≠ D:=by rw [← hDD]; exact Nat.ne_of_lt (Heap.lt_size e)
  exact ⟨by rw [upd_ne ne]; exact (f2 b hb).1,(f2 b hb).2⟩
 have I4:Inv (X.compN N' scope cl s3.heap.objs.size fp s3 (upd H2 D (.lst []))) (X.pn ++ pins) (List.replicate k none ++ σ) (upd H2 D (.lst [])) { s3 with heap:=h1,toks:=s3.toks + ([]:List (Str × Value)).length }:=compN_inv S I3 hns keep f3 objs hsub hall
 have st4:tn 0 h1:=T.keep _ _ _ st2 fun b hb o e=>keep b o (by rw [← eh]; exact Heap.get?_push_of_some _ e)
 -- what stays true of the iterator's objects
 have stat:∀ {H':Hp},(∀ b ∈ fp,H' b=none)→∀ b ∈ fp,FpOk (X.compN N' scope cl s3.heap.objs.size fp s3 (upd H2 D (.lst []))) (X.pn ++ pins) H' b:=fun hn b hb=>by
  refine ⟨hn b hb,(I4.ok.exf b hb).1,I4.ok.exfs b hb,.inl hb,(I4.ok.exf b hb).2,fun p hp=>(f3 b hb).2.2.2.2.2 p (by simpa using hp)⟩
 have loop:codeAny (model X.prog X.w) X.A (.compLoop (.ListComp elt [⟨tg,iter,ifs,0⟩] scope pos) 0 (.ref it) (.ref D) (compEnvC scope cl s3.heap.objs.size X.env)) (RR (.ref D) s3.heap.objs.size) { s3 with heap:=h1,toks:=s3.toks + ([]:List (Str × Value)).length }:=by
  refine comp_loop_go (fun n s'=>∃ i ρ H',Inv (X.compN N' scope cl s3.heap.objs.size fp s3 (upd H2 D (.lst []))) (X.pn ++ pins) (ρ ++ σ) H' s'∧ρ.length=k∧tn i s'.heap∧(∀ b ∈ fp,H' b=none)∧W i n H') ?_ m0
   ⟨0,_,_,I4,by simp,st4,fun b hb=>(f3 b hb).1,w0⟩
  rintro n s5 ⟨i,ρ,H5,I5,lρ,st5,fr5,w5⟩
  rcases turn i n H5 w5 with ⟨stop,qn⟩ | ⟨go,step⟩
  ·refine thn (T.done (X.compN N' scope cl s3.heap.objs.size fp s3 (upd H2 D (.lst []))) rfl rfl rfl hcal i _ s5 _ H5 _ I5 (stat fr5) st5 stop) fun r s6 ⟨hr,I6⟩=>?_
   subst hr
   obtain ⟨m6,hn6,_⟩:=I6.loc
   have I7:Inv X pins σ H5 s6:=I3.call' (ch:=fp) I6.os I6.base I6.hok I6.bare fun b hb=>⟨(f3 b hb).2.2.2.1,(f3 b hb).2.1,(f3 b hb).2.2.2.2.1,(f3 b hb).2.2.2.2.2⟩
   exact hRR D s3.heap.objs.size s6 H5 m6 I7 hn6 (I3.fpOk (Nat.le_refl _) I6.free) qn
  ·refine thn (T.item (X.compN N' scope cl s3.heap.objs.size fp s3 (upd H2 D (.lst []))) rfl rfl rfl hcal i _ s5 _ H5 _ I5 (stat fr5) st5 go) fun r s6 ⟨u,hr,h6⟩=>?_
   subst hr
   refine thn h6 fun _ s7 ⟨y,H7,I7,r7,y7,st7,fr7⟩=>?_
   have I7':=I7.pinned (stat fr7) (T.obj _ _ st7)
   refine thn (hg _ _ _ _ _ _ s7 (ρ ++ σ) H7 y u _ I7' r7 (step y H7 ρ lρ y7)) fun _ s8 ⟨σ8,H8,I8,⟨ρ2,l2,e8⟩,q8⟩=>?_
   subst e8
   refine thn (ht _ _ _ _ _ _ s8 _ H8 _ I8 q8) fun ok s9 ⟨H9,I9,q9⟩=>?_
   have back:∀ {H':Hp} {s':Shared} {m':Nat},Inv (X.compN N' scope cl s3.heap.objs.size fp s3 (upd H2 D (.lst []))) (X.pn ++ pins ++ pinsAt fp s7.heap) (ρ2 ++ σ) H' s'→m' < n→W (i + 1) m' H' →
     ∃ m,m < n∧∃ i ρ H',Inv (X.compN N' scope cl s3.heap.objs.size fp s3 (upd H2 D (.lst []))) (X.pn ++ pins) (ρ ++ σ) H' s'∧ρ.length=k∧tn i s'.heap∧(∀ b ∈ fp,H' b=none)∧W i m H':=fun {H' s' m'} I' hm w'=>by
    have pin:∀ b o,b ∈ fp→s7.heap.get? b=some o→s'.heap.get? b=some o∧H' b=none:=fun b o hb e=>by
     have z:=I'.pin (b,o) (List.mem_append_right _ (List.mem_append_right _ (mem_pinsAt hb e)))
     exact ⟨z.1,z.2.1⟩
    refine ⟨m',hm,i + 1,ρ2,H',I'.unpinned,l2,T.keep _ _ _ st7 fun b hb o e=>(pin b o hb e).1,fun b hb=>?_,w'⟩
    obtain ⟨o',e,_⟩:=T.obj _ _ st7 b hb
    exact (pin b o' hb e).2
   cases ok with
   | false =>
    rw [if_neg Bool.false_ne_true] at q9 ⊢
    obtain ⟨m',hm,w'⟩:=q9
    exact back I9 hm w'
   | true =>
    rw [if_pos rfl] at q9 ⊢
    refine thn (he _ _ _ _ _ _ s9 _ H9 _ I9 q9) fun v s10 ⟨z,H10,I10,r10,q10⟩=>?_
    obtain ⟨ys,e10,l10,m',hm,w'⟩:=q10
    refine thn (mt_append _ s10 _ H10 (.ref D) [z] (.ref D) [v] (fun _ H'=>H'=upd H10 D (.lst (ys ++ [z]))) I10 rfl (.cons r10 .nil) ⟨D,ys,z,rfl,rfl,e10,l10,rfl⟩) fun _ s11 ⟨_,H11,I11,_,e11⟩=>?_
    subst e11
    exact back I11 hm w'
 exact codeAny_compStart_list loop (T.self _ 0 _ _ _ st4 loop)
theorem pe_compN (S:CompScN X k N' scope) (hcal:X.calm=true) (hi:PI X tg iter wi) (hg:∀ cl C fp s H,PG (X.compN N' scope cl C fp s H) tg g) (ht:∀ cl C fp s H,PTs (X.compN N' scope cl C fp s H) ifs tt) (he:∀ cl C fp s H,PE (X.compN N' scope cl C fp s H) elt te)
  (hs:∀ x,foldedSetIterable iter X.env x=pure x:=by intro _; rfl):PE X (.ListComp elt [⟨tg,iter,ifs,0⟩] scope pos) (tCompN wi k g tt te):=by
 intro pins s σ H Q I h
 obtain ⟨cl,hcl,hc⟩:=clos_ok (env:=X.env) (scope:=scope) fun y hy hf=>I.ok.has y.1 (S.free y hy hf)
 rw [eval_ListComp]
 refine wpAny_comprehension_free (use:=none) rfl hs hcl S.kind S.names (thn (hi pins s σ H _ I h) fun xv s1 h1=>thn h1 fun itv s2 h2=>?_)
 obtain ⟨it,fp,tn,J,H2,e,I2,T,st2,f2,q⟩:=h2
 subst e
 refine compN_core (RR:=fun acc C=>compPost (model X.prog X.w) X.A X.xe none (EP X pins σ Q) acc C) S hcal hc hg ht he I2 T st2 f2 q ?_
 intro D C s' H' m' I' hn F' hq
 exact ⟨m',hn,fun h' sb=>⟨.ref D,H',I'.turned (t':=s'.toks) (fun b o hb e=>(sb.2 b hb).trans e) F'.1 F'.2.1 F'.2.2.2.1 F'.2.2.2.2.1 F'.2.2.2.2.2,rfl,hq⟩⟩
end
def compChkN (fs:Scope) (N:List Str) (k:Nat) (N':List Str) (scope:Scope):Bool :=
 decide (scope.kind=.function) && scope.names.all (fun y=>decide (y.2 ≠ .cell)) && scope.names.all (fun y=>decide (y.2=.local→scope.names.lookup y.1=some .local)) &&
 scope.names.all (fun y=>decide (y.2=.free→fs.names.lookup y.1=some .cell ∨ fs.names.lookup y.1=some .free)) && decide (N'.length=k + N.length) &&
 (List.range N.length).all (fun i=>match N'[k + i]?,N[i]? with
  | some y,some z=>(match scope.names.lookup y with
   | none=>true
   | some .free=>decide (y=z) && decide (fs.names.lookup y=some .cell ∨ fs.names.lookup y=some .free)
   | some _=>false)
  | _,_=>false)
theorem compScN_mk {X:Cx} {k:Nat} {N':List Str} {scope fs:Scope} {N:List Str} (hs:X.env.scope=fs) (hN:X.N=N) (c:compChkN fs N k N' scope=true):CompScN X k N' scope:=by
 subst hs hN
 unfold compChkN at c
 simp only [Bool.and_eq_true,List.all_eq_true,decide_eq_true_eq] at c
 obtain ⟨⟨⟨⟨⟨c1,c2⟩,c3⟩,c4⟩,c5⟩,c6⟩:=c
 refine ⟨c1,c2,c3,c4,c5,fun i y hy=>?_⟩
 have hi:k + i < N'.length:=(List.getElem?_eq_some_iff.mp hy).1
 have hi2:i < X.N.length:=by omega
 have q:=c6 i (List.mem_range.mpr hi2)
 rw [hy,List.getElem?_eq_getElem hi2] at q
 dsimp only at q
 unfold capOk
 cases e:scope.names.lookup y with
 | none=>exact .inr rfl
 | some kd =>
  rw [e] at q
  cases kd with
  | free =>
   have q2:y=X.N[i]∧(X.env.scope.names.lookup y=some .cell ∨ X.env.scope.names.lookup y=some .free):=by simpa using q
   refine .inl ⟨by rw [List.getElem?_eq_getElem hi2,q2.1],?_⟩
   show (X.env.kindOf y == some .cell || X.env.kindOf y == some .free)=true
   have e2:X.env.kindOf y=X.env.scope.names.lookup y:=rfl
   rw [e2]
   rcases q2.2 with z | z <;> rw [z] <;> rfl
  | _=>simp at q
end L2
namespace L2
open PySem PySem.Spec PyProof.Rows
section
variable {X:Cx} {pins:List (Addr × Obj)} {σ:St} {H:Hp} {s:Shared} {h':Heap}
end
section
variable {X:Cx} {es:List Expr} {kk:Nat} {pt:Pos}
end
end L2
namespace L2
open PySem PySem.Spec PyProof.Rows
def Itrs (lo c:Int) (n:Nat):It:=⟨fun i _=>i < n,fun i H x H'=>H'=H∧x=.int (lo + i * c),fun i _=>n ≤ i⟩
theorem turn_rangeS {P:Program} {w:World} {K:PySem.W.Frag} {tg:Expr} (it:Addr) (lo c:Int) (n:Nat):Turn P w K tg (Itrs lo c n) [it] it (fun i h=>IsRangeIter h it (lo + (i:Nat) * c) ((n:Int) - (i:Nat)) c) where
 mem:=by simp
 obj:=fun i h st b hb=>by
  have e:b=it:=by simpa using hb
  subst e
  exact ⟨_,st,fun v z=>by
   have z':Data.fields _=Data.cell v:=z
   cases z'⟩
 keep:=fun i h h' st k=>k it (by simp) _ st
 item:=by
  intro X hP hw hK hc i pins s σ H E I hf st hg
  subst hP hw hK
  obtain ⟨f0,f1,f2,f3,f4,f5⟩:=hf it (by simp)
  have W:=Walks.range (prog:=X.prog) (w:=X.w) (I.ok.hd hc) it lo c n
  refine W.item i s _ _ hg st fun v h' tk hv st' kk=>?_
  obtain ⟨t,rfl⟩:=hv
  have I1:Inv X pins σ H { s with heap:=h',toks:=tk }:=I.turned (fun b o hb e=>kk b o (by simpa using hb) e) f0 f1 f3 f4 f5
  exact ⟨_,rfl,go_of (s:={ s with heap:=h',toks:=tk }) (n:="range_iterator") st' rfl rfl (by decide) ⟨.int (lo + i * c),H,I1,⟨t,rfl⟩,⟨rfl,rfl⟩,st',fun b hb=>(hf b hb).1⟩⟩
 done:=by
  intro X hP hw hK hc i pins s σ H E I hf st hg
  subst hP hw hK
  obtain ⟨f0,f1,f2,f3,f4,f5⟩:=hf it (by simp)
  exact wpAny_pyNext_range_end (I.ok.hd hc) st (by have:n ≤ i:=hg; omega) fun h' eb=>⟨rfl,I.turned (t':=s.toks) (fun b o hb e=>eb b o hb e) f0 f1 f3 f4 f5⟩
 self:=fun _ _ _ _ _ st h=>wpAny_pyIter_rangeiter st h
section
variable {X:Cx} {tg:Expr}
def iRng3 (ta:TA):TI:=fun σ H R=>ta σ H fun vs H1=>∃ (i j c:Int) (n:Nat),vs=[.int i,.int j,.int c]∧c ≠ 0∧Builtin.divisionGoesByPylong (j - i) c=false∧Builtin.Range.small i j c=true∧Builtin.Range.rangeSize i j c=(n:Int)∧R (Itrs i c n) H1
theorem pi_range3 {a b d:Expr} {ta:TA} {p pos:Pos} (hg:Gl X "range") (hm:X.mg "range"=none) (ha:PA X [a,b,d] ta) (hs:starEach [a,b,d] X.env=[(false,eval a X.env),(false,eval b X.env),(false,eval d X.env)]:=by rfl) (hs2:starEach [b,d] X.env=[(false,eval b X.env),(false,eval d X.env)]:=by rfl) :
  PI X tg (.Call (.Name "range" p) [a,b,d] [] pos) (iRng3 ta):=by
 intro pins s σ H R I h
 refine Call_ (ld_blt I hg hm boot_range (PyProof.Rows.callWith_type1 (thn (ha pos pins s σ H _ I h) fun us s1 ⟨vs,H1,I1,r1,q1⟩=>?_) (by rw [hs,hs2]) (by rw [hs2]; rfl)))
 obtain ⟨i,j,c,n,e,c0,c1,c2,c3,q⟩:=q1
 subst e
 cases r1 with
 | cons r rr =>
  cases rr with
  | cons r' rr =>
   cases rr with
   | cons r'' rr =>
    cases rr
    obtain ⟨t,rfl⟩:=r
    obtain ⟨t',rfl⟩:=r'
    obtain ⟨t'',rfl⟩:=r''
    refine call_range_3 c0 ?_ (.inl c1)
    refine wpAny_pyIter_range (IsRange.new ..) c2 ?_
    have I2:Inv X pins σ H1 { s1 with heap:=s1.heap.push { cls:=.type "range",data:=.fields #[.int i t,.int j t',.int c t''] },toks:=s1.toks }:=I1.kept fun b o e=>Heap.get?_push_of_some _ e
    refine ⟨(s1.heap.push { cls:=.type "range",data:=.fields #[.int i t,.int j t',.int c t''] }).objs.size,[(s1.heap.push { cls:=.type "range",data:=.fields #[.int i t,.int j t',.int c t''] }).objs.size],_,_,H1,rfl,
     I2.kept (t':=s1.toks) fun b o e=>Heap.get?_push_of_some _ e,turn_rangeS _ i c n,?_,fun b hb=>?_,q⟩
    ·have e1:i + ((0:Nat):Int) * c=i:=by simp
     have e2:((n:Nat):Int) - ((0:Nat):Int)=Builtin.Range.rangeSize i j c:=by rw [c3]; simp
     show IsRangeIter _ _ (i + ((0:Nat):Int) * c) (((n:Nat):Int) - ((0:Nat):Int)) c
     rw [e1,e2]
     exact Heap.get?_push_size _ rfl
    ·have e:b=(s1.heap.push { cls:=.type "range",data:=.fields #[.int i t,.int j t',.int c t''] }).objs.size:=by simpa using hb
     subst e
     exact I2.fpOk (Nat.le_refl _) (I2.hok.fresh (Nat.le_refl _))
end
theorem for_rangeS {lo c:Int} {n:Nat} {g:TG} {tb:TS} {D:Ends} {σ:St} {H:Hp} (Pv:Nat→St→Hp→Prop) (h0:Pv 0 σ H)
  (hs:∀ i σ H,i < n→Pv i σ H→g (.int (lo + i * c)) σ H fun σ2 H2=>tb { D with nx:=Pv (i + 1),ct:=Pv (i + 1),bk:=D.nx } σ2 H2) (hd:∀ σ H,Pv n σ H→D.nx σ H) :
  ∃ W:Nat→Nat→St→Hp→Prop,(∃ m,W 0 m σ H)∧∀ i m σ H,W i m σ H →
   ((Itrs lo c n).stop i H∧D.nx σ H) ∨ ((Itrs lo c n).go i H∧∃ N:St→Hp→Prop,(∀ σ' H',N σ' H'→∃ m',m' < m∧W (i + 1) m' σ' H')∧∀ x H',(Itrs lo c n).yld i H x H'→g x σ H' fun σ2 H2=>tb { D with nx:=N,ct:=N,bk:=D.nx } σ2 H2):=by
 refine ⟨fun i m σ H=>m=n - i∧i ≤ n∧Pv i σ H,⟨n,by simp,Nat.zero_le _,h0⟩,?_⟩
 rintro i m σ H ⟨rfl,hi,p⟩
 by_cases hlt:i < n
 ·refine .inr ⟨hlt,Pv (i + 1),fun σ' H' p'=>⟨n - (i + 1),by omega,rfl,hlt,p'⟩,fun x H' y=>?_⟩
  obtain ⟨e1,e2⟩:=y
  subst e1 e2
  exact hs i σ _ hlt p
 ·have e:i=n:=by omega
  subst e
  exact .inl ⟨Nat.le_refl _,hd σ H p⟩
end L2
namespace L2
open PySem PySem.Spec PySem.W PyProof.Rows
theorem filterMap_some {α β:Type} {f:α→Option β} {g:α→β}:∀ {l:List α},(∀ k ∈ l,f k=some (g k))→l.filterMap f=l.map g
 | [],_=>rfl
 | a :: l,h=>by
  rw [List.filterMap_cons,h a List.mem_cons_self,filterMap_some fun k hk=>h k (List.mem_cons_of_mem _ hk)]
  rfl
theorem pick_rev (its:List Value):slicePick its.toArray none none (some (-1))=its.reverse.toArray:=by
 unfold slicePick
 congr 1
 have eb:sliceBounds none none (some (-1)) its.toArray.size=((its.length:Int) - 1,-1,-1):=by rw [List.size_toArray]; rfl
 rw [eb]
 have er:sliceRange ((its.length:Int) - 1) (-1) (-1)=(List.range its.length).map fun (k:Nat)=>((its.length:Int) - 1 + -1 * (k:Int)).toNat:=by
  unfold sliceRange
  dsimp only
  rw [if_neg (by decide)]
  congr 2
  by_cases h:its.length=0
  ·rw [if_neg (by omega)]; omega
  ·rw [if_pos (by omega)]
   have:(((its.length:Int) - 1 - -1 - -1 - 1) / (- -1))=(its.length:Int):=by
    have e1:(- -1:Int)=1:=rfl
    rw [e1,Int.ediv_one]
    omega
   rw [this]
   omega
 rw [er,List.filterMap_map]
 have hg:∀ k ∈ List.range its.length,((fun i:Nat=>its.toArray[i]?) ∘ fun (k:Nat)=>((its.length:Int) - 1 + -1 * (k:Int)).toNat) k=some (its.reverse.getD k Value.none):=fun k hk=>by
  have hk':=List.mem_range.mp hk
  show its.toArray[((its.length:Int) - 1 + -1 * (k:Int)).toNat]?=_
  have e:((its.length:Int) - 1 + -1 * (k:Int)).toNat=its.length - 1 - k:=by omega
  rw [e]
  simp [List.getD,List.getElem?_reverse hk']
  rw [List.getElem?_eq_getElem (by omega)]
  rfl
 rw [filterMap_some hg]
 apply List.ext_getElem?
 intro i
 by_cases hi:i < its.length
 ·rw [List.getElem?_map,List.getElem?_range hi]
  show some (its.reverse.getD i Value.none)=_
  rw [List.getD_eq_getElem?_getD,List.getElem?_eq_getElem (by rw [List.length_reverse]; exact hi)]
  rfl
 ·rw [List.getElem?_eq_none (by rw [List.length_map,List.length_range]; omega),List.getElem?_eq_none (by rw [List.length_reverse]; omega)]
section
variable {X:Cx} {e st:Expr} {te:TE} {tst:TO} {p2 pos:Pos}
def tRevL (K:PySem.W.Frag) (te:TE) (tst:TO):TE:=fun σ H Q=>te σ H fun x H1=>tst σ H1 fun c H2=>c=some (-1)∧∃ a xs,x=.ref a∧SqL K H2 a xs∧∀ p,H2 p=none→Q (.ref p) (upd H2 p (.lst xs.reverse))
theorem vals_rev:∀ {xs:List V} {us:List Value},Vals xs us→Vals xs.reverse us.reverse
 | [],_,.nil=>.nil
 | _ :: _,_,.cons h t=>by
  rw [List.reverse_cons,List.reverse_cons]
  exact (vals_rev t).append (.cons h .nil)
theorem pe_revL (he:PE X e te) (hs:PO X (some st) tst):PE X (.Subscript e (.Slice none none (some st) p2) pos) (tRevL X.K te tst):=by
 intro pins s σ H Q I h
 refine Subscript_ (thn (he pins s σ H _ I h) fun v s1 ⟨x,H1,I1,r1,q1⟩=>?_)
 refine wpAny_Slice ?_
 rw [evalPart_none]
 refine wpAny_pure (wpAny_pure ?_)
 refine thn (hs pins s1 σ H1 _ I1 q1) fun vs s2 ⟨c,H2,I2,pc,q2⟩=>?_
 obtain ⟨ec,a,xs,ex,hS,q⟩:=q2
 subst ec ex
 obtain rfl:v=Value.ref a:=r1
 have I4:Inv X pins σ H2 { s2 with heap:=s2.heap.push { cls:=.type "slice",data:=.fields #[.none,.none,vs] } }:=I2.kept (t':=s2.toks) fun b ob q=>Heap.get?_push_of_some _ q
 obtain ⟨its,r,ht,hz⟩:=I4.list hS
 have hlen:=r.length
 show wpAny (model X.prog X.w) X.A (subscriptTail e (.Slice none none (some st) p2) (.ref a) (.ref s2.heap.objs.size)) (EP X pins σ Q) X.xe { s2 with heap:=s2.heap.push { cls:=.type "slice",data:=.fields #[.none,.none,vs] } }
 refine tail_any (ops:=[.ref a,.ref s2.heap.objs.size]) ht.isList.typeIs slot_list_getitem.lookup ?_ (by with_unfolding_all rfl)
 refine wpAny_getItem_list_slice ht.isList (Heap.IsSliceOf.new ..) .none .none pc (by decide) ?_ (by rw [List.size_toArray] <;> omega)
 rw [pick_rev]
 refine ⟨.ref _,_,I4.laid (t':=s2.toks) (o:=.lst xs.reverse) (fun b ob q=>Heap.get?_push_of_some _ q) (Nat.le_refl _) ?_,rfl,q _ (I4.hok.fresh (Nat.le_refl _))⟩
 exact ⟨by rw [List.length_reverse]; exact hz,_,0,vals_rev r,Heap.get?_push_size _ rfl⟩
end
end L2
namespace B64
open PySem L2
def spStepC:Sp:=fun vs H Q _=>∃ (l:Addr) (ws:List (List Str)) (jt:Int) (wd:List Int) (r i j:Nat),vs=[.ref l,.int jt,.int (wAt wd r),.int (i:Int),.int (j:Int)]∧PcsAt H l ws ws.flatten.length∧Short ws∧ws.flatten.length ≤ 1000∧WideOk wd∧i < j∧j ≤ ws.flatten.length∧(fitB ws wd r i j=true→Q (.int (costOf ws jt wd r i j)) H)∧(fitB ws wd r i j=false→Q .non H)
def spAhead:Sp:=fun vs H Q _=>∃ (l cl:Addr) (ws:List (List Str)) (jt:Int) (wd:List Int) (r p:Nat) (u:Int),vs=[.ref l,.int jt,.int (wAt wd r),.ref cl,.int (p:Int),.int u]∧PcsAt H l ws ws.flatten.length∧Short ws∧ws.flatten.length ≤ 1000∧WideOk wd∧H cl=some (.lst ((tab ws jt wd r).map oV))∧at0 (tab ws jt wd (r + 1)) p=some u∧p < ws.flatten.length ∧
 ∀ s:Nat,s ≤ p→Lead ws jt wd r p u s→Q (.int (s:Int)) H
section
variable {P:Program} {w:World} {K:PySem.W.Frag} {mg:Str→Option Value} {base:Heap}
abbrev nLStepC:List Str:=["_law_pieces_here","_law_joint","_law_width","_law_first","_law_till","_law_lack"]
theorem scLStepC:FnScope nLStepC ["_law_pieces_here","_law_joint","_law_width","_law_first","_law_till"] (defScope sLStepC):=⟨rfl,rfl,rfl,by decide +kernel,rfl,by decide +kernel,by decide +kernel⟩
set_option maxHeartbeats 16000000 in
theorem ok_lStepC {f f1:Addr} {fd d1:FuncData} (F:Fun K "_law_step_cost" "_law_step_cost" sLStepC f fd) (N:Names mg)
  (G1:FnOk P w K mg base CX0 1 f1 d1 ["_law_pieces_here","_law_first","_law_till"] spSize) (b1:Binds K d1 ["_law_pieces_here","_law_first","_law_till"] []) (m1:mg "_law_size"=some (.ref f1)) (k1:PySem.W.keepIn K (.ref f1)=true):FnOk P w K mg base CX0 2 f fd ["_law_pieces_here","_law_joint","_law_width","_law_first","_law_till"] spStepC:=by
 refine F.ok scLStepC (fun vs H Q E h=>?_) (fun cdv A outer s H vs Q E hr h=>?_)
 ·obtain ⟨l,ws,jt,wd,r,i,j,e,_⟩:=h
  rw [e]
  rfl
 ·obtain ⟨l,ws,jt,wd,r,i,j,e,hP,hSh,hn,ok,hij,hj,kA,kB⟩:=h
  subst e
  have hr1:=hr.mono (j:=1) (by decide)
  refine ⟨_,pss_cons (ps_set (i:=5) scLStepC.nd rfl (Or.inl rfl) (pe_op op_sub (pv 2) (pe_call G1 hr1 (by rfl) m1 k1 b1 .nil pass0 (pa_cons (pv 0) (pa_cons (pv 3) (pa_cons (pv 4) pa_nil))))))
   (pss_cons (ps_if (pt_cmpR op_lt (pv 5) pe_int (nomark _)) (pss_one (ps_ret pe_non)) pss_nil)
   (pss_one (ps_ret (pe_op op_add (pe_op op_mul (pv 5) (pv 5)) (pe_op op_mul (pv 1) (pe_ix ix_tup (pe_ix ix_list (pv 0) (pe_op op_sub (pv 4) pe_int) (fun _ _=>rfl)) pe_int (fun _ _=>rfl))))))),?_⟩
  try rw [show (cxOf CX0 P w K mg base nLStepC "_law_step_cost" (defScope sLStepC) f cdv A outer s H E).nox.K=K from rfl]
  obtain ⟨_,_,wlo,whi⟩:=ok.at r
  have lb:=len_bd (ws:=ws) (i:=i) (j:=j) hSh hij (by omega)
  refine seq_abs fun N1 hN=>?_
  refine ⟨_,rfl,_,rfl,_,rfl,_,rfl,l,ws,i,j,rfl,hP,hn,hij,hj,_,_,rfl,rfl,?_⟩
  refine hN _ _ ?_
  clear hN N1
  refine seq_abs fun N1 hN=>?_
  refine ⟨_,rfl,_,_,rfl,rfl,_,rfl,ite2 (fun hq=>?_) (fun hq=>?_)⟩
  ·refine kB (decide_eq_false ?_)
   have:=of_decide_eq_true hq
   omega
  refine hN _ _ ?_
  clear hN N1
  have hf:fitB ws wd r i j=true:=decide_eq_true (by
   have:¬ (wAt wd r - lenOf ws i j < 0):=fun z=>hq (decide_eq_true z)
   omega)
  obtain ⟨as',q,q1,q2,q3,q4⟩:=hP.get (i:=j - 1) (by omega)
  have jbb:=jb_bd ws (j - 1)
  have ev:costOf ws jt wd r i j=(wAt wd r - lenOf ws i j) * (wAt wd r - lenOf ws i j) + jt * jb ws (j - 1):=by
   unfold costOf
   rw [sq_mul,price_jb (by omega)]
  have z:=kA hf
  rw [ev] at z
  exact ⟨_,rfl,_,rfl,_,_,rfl,rfl,.inl ⟨by omega,by omega⟩,_,rfl,_,rfl,_,rfl,_,_,rfl,rfl,l,_,_,_,rfl,rfl,SqL.of q1,atI_of (j:=j - 1) (by omega) q2,q,_,_,_,rfl,rfl,SqT.of q4,atI_nat (j:=1) rfl,_,_,rfl,rfl,.inr ⟨by omega,by omega⟩,_,_,rfl,rfl,z⟩
theorem range_back (p:Nat) (h:p ≤ 1000):Builtin.divisionGoesByPylong (-1 - ((p:Int) - 1)) (-1)=false∧Builtin.Range.small ((p:Int) - 1) (-1) (-1)=true∧Builtin.Range.rangeSize ((p:Int) - 1) (-1) (-1)=(p:Int):=by
 suffices e3:Builtin.Range.rangeSize ((p:Int) - 1) (-1) (-1)=(p:Int) by
  refine ⟨rfl,?_,e3⟩
  unfold Builtin.Range.small
  rw [e3]
  simp only [Builtin.Range.rangeFitsLong,Bool.and_eq_true,Bool.or_eq_true,decide_eq_true_eq,beq_iff_eq,show ¬ ((-1:Int) > 0) by decide,if_false]
  omega
 unfold Builtin.Range.rangeSize
 rw [if_neg (by decide)]
 by_cases h0:p=0
 ·subst h0
  rfl
 ·rw [if_pos (by omega),show (-(-1):Int)=1 from rfl,Int.ediv_one]
  omega
abbrev nLAhead:List Str:=["_law_pieces_here","_law_joint","_law_width","_law_costs","_law_place","_law_cost_here","_law_first","_law_more"]
theorem scLAhead:FnScope nLAhead ["_law_pieces_here","_law_joint","_law_width","_law_costs","_law_place","_law_cost_here"] (defScope sLAhead):=⟨rfl,rfl,rfl,by decide +kernel,rfl,by decide +kernel,by decide +kernel⟩
set_option maxHeartbeats 16000000 in
theorem ok_lAhead {f f1:Addr} {fd d1:FuncData} (F:Fun K "_law_ahead" "_law_ahead" sLAhead f fd) (N:Names mg)
  (G1:FnOk P w K mg base CX0 2 f1 d1 ["_law_pieces_here","_law_joint","_law_width","_law_first","_law_till"] spStepC) (b1:Binds K d1 ["_law_pieces_here","_law_joint","_law_width","_law_first","_law_till"] []) (m1:mg "_law_step_cost"=some (.ref f1)) (k1:PySem.W.keepIn K (.ref f1)=true):FnOk P w K mg base CX0 3 f fd ["_law_pieces_here","_law_joint","_law_width","_law_costs","_law_place","_law_cost_here"] spAhead:=by
 refine F.ok scLAhead (fun vs H Q E h=>?_) (fun cdv A outer s H vs Q E hr h=>?_)
 ·obtain ⟨l,cl,ws,jt,wd,r,p,u,e,_⟩:=h
  rw [e]
  rfl
 ·obtain ⟨l,cl,ws,jt,wd,r,p,u,e,hP,hSh,hn,ok,hcl,hu,hp,k⟩:=h
  subst e
  have hr2:=hr.mono (j:=2) (by decide)
  refine ⟨_,pss_cons (ps_for PassesOwn.never rfl (pi_range3 rfl N.range (pa_cons (pe_op op_sub (pv 4) pe_int) (pa_cons (pe_un un_neg pe_int) (pa_cons (pe_un un_neg pe_int) pa_nil)))) (pg_name (i:=6) scLAhead.nd rfl (Or.inl rfl))
    (pss_cons (ps_set (i:=7) scLAhead.nd rfl (Or.inl rfl) (pe_call G1 hr2 (by rfl) m1 k1 b1 .nil pass0 (pa_cons (pv 0) (pa_cons (pv 1) (pa_cons (pv 2) (pa_cons (pv 6) (pa_cons (pv 4) pa_nil)))))))
    (pss_one (ps_if (pw_and (pt_cmpR op_notN (pe_ix ix_list (pv 3) (pv 6) (fun _ _=>rfl)) pe_non (nomark _)) (pw_and (pt_cmpR op_notN (pv 7) pe_non (nomark _)) (pw_and1 (pt_cmpR op_eq (pe_op op_add (pe_ix ix_list (pv 3) (pv 6) (fun _ _=>rfl)) (pv 7)) (pv 5) (nomark _))))).pt (pss_one (ps_ret (pv 6))) pss_nil))))
   (pss_one (ps_ret (pv 4))),?_⟩
  try rw [show (cxOf CX0 P w K mg base nLAhead "_law_ahead" (defScope sLAhead) f cdv A outer s H E).nox.K=K from rfl]
  obtain ⟨r1',r2',r3'⟩:=range_back p (by omega)
  have lt:=tab_len ws jt wd r
  refine seq_abs fun N1 hN=>?_
  refine ⟨_,rfl,_,_,rfl,rfl,_,rfl,_,rfl,(p:Int) - 1,-1,-1,p,rfl,by decide,r1',r2',r3',?_⟩
  refine for_rangeS (n:=p) (fun i σ G=>(∃ v6 v7:Option V,σ=[some (.ref l),some (.int jt),some (.int (wAt wd r)),some (.ref cl),some (.int p),some (.int u),v6,v7])∧G=H∧∀ s,p - i ≤ s→s < p→¬ Lead ws jt wd r p u s) ⟨⟨_,_,rfl⟩,rfl,fun s h1 h2=>by omega⟩ ?_ ?_
  ·rintro i σ G hi ⟨⟨v6,v7,rfl⟩,rfl,hno⟩
   have ei:(p:Int) - 1 + (i:Int) * -1=((p - 1 - i:Nat):Int):=by omega
   rw [ei]
   have hlt:p - 1 - i < p:=by omega
   have hat:((tab ws jt wd r).map oV)[p - 1 - i]?=some (oV (at0 (tab ws jt wd r) (p - 1 - i))):=at0_at (by omega)
   generalize hf':p - 1 - i=f' at *
   have next:∀ (mv:V),¬ Lead ws jt wd r p u f'→(∃ v6 v7:Option V,[some (V.ref l),some (V.int jt),some (V.int (wAt wd r)),some (V.ref cl),some (V.int p),some (V.int u),some (V.int (f':Int)),some mv]=[some (V.ref l),some (V.int jt),some (V.int (wAt wd r)),some (V.ref cl),some (V.int p),some (V.int u),v6,v7])∧G=G∧∀ s,p - (i + 1) ≤ s→s < p→¬ Lead ws jt wd r p u s:=fun mv h=>⟨⟨_,_,rfl⟩,rfl,fun s h1 h2=>by
    by_cases e:s=f'
    ·subst e; exact h
    ·exact hno s (by omega) h2⟩
   refine seq_abs fun N1 hN=>?_
   have rest:∀ mv:V,((fitB ws wd r f' p=true∧mv=.int (costOf ws jt wd r f' p)) ∨ (fitB ws wd r f' p=false∧mv=.non))→N1 [some (.ref l),some (.int jt),some (.int (wAt wd r)),some (.ref cl),some (.int p),some (.int u),some (.int (f':Int)),some mv] G:=fun mv hmv=>hN _ _ (by
    clear hN N1
    refine ⟨_,rfl,_,rfl,cl,_,_,_,rfl,rfl,SqL.of hcl,atI_nat hat,rfl,_,rfl,?_⟩
    cases hc:at0 (tab ws jt wd r) f' with
    | none =>
     refine iteC rfl (iteF (next mv fun ⟨c,e,_⟩=>by rw [hc] at e; cases e))
    | some c =>
     rw [hc] at hat
     refine iteB rfl ?_
     rcases hmv with ⟨hf,rfl⟩ | ⟨hf,rfl⟩
     ·refine ⟨_,rfl,rfl,_,rfl,iteB rfl ?_⟩
      refine ⟨_,rfl,_,rfl,cl,_,_,_,rfl,rfl,SqL.of hcl,atI_nat hat,_,rfl,_,_,rfl,rfl,_,rfl,rfl,_,rfl,ite2 (fun hq=>?_) (fun hq=>?_)⟩
      ·refine ⟨_,rfl,k f' (by omega) ⟨c,hc,?_⟩⟩
       have e:=of_decide_eq_true hq
       injection e with e
       exact steps_iff.mpr (.inl ⟨hlt,hp,hf,by omega⟩)
      ·refine next _ fun ⟨c',e1,e2⟩=>hq (decide_eq_true ?_)
       rw [hc] at e1
       cases e1
       rcases steps_iff.mp e2 with ⟨_,_,_,e⟩ | ⟨e,_⟩
       ·rw [← e]
        show V.int (c + (u - c))=V.int u
        rw [show c + (u - c)=u by omega]
       ·omega
     ·refine ⟨_,rfl,rfl,_,rfl,iteC rfl (iteF (next _ fun ⟨c',e1,e2⟩=>?_))⟩
      rcases steps_iff.mp e2 with ⟨_,_,e,_⟩ | ⟨e,_⟩
      ·rw [hf] at e
       cases e
      ·omega)
   refine ⟨_,rfl,_,rfl,_,rfl,_,rfl,_,rfl,l,ws,jt,wd,r,f',p,rfl,hP,hSh,hn,ok,hlt,by omega,fun hf=>rest _ (.inl ⟨hf,rfl⟩),fun hf=>rest _ (.inr ⟨hf,rfl⟩)⟩
  ·rintro σ G ⟨⟨v6,v7,rfl⟩,rfl,hno⟩
   refine hN _ _ ?_
   refine ⟨_,rfl,k p (Nat.le_refl _) ?_⟩
   obtain ⟨i,c,h1,h2⟩:=step_down hu
   have e:i=p:=by
    rcases steps_iff.mp h2 with ⟨g1,_⟩ | ⟨g1,_⟩
    ·exact absurd ⟨c,h1,h2⟩ (hno i (by omega) g1)
    ·exact g1.symm
   subst e
   exact ⟨c,h1,h2⟩
end
end B64
namespace L2
open PySem PySem.Spec PyProof.Rows
theorem comp_listF {K:PySem.W.Frag} {a:Addr} {xs:List V} {tt:TT} {te:TE} {σ:St} {H:Hp} {Q:VK} (Pv:Addr→Nat→List V→Hp→Prop) (hn:xs.length < sizeLine) (h0:∀ D,H D=none→Pv D 0 [] (upd H D (.lst [])))
  (hs:∀ D i l H',Pv D i l H'→SqL K H' a xs) (hl:∀ D i l H',Pv D i l H'→l.length ≤ i)
  (he:∀ (D:Addr) (i:Nat) (x:V) (l:List V) (H':Hp) (Q1:Bool→Hp→Prop),xs[i]?=some x→Pv D i l H'→(∀ b H2,(b=false→Pv D (i + 1) l H2)→(b=true→∀ Q':VK,(∀ y H3,H3 D=some (.lst l)→Pv D (i + 1) (l ++ [y]) (upd H3 D (.lst (l ++ [y])))→Q' y H3)→te (some x :: σ) H2 Q')→Q1 b H2)→tt (some x :: σ) H' Q1)
  (hd:∀ D l H',H D=none→Pv D xs.length l H'→Q (.ref D) H'):CompGo (Itl K a) H σ tt te Q:=by
 intro D hD
 refine ⟨fun i m H'=>m=xs.length - i∧i ≤ xs.length∧∃ l,Pv D i l H',⟨xs.length,by omega,Nat.zero_le _,[],h0 D hD⟩,?_⟩
 rintro i m H' ⟨rfl,hi,l,hp⟩
 have q:=hs D i l H' hp
 by_cases hlt:i < xs.length
 ·refine .inr ⟨⟨xs,xs[i],q,by simp [hlt]⟩,fun x H2 y=>?_⟩
  obtain ⟨e,y⟩:=y
  subst e
  refine he D i x l H2 _ (y xs q) hp fun b H3 hf ht=>?_
  cases b with
  | false =>
   refine iteF ?_
   exact ⟨xs.length - (i + 1),by omega,rfl,hlt,l,hf rfl⟩
  | true =>
   refine iteT (ht rfl _ fun v H4 z1 z2=>?_)
   have hl2:=hl D i l H2 hp
   exact ⟨l,z1,Nat.lt_of_le_of_lt hl2 (by omega),xs.length - (i + 1),by omega,rfl,hlt,l ++ [v],z2⟩
 ·have e:i=xs.length:=by omega
  subst e
  exact .inl ⟨⟨xs,q,Nat.le_refl _⟩,hd D l H' hD hp⟩
end L2
namespace B64
open PySem L2
def spAnother:Sp:=fun vs H Q _=>∃ (l wl tl tb:Addr) (ws:List (List Str)) (jt:Int) (wd:List Int) (m:Nat) (tr:List Tr),vs=[.ref l,.int jt,.ref wl,.ref tl,.ref tb]∧PcsAt H l ws ws.flatten.length∧Short ws∧ws.flatten.length ≤ 1000∧H wl=some (.lst (wd.map V.int))∧WideOk wd∧TabAt H tb ws jt wd m∧m ≤ 200∧TrAt H tl tr ∧
 ((tr=[]∧∀ a H',Same H H'→H' a=some (.lst [])→Q (.ref a) H') ∨
  ∃ (ts0:List Tr) (R p:Nat) (C:Int),tr=ts0 ++ [(R,p,ws.flatten.length)]∧R < m∧at0 (tab ws jt wd R) p=some C∧p < ws.flatten.length∧fitB ws wd R p ws.flatten.length=true ∧
    ∀ a tr' p' H',Same H H'→TrAt H' a (tr' ++ [(R,p',ws.flatten.length)])→tr'.length ≤ 300→Path ws jt wd R p' tr'→at0 (tab ws jt wd R) p'=some C→p' < ws.flatten.length→fitB ws wd R p' ws.flatten.length=true→Q (.ref a) H')
theorem TupsAt.rev2 {α:Type} {f:α→List V} {H:Hp} {l q:Addr} {ts:List α} {as:List Addr} (h1:H l=some (.lst (as.map V.ref))) (h2:as.length=ts.length) (h3:∀ (k:Nat) (p:Addr) (t:α),as[k]?=some p→ts[k]?=some t→H p=some (.tup (f t))) (hq:H q=none) :
  TupsAt f (upd H q (.lst (as.map V.ref).reverse)) q ts.reverse:=by
 refine ⟨as.reverse,by rw [upd_same,List.map_reverse],by rw [List.length_reverse,List.length_reverse,h2],fun k p t e1 e2=>?_⟩
 have hk:=get_lt e1
 rw [List.length_reverse] at hk
 rw [List.getElem?_reverse hk] at e1
 rw [List.getElem?_reverse (by omega),← h2] at e2
 have z:=h3 _ p t e1 e2
 rw [upd_ne (ne_of_none z hq)]
 exact z
section
variable {P:Program} {w:World} {K:PySem.W.Frag} {mg:Str→Option Value} {base:Heap}
abbrev nLAnother:List Str:=["_law_pieces_here","_law_joint","_law_widths","_law_triples","_law_table","_law_row","_law_first","_law_till","_law_cost_here","_law_width","_law_some","_law_found","_law_ahead_here"]
theorem scLAnother:FnScope nLAnother ["_law_pieces_here","_law_joint","_law_widths","_law_triples","_law_table"] (defScope sLAnother):=⟨rfl,rfl,rfl,by decide +kernel,rfl,by decide +kernel,by decide +kernel⟩
set_option maxHeartbeats 16000000 in
theorem ok_lAnother {f f1 f2:Addr} {fd d1 d2:FuncData} (F:Fun K "_law_another" "_law_another" sLAnother f fd) (N:Names mg)
  (G1:FnOk P w K mg base CX0 1 f1 d1 ["_law_pieces_here","_law_first","_law_till"] spSize) (b1:Binds K d1 ["_law_pieces_here","_law_first","_law_till"] []) (m1:mg "_law_size"=some (.ref f1)) (k1:PySem.W.keepIn K (.ref f1)=true)
  (G2:FnOk P w K mg base CX0 3 f2 d2 ["_law_pieces_here","_law_joint","_law_width","_law_costs","_law_place","_law_cost_here"] spAhead) (b2:Binds K d2 ["_law_pieces_here","_law_joint","_law_width","_law_costs","_law_place","_law_cost_here"] []) (m2:mg "_law_ahead"=some (.ref f2)) (k2:PySem.W.keepIn K (.ref f2)=true):FnOk P w K mg base CX0 4 f fd ["_law_pieces_here","_law_joint","_law_widths","_law_triples","_law_table"] spAnother:=by
 refine F.ok scLAnother (fun vs H Q E h=>?_) (fun cdv A outer s H vs Q E hr h=>?_)
 ·obtain ⟨l,wl,tl,tb,ws,jt,wd,m,tr,e,_⟩:=h
  rw [e]
  rfl
 ·obtain ⟨l,wl,tl,tb,ws,jt,wd,m,tr,e,hP,hSh,hn,hw,ok,hT,hm,hTr,hk⟩:=h
  subst e
  have hr1:=hr.mono (j:=1) (by decide)
  have hr3:=hr.mono (j:=3) (by decide)
  have hu0:(A.deeper (PyProof.Rows.envOfC "_law_another" (defScope sLAnother) s.heap.objs.size f cdv)).units < cLine:=by have:=hr.units; omega
  refine ⟨_,pss_cons (ps_if (pt_cmpR (op_eqN hu0) (pv 3) (pe_lst pa_nil) (nomark _)) (pss_one (ps_ret (pe_lst pa_nil))) pss_nil)
   (pss_cons (ps_asg (pe_ix ix_list (pv 3) (pe_un un_neg pe_int) (fun _ _=>rfl)) (pg_tup rfl (pgs_cons (pg_name (i:=5) scLAnother.nd rfl (Or.inr rfl)) (pgs_cons (pg_name (i:=6) scLAnother.nd rfl (Or.inl rfl)) (pgs_cons (pg_name (i:=7) scLAnother.nd rfl (Or.inr rfl)) pgs_nil)))))
   (pss_cons (ps_set (i:=8) scLAnother.nd rfl (Or.inr rfl) (pe_ix ix_list (pe_ix ix_list (pv 4) (pv 5) (fun _ _=>rfl)) (pv 6) (fun _ _=>rfl)))
   (pss_cons (ps_set (i:=9) scLAnother.nd rfl (Or.inr rfl) (pe_ix ix_list (pv 2) (pe_callB (call_min2 rfl) (by rfl) N.min PyProof.Rows.boot_min (pa_cons (pv 5) (pa_cons (pe_op op_sub (pe_callB call_len_seq (by rfl) N.len PySem.boot_len (pa_cons (pv 2) pa_nil)) pe_int) pa_nil))) (fun _ _=>rfl)))
   (pss_cons (ps_setComp (i:=10) (compSc_mk (fs:=defScope sLAnother) (N:=nLAnother) rfl rfl (by decide +kernel)) rfl scLAnother.nd rfl (Or.inl rfl) (pi_range1 rfl N.range (pa_cons (pv 7) pa_nil)) (fun _ _ _ _ _=>pts_one (pt_cmpR op_eq (pe_ix (r:=rIxL K) ix_list (pe_ix (r:=rIxL K) ix_list (pv 5) (pv 6) (fun _ _=>rfl)) (pv 0) (fun _ _=>rfl)) (pv 9) (nomark _))) (fun _ _ _ _ _=>(pv 0)) rfl)
   (pss_cons (ps_set (i:=6) scLAnother.nd rfl (Or.inl rfl) (pe_callB (call_maxL rfl) (by rfl) N.max PyProof.Rows.boot_max (pa_cons (pe_comp (compSc_mk (fs:=defScope sLAnother) (N:=nLAnother) rfl rfl (by decide +kernel)) rfl (pi_list (pv 10)) (fun _ _ _ _ _=>pts_one (pt_cmpR op_le (pe_call G1 hr1 (by rfl) m1 k1 b1 .nil pass0 (pa_cons (pv 1) (pa_cons (pv 0) (pa_cons (pv 8) pa_nil)))) (pv 10) (nomark _))) (fun _ _ _ _ _=>(pv 0))) pa_nil)))
   (pss_cons (ps_set (i:=11) scLAnother.nd rfl (Or.inl rfl) (pe_lst (pa_cons (pe_tup (pa_cons (pv 5) (pa_cons (pv 6) (pa_cons (pv 7) pa_nil)))) pa_nil)))
   (pss_cons (ps_while PassesOwn.never (pt_cmpR op_gt (pv 5) pe_int (nomark _))
    (pss_cons (ps_set (i:=5) scLAnother.nd rfl (Or.inr rfl) (pe_op op_sub (pv 5) pe_int))
    (pss_cons (ps_set (i:=9) scLAnother.nd rfl (Or.inr rfl) (pe_ix ix_list (pv 2) (pe_callB (call_min2 rfl) (by rfl) N.min PyProof.Rows.boot_min (pa_cons (pv 5) (pa_cons (pe_op op_sub (pe_callB call_len_seq (by rfl) N.len PySem.boot_len (pa_cons (pv 2) pa_nil)) pe_int) pa_nil))) (fun _ _=>rfl)))
    (pss_cons (ps_set (i:=12) scLAnother.nd rfl (Or.inl rfl) (pe_call G2 hr3 (by rfl) m2 k2 b2 .nil pass0 (pa_cons (pv 0) (pa_cons (pv 1) (pa_cons (pv 9) (pa_cons (pe_ix ix_list (pv 4) (pv 5) (fun _ _=>rfl)) (pa_cons (pv 6) (pa_cons (pe_ix ix_list (pe_ix ix_list (pv 4) (pe_op op_add (pv 5) pe_int) (fun _ _=>rfl)) (pv 6) (fun _ _=>rfl)) pa_nil))))))))
    (pss_cons (ps_if (pt_cmpR op_lt (pv 12) (pv 6) (nomark _)) (pss_one (ps_expr (pe_bm PySem.F.plainAttrs_list PySem.F.slot_list_append PySem.F.type_list_append mt_append (pv 11) (pa_cons (pe_tup (pa_cons (pv 5) (pa_cons (pv 12) (pa_cons (pv 6) pa_nil)))) pa_nil)))) pss_nil)
    (pss_one (ps_set (i:=6) scLAnother.nd rfl (Or.inl rfl) (pv 12))))))))
   (pss_one (ps_ret (pe_revL (pv 11) (po_some (pe_un un_neg pe_int)))))))))))),?_⟩
  try rw [show (cxOf CX0 P w K mg base nLAnother "_law_another" (defScope sLAnother) f cdv A outer s H E).nox.K=K from rfl]
  obtain ⟨as,t1,t2,t3⟩:=id hTr
  refine seq_abs fun N1 hN=>?_
  refine ⟨_,rfl,smallE (by simp),fun l0 hl0=>?_⟩
  generalize hG:upd H l0 _=H0
  have s0:Same H H0:=by rw [← hG]; exact Same.put (Same.refl _) hl0
  have h0:H0 l0=some (.lst []):=by rw [← hG]; exact upd_same
  clear hG
  refine ⟨tl,l0,_,rfl,rfl,SqL.of (s0 _ _ t1),SqL.of h0,_,rfl,?_⟩
  rcases hk with ⟨rfl,k⟩ | ⟨ts0,R,p,C,rfl,hR,hC,hp,hf,k⟩
  ·have e:as=[]:=List.eq_nil_of_length_eq_zero t2
   subst e
   exact iteB rfl ⟨smallE (by simp),fun a ha=>k a _ (Same.trans s0 (Same.put (Same.refl _) ha)) upd_same⟩
  have la:as.length=ts0.length + 1:=by rw [t2,List.length_append]; rfl
  refine iteC ?_ ?_
  ·cases as with
   | nil=>cases la
   | cons _ _=>rfl
  refine hN _ _ ?_
  clear hN N1
  have hlt:ts0.length < as.length:=by omega
  obtain ⟨g,eg⟩:∃ g,as[ts0.length]?=some g:=⟨_,List.getElem?_eq_getElem hlt⟩
  have hg:=s0 _ _ (t3 ts0.length g (R,p,ws.flatten.length) eg (by rw [List.getElem?_append_right (Nat.le_refl _),Nat.sub_self]; rfl))
  have ex:(as.map V.ref)[(as.map V.ref).length - 1]?=some (V.ref g):=by
   rw [List.length_map,la,Nat.add_sub_cancel,List.getElem?_map,eg]
   rfl
  refine seq_abs fun N1 hN=>?_
  refine ⟨_,rfl,_,rfl,tl,_,_,_,rfl,rfl,SqL.of (s0 _ _ t1),atI_lst ex,g,_,rfl,SqT.of hg,rfl,_,_,rfl,_,_,rfl,_,_,rfl,rfl,?_⟩
  refine hN _ _ ?_
  clear hN N1
  have hT0:=hT.same s0
  have hP0:=hP.same s0
  have hw0:=s0 _ _ hw
  clear hg ex h0 t1 t3
  obtain ⟨asT,pR,x1,x2,x3,x4⟩:=hT0.get (r:=R) (by omega)
  have lt:=tab_len ws jt wd R
  have hatp:((tab ws jt wd R).map oV)[p]?=some (.int C):=by
   have z:=at0_at (a:=tab ws jt wd R) (i:=p) (by omega)
   rw [hC] at z
   exact z
  refine seq_abs fun N1 hN=>?_
  refine ⟨_,rfl,_,rfl,tb,_,_,_,rfl,rfl,SqL.of x1,atI_nat x3,_,rfl,pR,_,_,_,rfl,rfl,SqL.of x4,atI_nat hatp,?_⟩
  refine hN _ _ ?_
  clear hN N1
  obtain ⟨hl',hat,wlo,whi⟩:=ok.at R
  refine seq_abs fun N1 hN=>?_
  refine ⟨_,rfl,_,rfl,_,rfl,wl,_,rfl,.inl (SqL.of hw0),_,_,rfl,rfl,_,_,rfl,wl,_,_,_,rfl,rfl,SqL.of hw0,atI_of (j:=min R (wd.length - 1)) ?_ hat,?_⟩
  ·rw [List.length_map]
   split <;> omega
  refine hN _ _ ?_
  clear hN N1
  refine seq_abs fun N1 hN=>?_
  refine ⟨_,rfl,((ws.flatten.length:Nat):Int),rfl,by omega,by omega,?_⟩
  rw [show ((ws.flatten.length:Nat):Int).toNat=ws.flatten.length by omega]
  refine comp_rangeG (n:=ws.flatten.length) (fun D i l H'=>Same H0 H'∧H0 D=none∧H' D=some (.lst l)∧l=((List.range i).filter fun k=>decide (at0 (tab ws jt wd R) k=some C)).map fun (k:Nat)=>V.int (k:Int)) (small (by omega)) (fun D hD=>⟨Same.put (Same.refl _) hD,hD,upd_same,rfl⟩) (fun D i l H' h=>by rw [h.2.2.2,List.length_map]; exact Nat.le_trans (List.length_filter_le _ _) (by rw [List.length_range]; exact Nat.le_refl _)) ?_ ?_
  ·rintro D i l' H' Q1 hi ⟨s',hD,hl2,rfl⟩ hq
   have ei:(0:Int) + (i:Int)=(i:Int):=Int.zero_add _
   rw [ei]
   have hati:((tab ws jt wd R).map oV)[i]?=some (oV (at0 (tab ws jt wd R) i)):=at0_at (by omega)
   have hsc:scal (oV (at0 (tab ws jt wd R) i)) (.int C)=true∧decide (oV (at0 (tab ws jt wd R) i)=.int C)=decide (at0 (tab ws jt wd R) i=some C):=by
    cases at0 (tab ws jt wd R) i with
    | none=>exact ⟨rfl,rfl⟩
    | some z=>exact ⟨rfl,decide_eq_decide.mpr ⟨fun y=>by injection y with y; rw [y],fun y=>by cases y; rfl⟩⟩
   refine ⟨_,rfl,_,rfl,tb,_,_,_,rfl,rfl,SqL.of (s' _ _ x1),atI_nat x3,_,rfl,pR,_,_,_,rfl,rfl,SqL.of (s' _ _ x4),atI_nat hati,_,rfl,hsc.1,_,rfl,?_⟩
   rw [hsc.2]
   refine hq _ H' (fun hb=>⟨s',hD,hl2,?_⟩) (fun hb Q' hk'=>⟨_,rfl,hk' _ H' hl2 ⟨Same.put' s' hD,hD,upd_same,?_⟩⟩)
   ·rw [List.range_succ,List.filter_append,List.filter_cons_of_neg (by rw [hb]; decide),List.filter_nil,List.append_nil]
   ·rw [List.range_succ,List.filter_append,List.filter_cons_of_pos (p:=fun k=>decide (at0 (tab ws jt wd R) k=some C)) hb,List.filter_nil,List.map_append,ei]
    rfl
  rintro D1 l1 H1 ⟨s1,hD1,hl1,rfl⟩
  refine hN _ _ ?_
  clear hN N1
  generalize hFl:(List.range ws.flatten.length).filter (fun k=>decide (at0 (tab ws jt wd R) k=some C))=Fl at *
  have hmF:∀ k ∈ Fl,k < ws.flatten.length∧at0 (tab ws jt wd R) k=some C:=fun k hk=>by
   rw [← hFl] at hk
   obtain ⟨z1,z2⟩:=List.mem_filter.mp hk
   exact ⟨List.mem_range.mp z1,of_decide_eq_true z2⟩
  have hpF:p ∈ Fl:=by
   rw [← hFl]
   exact List.mem_filter.mpr ⟨List.mem_range.mpr hp,decide_eq_true hC⟩
  have hP1:=hP0.same s1
  have lF:Fl.length ≤ 1000:=by
   rw [← hFl]
   exact Nat.le_trans (List.length_filter_le _ _) (by rw [List.length_range]; exact hn)
  refine seq_abs fun N1 hN=>?_
  refine ⟨_,rfl,D1,rfl,⟨_,SqL.of hl1⟩,comp_listF (xs:=Fl.map fun (k:Nat)=>V.int (k:Int)) (fun D i l H'=>Same H1 H'∧H1 D=none∧H' D=some (.lst l)∧l=((Fl.take i).filter fun k=>fitB ws wd R k ws.flatten.length).map fun (k:Nat)=>V.int (k:Int)) (small (by rw [List.length_map]; omega)) (fun D hD=>⟨Same.put (Same.refl _) hD,hD,upd_same,rfl⟩) (fun D i l H' h=>SqL.of (h.1 _ _ hl1)) (fun D i l H' h=>by rw [h.2.2.2,List.length_map]; exact Nat.le_trans (List.length_filter_le _ _) (by rw [List.length_take]; omega)) ?_ ?_⟩
  ·rintro D i x l' H' Q1 hx ⟨s',hD,hl2,rfl⟩ hq
   rw [List.getElem?_map] at hx
   cases ek:Fl[i]? with
   | none=>rw [ek] at hx; cases hx
   | some k0 =>
    rw [ek] at hx
    cases hx
    obtain ⟨z1,z2⟩:=hmF k0 (List.mem_of_getElem? ek)
    refine ⟨_,rfl,_,rfl,_,rfl,l,ws,k0,ws.flatten.length,rfl,hP1.same s',hn,z1,Nat.le_refl _,_,rfl,_,_,rfl,rfl,_,rfl,?_⟩
    refine hq _ H' (fun hb=>⟨s',hD,hl2,?_⟩) (fun hb Q' hk'=>⟨_,rfl,hk' _ H' hl2 ⟨Same.put' s' hD,hD,upd_same,?_⟩⟩)
    ·rw [List.take_succ,ek,List.filter_append,show (some k0).toList=[k0] from rfl,List.filter_cons_of_neg (by show ¬ decide (lenOf ws k0 ws.flatten.length ≤ wAt wd R)=true; rw [hb]; decide),List.filter_nil,List.append_nil]
    ·rw [List.take_succ,ek,List.filter_append,show (some k0).toList=[k0] from rfl,List.filter_cons_of_pos (p:=fun k=>fitB ws wd R k ws.flatten.length) hb,List.filter_nil,List.map_append]
     rfl
  rintro D2 l2 H2 hD2' ⟨s2,hD2,hl2,rfl⟩
  rw [List.length_map,List.take_length] at hl2
  have em:(Fl.filter fun k=>fitB ws wd R k ws.flatten.length).map (fun (k:Nat)=>V.int (k:Int))=((Fl.filter fun k=>fitB ws wd R k ws.flatten.length).map fun (k:Nat)=>(k:Int)).map V.int:=by rw [List.map_map]; rfl
  rw [em] at hl2
  refine ⟨D2,_,rfl,SqL.of hl2,?_,fun M hM _=>?_⟩
  ·rw [List.length_map]
   exact List.length_pos_of_mem (List.mem_filter.mpr ⟨hpF,hf⟩)
  obtain ⟨p',hp',rfl⟩:=List.mem_map.mp hM
  obtain ⟨hp1,hp2⟩:=List.mem_filter.mp hp'
  obtain ⟨hpn,hpC⟩:=hmF p' hp1
  refine hN _ _ ?_
  clear hN N1
  have s02:Same H H2:=Same.trans s0 (Same.trans s1 s2)
  clear hM hp' hp1 hl2 hD2 hD2' hD1 hl1 em hmF hpF lF hFl x1 x3 x4
  have hT2:=hT.same s02
  have hP2:=hP.same s02
  have hw2:=s02 _ _ hw
  refine seq_abs fun N1 hN=>?_
  refine ⟨_,rfl,_,rfl,_,rfl,by show 3 ≤ sizeLine; decide,fun g2 hg2=>?_⟩
  refine ⟨smallE (by simp),fun lf hlf=>?_⟩
  have ng:g2 ≠ lf:=ne_of_none (H:=upd H2 g2 (.tup [.int (R:Int),.int (p':Int),.int (ws.flatten.length:Int)])) upd_same hlf
  have sA:Same H2 (upd H2 g2 (.tup [.int (R:Int),.int (p':Int),.int (ws.flatten.length:Int)])):=Same.put (Same.refl _) hg2
  have fl2:H2 lf=none:=sA.free hlf
  have fl:H lf=none:=s02.free fl2
  have s3:Same H (upd (upd H2 g2 (.tup [.int (R:Int),.int (p':Int),.int (ws.flatten.length:Int)])) lf (.lst [V.ref g2])):=Same.put (Same.trans s02 sA) fl
  have T0:TrAt (upd (upd H2 g2 (.tup [.int (R:Int),.int (p':Int),.int (ws.flatten.length:Int)])) lf (.lst [V.ref g2])) lf [(R,p',ws.flatten.length)]:=by
   refine ⟨[g2],upd_same,rfl,fun k' b t e1 e2=>?_⟩
   match k',e1,e2 with
   | 0,e1,e2 =>
    have z1:b=g2:=(Option.some.inj e1).symm
    have z2:t=(R,p',ws.flatten.length):=(Option.some.inj e2).symm
    subst z1 z2
    rw [upd_ne ng,upd_same]
  generalize upd (upd H2 g2 (.tup [.int (R:Int),.int (p':Int),.int (ws.flatten.length:Int)])) lf (.lst [V.ref g2])=H3 at *
  clear hT2 hP2 hw2 sA fl2 ng hg2 hlf
  refine hN _ _ ?_
  clear hN N1
  refine seq_abs fun N1 hN=>?_
  refine ⟨fun m' σ G=>∃ (r q:Nat) (acc:List Tr) (d:Int) (v9 v12:Option V),σ=[some (.ref l),some (.int jt),some (.ref wl),some (.ref tl),some (.ref tb),some (.int (r:Int)),some (.int (q:Int)),some (.int (ws.flatten.length:Int)),some (.int C),v9,some (.ref D1),some (.ref lf),v12]∧Same H G∧TrAt G lf acc∧at0 (tab ws jt wd r) q=some d∧m'=r∧r ≤ R∧acc.length ≤ R - r + 1∧q < ws.flatten.length ∧
   (∀ ts,Path ws jt wd r q ts→∃ ts',Path ws jt wd R p' ts'∧ts ++ acc.reverse=ts' ++ [(R,p',ws.flatten.length)]),⟨_,R,p',[(R,p',ws.flatten.length)],C,_,none,rfl,s3,T0,hpC,rfl,Nat.le_refl _,by rw [List.length_singleton]; omega,hpn,fun ts hts=>⟨ts,hts,rfl⟩⟩,?_⟩
  rintro m' σ G ⟨r,q,acc,d,v9,v12,rfl,sG,hTrG,hd,em,hrR,hacc,hqn,hpath⟩
  refine ⟨_,rfl,_,_,rfl,rfl,_,rfl,?_⟩
  cases r with
  | zero =>
   refine iteC (decide_eq_false (by omega)) ?_
   obtain ⟨eq0,_⟩:=tab_zero hd
   subst eq0
   obtain ⟨ts',hts',ets⟩:=hpath [] Path.nil
   rw [List.nil_append] at ets
   obtain ⟨asF,y1,y2,y3⟩:=hTrG
   refine hN _ _ ?_
   refine ⟨_,rfl,_,rfl,_,rfl,rfl,lf,_,rfl,SqL.of y1,fun a ha=>?_⟩
   have TR:=TupsAt.rev2 (f:=trV) y1 y2 y3 ha
   rw [ets] at TR
   have ll:=congrArg List.length ets
   rw [List.length_reverse,List.length_append,List.length_singleton] at ll
   exact k a ts' p' _ (Same.trans sG (Same.put (Same.refl _) ha)) TR (by omega) hts' hpC hpn hp2
  | succ r =>
   refine iteB (decide_eq_true (by omega)) ⟨fun σ' H'=>∃ (q':Nat) (acc':List Tr) (d':Int) (v9 v12:Option V),σ'=[some (.ref l),some (.int jt),some (.ref wl),some (.ref tl),some (.ref tb),some (.int (r:Int)),some (.int (q':Int)),some (.int (ws.flatten.length:Int)),some (.int C),v9,some (.ref D1),some (.ref lf),v12]∧Same H H'∧TrAt H' lf acc'∧at0 (tab ws jt wd r) q'=some d'∧acc'.length ≤ R - r + 1∧q' < ws.flatten.length ∧
    (∀ ts,Path ws jt wd r q' ts→∃ ts',Path ws jt wd R p' ts'∧ts ++ acc'.reverse=ts' ++ [(R,p',ws.flatten.length)]),fun σ' H' ⟨q',acc',d',v9,v12,e1,e2,e3,e4,e5,e6,e7⟩=>⟨r,by omega,r,q',acc',d',v9,v12,e1,e2,e3,e4,rfl,by omega,e5,e6,e7⟩,?_⟩
   have er:((r + 1:Nat):Int) - 1=(r:Int):=by omega
   refine seq_abs fun N1 hN=>?_
   refine ⟨_,rfl,_,_,rfl,rfl,?_⟩
   refine hN _ _ ?_
   clear hN N1
   dsimp only
   rw [er]
   have hwG:=sG _ _ hw
   obtain ⟨hl',hat',wlo',whi'⟩:=ok.at r
   refine seq_abs fun N1 hN=>?_
   refine ⟨_,rfl,_,rfl,_,rfl,wl,_,rfl,.inl (SqL.of hwG),_,_,rfl,rfl,_,_,rfl,wl,_,_,_,rfl,rfl,SqL.of hwG,atI_of (j:=min r (wd.length - 1)) ?_ hat',?_⟩
   ·rw [List.length_map]
    split <;> omega
   refine hN _ _ ?_
   clear hN N1
   have hTG:=hT.same sG
   obtain ⟨asA,pA,a1,a2,a3,a4⟩:=hTG.get (r:=r) (by omega)
   obtain ⟨asB,pB,c1,c2,c3,c4⟩:=hTG.get (r:=r + 1) (by omega)
   have ltB:=tab_len ws jt wd (r + 1)
   have hatq:((tab ws jt wd (r + 1)).map oV)[q]?=some (.int d):=by
    have z:=at0_at (a:=tab ws jt wd (r + 1)) (i:=q) (by omega)
    rw [hd] at z
    exact z
   refine seq_abs fun N1 hN=>?_
   refine ⟨_,rfl,_,rfl,_,rfl,_,rfl,_,rfl,tb,_,_,_,rfl,rfl,SqL.of a1,atI_nat a3,_,rfl,_,rfl,_,rfl,_,_,rfl,rfl,tb,_,_,_,rfl,rfl,SqL.of c1,atI_of (j:=r + 1) (by omega) c3,_,rfl,pB,_,_,_,rfl,rfl,SqL.of c4,atI_nat hatq,l,pA,ws,jt,wd,r,q,d,rfl,hP.same sG,hSh,hn,ok,a4,hd,hqn,fun i hiq hlead=>?_⟩
   refine hN _ _ ?_
   clear hN N1
   obtain ⟨cc,hcc,hst⟩:=id hlead
   refine seq_abs fun N1 hN=>?_
   refine ⟨_,rfl,_,rfl,_,_,rfl,rfl,_,rfl,?_⟩
   by_cases hlt2:i < q
   ·refine iteB (decide_eq_true (by omega)) ?_
    obtain ⟨asF,y1,y2,y3⟩:=hTrG
    refine ⟨_,rfl,.inl ⟨rfl,_,SqL.of y1⟩,_,rfl,_,rfl,_,rfl,by show 3 ≤ sizeLine; decide,fun g' hg'=>?_⟩
    have nlg:lf ≠ g':=ne_of_none y1 hg'
    refine ⟨lf,_,_,rfl,rfl,by rw [upd_ne nlg]; exact y1,small (by rw [List.length_map]; omega),?_⟩
    refine hN _ _ ?_
    clear hN N1
    refine ⟨_,rfl,(show ∃ (q':Nat) (acc':List Tr) (d':Int) (v9 v12:Option V),_ from ⟨i,acc ++ [(r,i,q)],cc,_,_,rfl,Same.put (Same.put sG (sG.free hg')) fl,TupsAt.snoc (f:=trV) (t:=(r,i,q)) y1 y2 y3 hg',hcc,by rw [List.length_append,List.length_singleton]; omega,by omega,fun ts hts=>?_⟩)⟩
    obtain ⟨ts',h1,h2⟩:=hpath _ (Path.go hts hd hlead)
    refine ⟨ts',h1,?_⟩
    rw [if_pos hlt2] at h2
    rw [← h2,List.reverse_append,List.append_assoc]
    rfl
   ·refine iteC (decide_eq_false (by omega)) ?_
    refine hN _ _ ?_
    clear hN N1
    refine ⟨_,rfl,(show ∃ (q':Nat) (acc':List Tr) (d':Int) (v9 v12:Option V),_ from ⟨i,acc,cc,_,_,rfl,sG,hTrG,hcc,by omega,by omega,fun ts hts=>?_⟩)⟩
    obtain ⟨ts',h1,h2⟩:=hpath _ (Path.go hts hd hlead)
    refine ⟨ts',h1,?_⟩
    rw [if_neg hlt2,List.append_nil] at h2
    exact h2
end
end B64
namespace B64
open PySem L2
def EL (σ:St) (H0:Hp) (te:TE) (b:Nat):Prop:=∀ (H:Hp) (Q:VK),Same H0 H→(∀ a es H',Same H H'→H' a=some (.lst es)→es.length ≤ b→(∀ e ∈ es,ElemOk H' e)→Q (.ref a) H')→te σ H Q
section
variable {K:PySem.W.Frag} {σ:St} {H0:Hp} {ta tb tl th:TE} {b c:Nat} {e:V} {tx:TE}
def IntE (σ:St) (H0:Hp) (tn:TE):Prop:=∃ n:Int,∀ (H:Hp) (Q:VK),Same H0 H→Q (.int n) H→tn σ H Q
theorem el_cat (h:EL σ H0 ta b) (g:EL σ H0 tb c) (hl:b + c ≤ 10000):EL σ H0 (tOp rCat ta tb) (b + c):=fun H Q s k=>h H _ s fun a xs H1 s1 h1 l1 e1=>g H1 _ (Same.trans s s1) fun a2 ys H2 s2 h2 l2 e2 =>
 ⟨a,a2,xs,ys,rfl,rfl,s2 _ _ h1,h2,smallE (by omega),fun p hp=>k p _ _ (Same.trans s1 (Same.trans s2 (Same.put (Same.refl _) hp))) upd_same (by rw [List.length_append]; omega) fun e he=>by
  rcases List.mem_append.mp he with z | z
  ·exact ((e1 e z).same (Same.trans s2 (Same.put (Same.refl _) hp))).1
  ·exact ((e2 e z).same (Same.put (Same.refl _) hp)).1⟩
def ELF (σ:St) (H0:Hp) (te:TE) (b:Nat):Prop:=∀ (H:Hp) (Q:VK),Same H0 H→(∀ a es H',Same H H'→H a=none→H' a=some (.lst es)→es.length ≤ b→(∀ e ∈ es,ElemOk H' e)→Q (.ref a) H')→te σ H Q
def NewV (H:Hp) (v:V):Prop:=∀ a,v=.ref a→H a=none
theorem NewV.mono {H H':Hp} {v:V} (h:NewV H' v) (s:Same H H'):NewV H v:=fun a e=>s.free (h a e)
theorem NewV.of {H:Hp} {a:Addr} (h:H a=none):NewV H (.ref a):=fun b e=>by cases e; exact h
theorem el_catF (h:EL σ H0 ta b) (g:EL σ H0 tb c) (hl:b + c ≤ 10000):ELF σ H0 (tOp rCat ta tb) (b + c):=fun H Q s k=>h H _ s fun a xs H1 s1 h1 l1 e1=>g H1 _ (Same.trans s s1) fun a2 ys H2 s2 h2 l2 e2 =>
 ⟨a,a2,xs,ys,rfl,rfl,s2 _ _ h1,h2,smallE (by omega),fun p hp=>k p _ _ (Same.trans s1 (Same.trans s2 (Same.put (Same.refl _) hp))) ((Same.trans s1 s2).free hp) upd_same (by rw [List.length_append]; omega) fun e he=>by
  rcases List.mem_append.mp he with z | z
  ·exact ((e1 e z).same (Same.trans s2 (Same.put (Same.refl _) hp))).1
  ·exact ((e2 e z).same (Same.put (Same.refl _) hp)).1⟩
theorem el_till {i:Nat} {a:Addr} {es:List V} (hv:σ[i]?=some (some (.ref a))) (ha:H0 a=some (.lst es)) (hl:es.length ≤ b) (he:∀ e ∈ es,ElemOk H0 e) (hn:IntE σ H0 th):EL σ H0 (tSl (rSlL K) (tVar i) tNoPart (tPart th)) b:=fun H Q s k=>by
 obtain ⟨n,hn⟩:=hn
 refine ⟨_,hv,hn H _ s ⟨_,rfl,a,es,rfl,SqL.of (s _ _ ha),fun p hp=>k p _ _ (Same.put (Same.refl _) hp) upd_same (Nat.le_trans (cutV_length _ _ _) hl) fun e hm=>?_⟩⟩
 exact ((he e (List.mem_of_mem_drop (List.mem_of_mem_take hm))).same (Same.trans s (Same.put (Same.refl _) hp))).1
theorem el_from {i:Nat} {a:Addr} {es:List V} (hv:σ[i]?=some (some (.ref a))) (ha:H0 a=some (.lst es)) (hl:es.length ≤ b) (he:∀ e ∈ es,ElemOk H0 e) (hn:IntE σ H0 tl):EL σ H0 (tSl (rSlL K) (tVar i) (tPart tl) tNoPart) b:=fun H Q s k=>by
 obtain ⟨n,hn⟩:=hn
 refine ⟨_,hv,hn H _ s ⟨_,rfl,a,es,rfl,SqL.of (s _ _ ha),fun p hp=>k p _ _ (Same.put (Same.refl _) hp) upd_same (Nat.le_trans (cutV_length _ _ _) hl) fun e hm=>?_⟩⟩
 exact ((he e (List.mem_of_mem_drop (List.mem_of_mem_take hm))).same (Same.trans s (Same.put (Same.refl _) hp))).1
theorem el_one (h:∀ (H:Hp) (Q:VK),Same H0 H→(∀ v H',Same H H'→ElemOk H' v→Q v H')→tx σ H Q):EL σ H0 (tLst (tCons tx tNil)) 1:=fun H Q s k=>h H _ s fun v H1 s1 hv=>⟨smallE (by show 1 ≤ 100000; decide),fun p hp=>k p [v] _ (Same.trans s1 (Same.put (Same.refl _) hp)) upd_same (Nat.le_refl _) fun e he=>by
 rw [List.mem_singleton.mp he]
 exact (hv.same (Same.put (Same.refl _) hp)).1⟩
theorem ELF.ret {H:Hp} {D0:Ends} (h:ELF σ H ta b) (hb:b ≤ 10000) (k:∀ v H',Same H H'→TrV H' v→NewV H v→D0.rt v H'):tRet ta D0 σ H:=h H _ (Same.refl _) fun a es H1 s1 n1 h1 l1 e1=>k _ H1 s1 (.inl ⟨a,es,rfl,h1,by omega,e1⟩) (.of n1)
end
def spOthTr:Sp:=fun vs H Q _=>∃ (tl sl:Addr) (tr:List Tr) (ns:List Int),vs=[.ref tl,.ref sl]∧TrAt H tl tr∧0 < tr.length∧tr.length ≤ 1000∧H sl=some (.lst (ns.map V.int))∧ns.length=8∧∀ v H',Same H H'→TrV H' v→NewV H v→Q v H'
theorem at3 (a b c:Int) (z:Int):∃ y:Int,atI [V.int a,.int b,.int c] (z % 3)=some (.int y):=by
 have h:z % 3=0 ∨ z % 3=1 ∨ z % 3=2:=by omega
 rcases h with h | h | h <;> (rw [h])
 ·exact ⟨a,atI_nat (j:=0) rfl⟩
 ·exact ⟨b,atI_nat (j:=1) rfl⟩
 ·exact ⟨c,atI_nat (j:=2) rfl⟩
theorem set3 (a b c:Int) (z y:Int):∃ j a' b' c',ixN 3 (z % 3)=some j∧[V.int a,.int b,.int c].set j (.int y)=[V.int a',.int b',.int c']:=by
 have h:z % 3=0 ∨ z % 3=1 ∨ z % 3=2:=by omega
 rcases h with h | h | h <;> (rw [h])
 ·exact ⟨0,y,b,c,rfl,rfl⟩
 ·exact ⟨1,a,y,c,rfl,rfl⟩
 ·exact ⟨2,a,b,y,rfl,rfl⟩
theorem at4 {α:Type} (a b c d:α) (z:Int):∃ y,atI [a,b,c,d] (z % 4)=some y∧(y=a ∨ y=b ∨ y=c ∨ y=d):=by
 have h:z % 4=0 ∨ z % 4=1 ∨ z % 4=2 ∨ z % 4=3:=by omega
 rcases h with h | h | h | h <;> (rw [h])
 ·exact ⟨a,atI_nat (j:=0) rfl,.inl rfl⟩
 ·exact ⟨b,atI_nat (j:=1) rfl,.inr (.inl rfl)⟩
 ·exact ⟨c,atI_nat (j:=2) rfl,.inr (.inr (.inl rfl))⟩
 ·exact ⟨d,atI_nat (j:=3) rfl,.inr (.inr (.inr rfl))⟩
theorem n8 {ns:List Int} (h:ns.length=8) {j:Nat} (hj:j < 8):atI (ns.map V.int) ((j:Nat):Int)=some (.int (ns.getD j 0)):=atI_nat (by rw [List.getElem?_map,List.getD_eq_getElem?_getD,List.getElem?_eq_getElem (by omega)]; rfl)
section
variable {P:Program} {w:World} {K:PySem.W.Frag} {mg:Str→Option Value} {base:Heap}
abbrev nLOthTr:List Str:=["_law_triples","_law_some","_law_told","_law_at","_law_triple"]
theorem scLOthTr:FnScope nLOthTr ["_law_triples","_law_some"] (defScope sLOthTr):=⟨rfl,rfl,rfl,by decide +kernel,rfl,by decide +kernel,by decide +kernel⟩
set_option maxHeartbeats 16000000 in
theorem ok_lOthTr {f:Addr} {fd:FuncData} (F:Fun K "_law_other_triples" "_law_other_triples" sLOthTr f fd) (N:Names mg):FnOk P w K mg base CX0 1 f fd ["_law_triples","_law_some"] spOthTr:=by
 refine F.ok scLOthTr (fun vs H Q E h=>?_) (fun cdv A outer s H vs Q E hr h=>?_)
 ·obtain ⟨tl,sl,tr,ns,e,_⟩:=h
  rw [e]
  rfl
 ·obtain ⟨tl,sl,tr,ns,e,hT,h0,hl,hs,hn,k⟩:=h
  subst e
  refine ⟨_,pss_cons (ps_set (i:=2) scLOthTr.nd rfl (Or.inl rfl) (pe_callTy call_list_of (by rfl) N.list PyProof.Rows.boot_list (pa_cons (pv 0) pa_nil)))
   (pss_cons (ps_set (i:=3) scLOthTr.nd rfl (Or.inl rfl) (pe_op op_mod (pe_ix ix_list (pv 1) pe_int (fun _ _=>rfl)) (pe_callB call_len_seq (by rfl) N.len PySem.boot_len (pa_cons (pv 2) pa_nil))))
   (pss_cons (ps_set (i:=4) scLOthTr.nd rfl (Or.inl rfl) (pe_callTy call_list_of (by rfl) N.list PyProof.Rows.boot_list (pa_cons (pe_ix ix_list (pv 2) (pv 3) (fun _ _=>rfl)) pa_nil)))
   (pss_cons (ps_if (pt_cmpR op_eq (pe_op op_mod (pe_ix ix_list (pv 1) pe_int (fun _ _=>rfl)) pe_int) pe_int (nomark _)) (pss_cons (ps_asg (pe_op op_add (pe_ix ix_list (pv 4) (pe_op op_mod (pe_ix ix_list (pv 1) pe_int (fun _ _=>rfl)) pe_int) (fun _ _=>rfl)) (pe_ix ix_list (pe_lst (pa_cons pe_int (pa_cons (pe_un un_neg pe_int) (pa_cons pe_int (pa_cons (pe_op op_pow pe_int pe_int) pa_nil))))) (pe_op op_mod (pe_ix ix_list (pv 1) pe_int (fun _ _=>rfl)) pe_int) (fun _ _=>rfl))) (pg_sub (pv 4) (pe_op op_mod (pe_ix ix_list (pv 1) pe_int (fun _ _=>rfl)) pe_int) set_list))
    (pss_one (ps_ret (pe_op op_cat (pe_op op_cat (pe_slice sl_list (pv 2) po_none (po_some (pv 3))) (pe_lst (pa_cons (pe_callTy call_tuple_of (by rfl) N.tuple PyProof.Rows.boot_tuple (pa_cons (pv 4) pa_nil)) pa_nil))) (pe_slice sl_list (pv 2) (po_some (pe_op op_add (pv 3) pe_int)) po_none))))) pss_nil)
   (pss_cons (ps_if (pt_cmpR op_eq (pe_op op_mod (pe_ix ix_list (pv 1) pe_int (fun _ _=>rfl)) pe_int) pe_int (nomark _)) (pss_one (ps_ret (pe_op op_cat (pe_slice sl_list (pv 2) po_none (po_some (pv 3))) (pe_slice sl_list (pv 2) (po_some (pe_op op_add (pv 3) pe_int)) po_none)))) pss_nil)
   (pss_cons (ps_if (pt_cmpR op_eq (pe_op op_mod (pe_ix ix_list (pv 1) pe_int (fun _ _=>rfl)) pe_int) pe_int (nomark _)) (pss_one (ps_ret (pe_op op_cat (pe_slice sl_list (pv 2) po_none (po_some (pe_op op_add (pv 3) pe_int))) (pe_slice sl_list (pv 2) (po_some (pv 3)) po_none)))) pss_nil)
   (pss_cons (ps_if (pw_and (pt_cmpR op_eq (pe_op op_mod (pe_ix ix_list (pv 1) pe_int (fun _ _=>rfl)) pe_int) pe_int (nomark _)) (pw_and1 (pt_cmpR op_lt (pe_op op_add (pv 3) pe_int) (pe_callB call_len_seq (by rfl) N.len PySem.boot_len (pa_cons (pv 2) pa_nil)) (nomark _)))).pt (pss_one (ps_ret (pe_op op_cat (pe_op op_cat (pe_slice sl_list (pv 2) po_none (po_some (pv 3))) (pe_lst (pa_cons (pe_tup (pa_cons (pe_ix ix_list (pv 4) pe_int (fun _ _=>rfl)) (pa_cons (pe_ix ix_list (pv 4) pe_int (fun _ _=>rfl)) (pa_cons (pe_ix ix_tup (pe_ix ix_list (pv 2) (pe_op op_add (pv 3) pe_int) (fun _ _=>rfl)) pe_int (fun _ _=>rfl)) pa_nil)))) pa_nil))) (pe_slice sl_list (pv 2) (po_some (pe_op op_add (pv 3) pe_int)) po_none)))) pss_nil)
   (pss_one (ps_ret (pe_ix ix_list (pe_lst (pa_cons (pe_op op_cat (pe_op op_cat (pe_slice sl_list (pv 2) po_none (po_some (pv 3))) (pe_lst (pa_cons pe_non pa_nil))) (pe_slice sl_list (pv 2) (po_some (pv 3)) po_none)) (pa_cons (pe_op op_cat (pe_op op_cat (pe_slice sl_list (pv 2) po_none (po_some (pv 3))) (pe_lst (pa_cons (pv 4) pa_nil))) (pe_slice sl_list (pv 2) (po_some (pe_op op_add (pv 3) pe_int)) po_none)) (pa_cons (pe_callTy call_tuple_of (by rfl) N.tuple PyProof.Rows.boot_tuple (pa_cons (pv 2) pa_nil)) (pa_cons pe_non pa_nil))))) (pe_op op_mod (pe_ix ix_list (pv 1) pe_int (fun _ _=>rfl)) pe_int) (fun _ _=>rfl)))))))))),?_⟩
  try rw [show (cxOf CX0 P w K mg base nLOthTr "_law_other_triples" (defScope sLOthTr) f cdv A outer s H E).nox.K=K from rfl]
  obtain ⟨as,t1,t2,t3⟩:=id hT
  have hel0:∀ e ∈ as.map V.ref,ElemOk H e:=fun e he=>by
   obtain ⟨p,hp,rfl⟩:=List.mem_map.mp he
   obtain ⟨q,hq⟩:=List.getElem?_of_mem hp
   have hlt:q < tr.length:=by rw [← t2]; exact get_lt hq
   exact .inl ⟨p,trI tr[q],rfl,t3 q p _ hq (List.getElem?_eq_getElem hlt)⟩
  refine seq_abs fun N1 hN=>?_
  refine ⟨_,rfl,tl,_,rfl,.inl (SqL.of t1),fun lt hlt=>?_⟩
  generalize hG:upd H lt _=H1
  have s1:Same H H1:=by rw [← hG]; exact Same.put (Same.refl _) hlt
  have h1:H1 lt=some (.lst (as.map V.ref)):=by rw [← hG]; exact upd_same
  clear hG
  refine hN _ _ ?_
  clear hN N1
  have hs1:=s1 _ _ hs
  have hel1:∀ e ∈ as.map V.ref,ElemOk H1 e:=fun e he=>((hel0 e he).same s1).1
  have hla:(as.map V.ref).length ≤ 1000:=by rw [List.length_map,t2]; exact hl
  refine seq_abs fun N1 hN=>?_
  refine ⟨_,rfl,sl,_,_,_,rfl,rfl,SqL.of hs1,n8 hn (j:=1) (by decide),_,rfl,lt,_,rfl,.inl (SqL.of h1),_,_,rfl,rfl,(by show (0:Int) < ((as.map V.ref).length:Int); rw [List.length_map,t2]; omega),?_⟩
  refine hN _ _ ?_
  clear hN N1
  obtain ⟨j,ej,hj⟩:∃ j:Nat,ns.getD 1 0 % ((as.map V.ref).length:Int)=(j:Int)∧j < as.length:=by
   have h0':(0:Int) < ((as.map V.ref).length:Int):=by rw [List.length_map,t2]; omega
   have a1:=Int.emod_nonneg (ns.getD 1 0) (Int.ne_of_gt h0')
   have a2:=Int.emod_lt_of_pos (ns.getD 1 0) h0'
   refine ⟨(ns.getD 1 0 % ((as.map V.ref).length:Int)).toNat,by omega,?_⟩
   rw [List.length_map] at a2 ⊢
   omega
  dsimp only
  rw [ej]
  obtain ⟨g,eg⟩:∃ g,as[j]?=some g:=⟨_,List.getElem?_eq_getElem hj⟩
  obtain ⟨tt,ett⟩:∃ tt,tr[j]?=some tt:=⟨_,List.getElem?_eq_getElem (by omega)⟩
  have hg:=s1 _ _ (t3 j g tt eg ett)
  have egj:(as.map V.ref)[j]?=some (V.ref g):=by rw [List.getElem?_map,eg]; rfl
  refine seq_abs fun N1 hN=>?_
  refine ⟨_,rfl,_,rfl,lt,_,_,_,rfl,rfl,SqL.of h1,atI_nat egj,g,_,rfl,.inr (SqT.of hg),fun lr hlr=>?_⟩
  generalize hG:upd H1 lr _=H2
  have s2:Same H1 H2:=by rw [← hG]; exact Same.put (Same.refl _) hlr
  have h2:H2 lr=some (.lst (trV tt)):=by rw [← hG]; exact upd_same
  clear hG
  refine hN _ _ ?_
  clear hN N1
  have hs2:=s2 _ _ hs1
  have hlt2:=s2 _ _ h1
  have hel2:∀ e ∈ as.map V.ref,ElemOk H2 e:=fun e he=>((hel1 e he).same s2).1
  have s02:=Same.trans s1 s2
  have i3:∀ (G:Hp) (v4:V),IntE [some (.ref tl),some (.ref sl),some (.ref lt),some (.int (j:Int)),some v4] G (tVar 3):=fun G v4=>⟨(j:Int),fun H Q s q=>⟨_,rfl,q⟩⟩
  have i3':∀ (G:Hp) (v4:V) (z:Int),IntE [some (.ref tl),some (.ref sl),some (.ref lt),some (.int (j:Int)),some v4] G (tOp (rI0 fun i j=>.int (i + j)) (tVar 3) (tC (.int z))):=fun G v4 z=>⟨(j:Int) + z,fun H Q s q=>⟨_,rfl,_,_,rfl,rfl,q⟩⟩
  refine seq_abs fun N1 hN=>?_
  refine ⟨_,rfl,sl,_,_,_,rfl,rfl,SqL.of hs2,n8 hn (j:=0) (by decide),_,_,rfl,rfl,(by show (0:Int) < 5; decide),rfl,_,rfl,ite2 (fun _=>?_) (fun _=>hN _ _ ?_)⟩
  ·obtain ⟨y1,ey1⟩:=at3 (tt.1:Int) (tt.2.1:Int) (tt.2.2:Int) (ns.getD 2 0)
   refine seq_abs fun N1 hN=>?_
   refine ⟨_,rfl,_,rfl,sl,_,_,_,rfl,rfl,SqL.of hs2,n8 hn (j:=2) (by decide),_,_,rfl,rfl,(by show (0:Int) < 3; decide),lr,_,_,_,rfl,rfl,SqL.of h2,ey1,_,rfl,_,_,rfl,rfl,⟨by decide,by decide,by decide⟩,(by show 4 ≤ sizeLine; decide),fun l4 hl4=>?_⟩
   generalize hG:upd H2 l4 _=H3
   have s3:Same H2 H3:=by rw [← hG]; exact Same.put (Same.refl _) hl4
   have h3:H3 l4=some (.lst [.int 1,.int (-1),.int 1,.int (10 ^ (30:Int).toNat)]):=by rw [← hG]; exact upd_same
   clear hG
   obtain ⟨yv,ey2,hy2⟩:=at4 (V.int 1) (.int (-1)) (.int 1) (.int (10 ^ (30:Int).toNat)) (ns.getD 3 0)
   obtain ⟨y2,rfl⟩:∃ y2:Int,yv=.int y2:=by
    rcases hy2 with rfl | rfl | rfl | rfl <;> exact ⟨_,rfl⟩
   obtain ⟨j3,a',b',c',e3,e4⟩:=set3 (tt.1:Int) (tt.2.1:Int) (tt.2.2:Int) (ns.getD 2 0) (y1 + y2)
   refine ⟨_,rfl,sl,_,_,_,rfl,rfl,SqL.of (s3 _ _ hs2),n8 hn (j:=3) (by decide),_,_,rfl,rfl,(by show (0:Int) < 4; decide),l4,_,_,_,rfl,rfl,SqL.of h3,ey2,_,_,rfl,rfl,?_⟩
   refine ⟨_,rfl,_,rfl,sl,_,_,_,rfl,rfl,SqL.of (s3 _ _ hs2),n8 hn (j:=2) (by decide),_,_,rfl,rfl,(by show (0:Int) < 3; decide),lr,trV tt,_,j3,rfl,rfl,s3 _ _ h2,e3,?_⟩
   rw [show (trV tt).set j3 (V.int (y1 + y2))=[V.int a',.int b',.int c'] from e4]
   have s14:Same H1 (upd H3 lr (.lst [V.int a',.int b',.int c'])):=Same.put (Same.trans s2 s3) hlr
   have h4:(upd H3 lr (.lst [V.int a',.int b',.int c'])) lr=some (.lst [V.int a',.int b',.int c']):=upd_same
   generalize upd H3 lr (.lst [V.int a',.int b',.int c'])=H4 at *
   refine hN _ _ ?_
   clear hN N1
   have hlt4:=s14 _ _ h1
   have hel4:∀ e ∈ as.map V.ref,ElemOk H4 e:=fun e he=>((hel1 e he).same s14).1
   refine ELF.ret (H:=H4) (el_catF (el_cat (el_till (b:=1000) rfl hlt4 hla hel4 (i3 H4 _)) (el_one fun G Q' sG hq=>?_) (by decide)) (el_from (b:=1000) rfl hlt4 hla hel4 (i3' H4 _ 1)) (by decide)) (by decide) fun v H5 s5 hv hw=>k v H5 (Same.trans s1 (Same.trans s14 s5)) hv (hw.mono (Same.trans s1 s14))
   refine ⟨_,rfl,lr,_,rfl,.inl ⟨SqL.of (sG _ _ h4),fun tq htq=>hq _ _ (Same.put (Same.refl _) htq) (.inl ⟨tq,(a',b',c'),rfl,upd_same⟩)⟩⟩
  clear hN N1
  refine seq_abs fun N1 hN=>?_
  refine ⟨_,rfl,sl,_,_,_,rfl,rfl,SqL.of hs2,n8 hn (j:=0) (by decide),_,_,rfl,rfl,(by show (0:Int) < 5; decide),rfl,_,rfl,ite2 (fun _=>?_) (fun _=>hN _ _ ?_)⟩
  ·exact ELF.ret (H:=H2) (el_catF (el_till (b:=1000) rfl hlt2 hla hel2 (i3 H2 _)) (el_from (b:=1000) rfl hlt2 hla hel2 (i3' H2 _ 1)) (by decide)) (by decide) fun v H5 s5 hv hw=>k v H5 (Same.trans s02 s5) hv (hw.mono s02)
  clear hN N1
  refine seq_abs fun N1 hN=>?_
  refine ⟨_,rfl,sl,_,_,_,rfl,rfl,SqL.of hs2,n8 hn (j:=0) (by decide),_,_,rfl,rfl,(by show (0:Int) < 5; decide),rfl,_,rfl,ite2 (fun _=>?_) (fun _=>hN _ _ ?_)⟩
  ·exact ELF.ret (H:=H2) (el_catF (el_till (b:=1000) rfl hlt2 hla hel2 (i3' H2 _ 1)) (el_from (b:=1000) rfl hlt2 hla hel2 (i3 H2 _)) (by decide)) (by decide) fun v H5 s5 hv hw=>k v H5 (Same.trans s02 s5) hv (hw.mono s02)
  clear hN N1
  refine seq_abs fun N1 hN=>?_
  have last:N1 [some (.ref tl),some (.ref sl),some (.ref lt),some (.int (j:Int)),some (.ref lr)] H2:=hN _ _ (by
   clear hN N1
   have A1:ELF [some (.ref tl),some (.ref sl),some (.ref lt),some (.int (j:Int)),some (.ref lr)] H2 (tOp rCat (tOp rCat (tSl (rSlL K) (tVar 2) tNoPart (tPart (tVar 3))) (tLst (tCons (tC .non) tNil))) (tSl (rSlL K) (tVar 2) (tPart (tVar 3)) tNoPart)) (1000 + 1 + 1000):=el_catF (el_cat (el_till (b:=1000) rfl hlt2 hla hel2 (i3 H2 _)) (el_one fun G Q' sG hq=>hq _ G (Same.refl _) (.inr (.inl rfl))) (by decide)) (el_from (b:=1000) rfl hlt2 hla hel2 (i3 H2 _)) (by decide)
   have A2:ELF [some (.ref tl),some (.ref sl),some (.ref lt),some (.int (j:Int)),some (.ref lr)] H2 (tOp rCat (tOp rCat (tSl (rSlL K) (tVar 2) tNoPart (tPart (tVar 3))) (tLst (tCons (tVar 4) tNil))) (tSl (rSlL K) (tVar 2) (tPart (tOp (rI0 fun i j=>.int (i + j)) (tVar 3) (tC (.int 1)))) tNoPart)) (1000 + 1 + 1000):=el_catF (el_cat (el_till (b:=1000) rfl hlt2 hla hel2 (i3 H2 _)) (el_one fun G Q' sG hq=>⟨_,rfl,hq _ G (Same.refl _) (.inr (.inr ⟨lr,_,rfl,sG _ _ h2⟩))⟩) (by decide)) (el_from (b:=1000) rfl hlt2 hla hel2 (i3' H2 _ 1)) (by decide)
   refine A1 H2 _ (Same.refl _) fun a1 es1 G1 g1 w1 q1 l1 e1=>?_
   refine A2 G1 _ g1 fun a2 es2 G2 g2 w2 q2 l2 e2=>?_
   have g02:=Same.trans g1 g2
   refine ⟨_,rfl,lt,_,rfl,.inl ⟨SqL.of (g02 _ _ hlt2),fun tq htq=>?_⟩⟩
   have w3:=g02.free htq
   generalize hG:upd G2 tq _=G3
   have g3:Same G2 G3:=by rw [← hG]; exact Same.put (Same.refl _) htq
   have q3:G3 tq=some (.tup (as.map V.ref)):=by rw [← hG]; exact upd_same
   clear hG
   refine ⟨(by show 4 ≤ sizeLine; decide),fun l5 hl5=>?_⟩
   generalize hG:upd G3 l5 _=G4
   have g4:Same G3 G4:=by rw [← hG]; exact Same.put (Same.refl _) hl5
   have q4:G4 l5=some (.lst [.ref a1,.ref a2,.ref tq,.non]):=by rw [← hG]; exact upd_same
   clear hG
   have g24:=Same.trans g3 g4
   have g04:=Same.trans g02 g24
   obtain ⟨yv,ey2,hy2⟩:=at4 (V.ref a1) (.ref a2) (.ref tq) .non (ns.getD 3 0)
   refine ⟨_,rfl,sl,_,_,_,rfl,rfl,SqL.of (g04 _ _ hs2),n8 hn (j:=3) (by decide),_,_,rfl,rfl,(by show (0:Int) < 4; decide),l5,_,_,_,rfl,rfl,SqL.of q4,ey2,?_⟩
   refine k yv G4 (Same.trans s02 g04) ?_ ?_
   rotate_left
   ·refine NewV.mono (H':=H2) ?_ s02
    rcases hy2 with rfl | rfl | rfl | rfl
    ·exact .of w1
    ·exact .of (g1.free w2)
    ·exact .of w3
    ·intro a e; cases e
   rcases hy2 with rfl | rfl | rfl | rfl
   ·exact .inl ⟨a1,es1,rfl,g24 _ _ (g2 _ _ q1),by omega,fun e he=>((e1 e he).same (Same.trans g2 g24)).1⟩
   ·exact .inl ⟨a2,es2,rfl,g24 _ _ q2,by omega,fun e he=>((e2 e he).same g24).1⟩
   ·exact .inr (.inl ⟨tq,_,rfl,g4 _ _ q3⟩)
   ·exact .inr (.inr rfl))
  clear hN
  refine ⟨_,rfl,sl,_,_,_,rfl,rfl,SqL.of hs2,n8 hn (j:=0) (by decide),_,_,rfl,rfl,(by show (0:Int) < 5; decide),rfl,_,rfl,ite2 (fun _=>?_) (fun _=>iteF last)⟩
  refine ⟨_,rfl,_,_,rfl,rfl,_,rfl,lt,_,rfl,.inl (SqL.of hlt2),_,_,rfl,rfl,_,rfl,ite2 (fun hq=>?_) (fun _=>last)⟩
  have hq2:j + 1 < as.length:=by
   have:=of_decide_eq_true hq
   rw [List.length_map] at this
   omega
  obtain ⟨g5,eg5⟩:∃ g5,as[j + 1]?=some g5:=⟨_,List.getElem?_eq_getElem hq2⟩
  obtain ⟨t5,et5⟩:∃ t5,tr[j + 1]?=some t5:=⟨_,List.getElem?_eq_getElem (by omega)⟩
  have hg5:=s02 _ _ (t3 (j + 1) g5 t5 eg5 et5)
  have egj5:(as.map V.ref)[j + 1]?=some (V.ref g5):=by rw [List.getElem?_map,eg5]; rfl
  refine ELF.ret (H:=H2) (el_catF (el_cat (el_till (b:=1000) rfl hlt2 hla hel2 (i3 H2 _)) (el_one fun G Q' sG hq=>?_) (by decide)) (el_from (b:=1000) rfl hlt2 hla hel2 (i3' H2 _ 2)) (by decide)) (by decide) fun v H5 s5 hv hw=>k v H5 (Same.trans s02 s5) hv (hw.mono s02)
  refine ⟨_,rfl,lr,_,_,_,rfl,rfl,SqL.of (sG _ _ h2),atI_nat (j:=0) rfl,_,rfl,lr,_,_,_,rfl,rfl,SqL.of (sG _ _ h2),atI_nat (j:=1) rfl,_,rfl,_,rfl,_,_,rfl,rfl,lt,_,_,_,rfl,rfl,SqL.of (sG _ _ hlt2),atI_of (j:=j + 1) (by omega) egj5,g5,_,_,_,rfl,rfl,SqT.of (sG _ _ hg5),atI_nat (j:=2) rfl,(by show 3 ≤ sizeLine; decide),fun tq htq=>hq _ _ (Same.put (Same.refl _) htq) (.inl ⟨tq,((tt.1:Int),(tt.2.1:Int),(t5.2.2:Int)),rfl,upd_same⟩)⟩
end
end B64
namespace B64
open PySem L2
def EU (σ:St) (H0:Hp) (te:TE) (b:Nat):Prop:=∀ (H:Hp) (Q:VK),Same H0 H→(∀ a es H',Same H H'→H' a=some (.lst es)→es.length ≤ b→(∀ e ∈ es,RowOk H' e)→Q (.ref a) H')→te σ H Q
section
variable {K:PySem.W.Frag} {σ:St} {H0:Hp} {ta tb tl th:TE} {b c:Nat} {e:V} {tx:TE}
theorem eu_cat (h:EU σ H0 ta b) (g:EU σ H0 tb c) (hl:b + c ≤ 10000):EU σ H0 (tOp rCat ta tb) (b + c):=fun H Q s k=>h H _ s fun a xs H1 s1 h1 l1 e1=>g H1 _ (Same.trans s s1) fun a2 ys H2 s2 h2 l2 e2 =>
 ⟨a,a2,xs,ys,rfl,rfl,s2 _ _ h1,h2,smallE (by omega),fun p hp=>k p _ _ (Same.trans s1 (Same.trans s2 (Same.put (Same.refl _) hp))) upd_same (by rw [List.length_append]; omega) fun e he=>by
  rcases List.mem_append.mp he with z | z
  ·exact ((e1 e z).same (n:=0) (Same.trans s2 (Same.put (Same.refl _) hp))).1
  ·exact ((e2 e z).same (n:=0) (Same.put (Same.refl _) hp)).1⟩
def EUF (σ:St) (H0:Hp) (te:TE) (b:Nat):Prop:=∀ (H:Hp) (Q:VK),Same H0 H→(∀ a es H',Same H H'→H a=none→H' a=some (.lst es)→es.length ≤ b→(∀ e ∈ es,RowOk H' e)→Q (.ref a) H')→te σ H Q
theorem eu_catF (h:EU σ H0 ta b) (g:EU σ H0 tb c) (hl:b + c ≤ 10000):EUF σ H0 (tOp rCat ta tb) (b + c):=fun H Q s k=>h H _ s fun a xs H1 s1 h1 l1 e1=>g H1 _ (Same.trans s s1) fun a2 ys H2 s2 h2 l2 e2 =>
 ⟨a,a2,xs,ys,rfl,rfl,s2 _ _ h1,h2,smallE (by omega),fun p hp=>k p _ _ (Same.trans s1 (Same.trans s2 (Same.put (Same.refl _) hp))) ((Same.trans s1 s2).free hp) upd_same (by rw [List.length_append]; omega) fun e he=>by
  rcases List.mem_append.mp he with z | z
  ·exact ((e1 e z).same (n:=0) (Same.trans s2 (Same.put (Same.refl _) hp))).1
  ·exact ((e2 e z).same (n:=0) (Same.put (Same.refl _) hp)).1⟩
theorem eu_till {i:Nat} {a:Addr} {es:List V} (hv:σ[i]?=some (some (.ref a))) (ha:H0 a=some (.lst es)) (hl:es.length ≤ b) (he:∀ e ∈ es,RowOk H0 e) (hn:IntE σ H0 th):EU σ H0 (tSl (rSlL K) (tVar i) tNoPart (tPart th)) b:=fun H Q s k=>by
 obtain ⟨n,hn⟩:=hn
 refine ⟨_,hv,hn H _ s ⟨_,rfl,a,es,rfl,SqL.of (s _ _ ha),fun p hp=>k p _ _ (Same.put (Same.refl _) hp) upd_same (Nat.le_trans (cutV_length _ _ _) hl) fun e hm=>?_⟩⟩
 exact ((he e (List.mem_of_mem_drop (List.mem_of_mem_take hm))).same (n:=0) (Same.trans s (Same.put (Same.refl _) hp))).1
theorem eu_from {i:Nat} {a:Addr} {es:List V} (hv:σ[i]?=some (some (.ref a))) (ha:H0 a=some (.lst es)) (hl:es.length ≤ b) (he:∀ e ∈ es,RowOk H0 e) (hn:IntE σ H0 tl):EU σ H0 (tSl (rSlL K) (tVar i) (tPart tl) tNoPart) b:=fun H Q s k=>by
 obtain ⟨n,hn⟩:=hn
 refine ⟨_,hv,hn H _ s ⟨_,rfl,a,es,rfl,SqL.of (s _ _ ha),fun p hp=>k p _ _ (Same.put (Same.refl _) hp) upd_same (Nat.le_trans (cutV_length _ _ _) hl) fun e hm=>?_⟩⟩
 exact ((he e (List.mem_of_mem_drop (List.mem_of_mem_take hm))).same (n:=0) (Same.trans s (Same.put (Same.refl _) hp))).1
theorem eu_one (h:∀ (H:Hp) (Q:VK),Same H0 H→(∀ v H',Same H H'→RowOk H' v→Q v H')→tx σ H Q):EU σ H0 (tLst (tCons tx tNil)) 1:=fun H Q s k=>h H _ s fun v H1 s1 hv=>⟨smallE (by show 1 ≤ 100000; decide),fun p hp=>k p [v] _ (Same.trans s1 (Same.put (Same.refl _) hp)) upd_same (Nat.le_refl _) fun e he=>by
 rw [List.mem_singleton.mp he]
 exact (hv.same (n:=0) (Same.put (Same.refl _) hp)).1⟩
theorem EUF.ret {H:Hp} {D0:Ends} (h:EUF σ H ta b) (hb:b ≤ 10000) (k:∀ v H',Same H H'→TabV H' v→NewV H v→D0.rt v H'):tRet ta D0 σ H:=h H _ (Same.refl _) fun a es H1 s1 n1 h1 l1 e1=>k _ H1 s1 (.inl ⟨a,es,rfl,h1,by omega,e1⟩) (.of n1)
end
theorem cells_set {xs:List V} {j:Nat} {v:V} (h:∀ x ∈ xs,CellOk x) (hv:CellOk v):∀ x ∈ xs.set j v,CellOk x:=fun x hx=>by
 rcases List.mem_or_eq_of_mem_set hx with z | z
 ·exact h x z
 ·rw [z]; exact hv
def spOthTab:Sp:=fun vs H Q _=>∃ (tb sl:Addr) (tbl:Tbl) (N:Nat) (ns:List Int),vs=[.ref tb,.ref sl]∧TabG H tb tbl∧0 < tbl.length∧tbl.length ≤ 1000∧(∀ row ∈ tbl,row.length=N)∧0 < N∧N ≤ 2000∧H sl=some (.lst (ns.map V.int))∧ns.length=8∧∀ v H',Same H H'→TabV H' v→NewV H v→Q v H'
def IC (x:V):Prop:=x=.non ∨ ∃ z,x=.int z
theorem IC.of (o:Option Int):IC (oV o):=by
 cases o with
 | none=>exact .inl rfl
 | some z=>exact .inr ⟨z,rfl⟩
theorem IC.ok {x:V} (h:IC x):CellOk x:=h.elim .inl fun z=>.inr (.inl z)
def Rws (H H':Hp) (N:Nat) (bs:List Addr):Prop:=∀ p ∈ bs,H p=none∧∃ xs,H' p=some (.lst xs)∧xs.length=N∧∀ x ∈ xs,IC x
theorem Rws.row {H H':Hp} {N:Nat} {bs:List Addr} (h:Rws H H' N bs) (hN:N ≤ 2000):∀ e ∈ bs.map V.ref,RowOk H' e:=fun e he=>by
 obtain ⟨p,hp,rfl⟩:=List.mem_map.mp he
 obtain ⟨_,xs,h1,h2,h3⟩:=h p hp
 exact .inl ⟨p,xs,rfl,h1,by omega,fun x hx=>(h3 x hx).ok⟩
theorem at2 {α:Type} (a b:α) (z:Int):∃ y,atI [a,b] (z % 2)=some y∧(y=a ∨ y=b):=by
 have h:z % 2=0 ∨ z % 2=1:=by omega
 rcases h with h | h <;> (rw [h])
 ·exact ⟨a,atI_nat (j:=0) rfl,.inl rfl⟩
 ·exact ⟨b,atI_nat (j:=1) rfl,.inr rfl⟩
theorem at6 {α:Type} (a b c d e f:α) (z:Int):∃ y,atI [a,b,c,d,e,f] (z % 6)=some y∧(y=a ∨ y=b ∨ y=c ∨ y=d ∨ y=e ∨ y=f):=by
 have h:z % 6=0 ∨ z % 6=1 ∨ z % 6=2 ∨ z % 6=3 ∨ z % 6=4 ∨ z % 6=5:=by omega
 rcases h with h | h | h | h | h | h <;> (rw [h])
 ·exact ⟨a,atI_nat (j:=0) rfl,.inl rfl⟩
 ·exact ⟨b,atI_nat (j:=1) rfl,.inr (.inl rfl)⟩
 ·exact ⟨c,atI_nat (j:=2) rfl,.inr (.inr (.inl rfl))⟩
 ·exact ⟨d,atI_nat (j:=3) rfl,.inr (.inr (.inr (.inl rfl)))⟩
 ·exact ⟨e,atI_nat (j:=4) rfl,.inr (.inr (.inr (.inr (.inl rfl))))⟩
 ·exact ⟨f,atI_nat (j:=5) rfl,.inr (.inr (.inr (.inr (.inr rfl))))⟩
theorem mod_n (z:Int) {n:Nat} (h:0 < n):∃ j:Nat,z % (n:Int)=(j:Int)∧j < n:=by
 have h0':(0:Int) < (n:Int):=by omega
 have a1:=Int.emod_nonneg z (Int.ne_of_gt h0')
 have a2:=Int.emod_lt_of_pos z h0'
 exact ⟨(z % (n:Int)).toNat,by omega,by omega⟩
theorem call_listK {X:Cx} {K:PySem.W.Frag} (hK:X.K=K):CallR X (.type "list") (fun xs H Q=>∃ p ys,xs=[.ref p]∧(SqL K H p ys ∨ SqT K H p ys)∧∀ l,H l=none→Q (.ref l) (upd H l (.lst ys))):=by
 subst hK
 exact call_list_of
section
variable {P:Program} {w:World} {K:PySem.W.Frag} {mg:Str→Option Value} {base:Heap}
abbrev nLOthTab:List Str:=["_law_table","_law_some","_law_told","_law_row","_law_at"]
theorem scLOthTab:FnScope nLOthTab ["_law_table","_law_some"] (defScope sLOthTab):=⟨rfl,rfl,rfl,by decide +kernel,rfl,by decide +kernel,by decide +kernel⟩
set_option maxHeartbeats 16000000 in
theorem ok_lOthTab {f:Addr} {fd:FuncData} (F:Fun K "_law_other_table" "_law_other_table" sLOthTab f fd) (N:Names mg):FnOk P w K mg base CX0 1 f fd ["_law_table","_law_some"] spOthTab:=by
 refine F.ok scLOthTab (fun vs H Q E h=>?_) (fun cdv A outer s H vs Q E hr h=>?_)
 ·obtain ⟨tb,sl,tbl,N0,ns,e,_⟩:=h
  rw [e]
  rfl
 ·obtain ⟨tb,sl,tbl,N0,ns,e,hT,h0,hl,hrow,hN0,hN1,hs,hn,k⟩:=h
  subst e
  refine ⟨_,pss_cons (ps_setComp (i:=2) (compSc_mk (fs:=defScope sLOthTab) (N:=nLOthTab) rfl rfl (by decide +kernel)) rfl scLOthTab.nd rfl (Or.inl rfl) (pi_list (pv 0)) (fun _ _ _ _ _=>pts_nil) (fun _ _ _ _ _=>(pe_callTy (call_listK (K:=K) rfl) (by rfl) N.list PyProof.Rows.boot_list (pa_cons (pv 0) pa_nil))) rfl)
   (pss_cons (ps_set (i:=3) scLOthTab.nd rfl (Or.inl rfl) (pe_op op_mod (pe_ix ix_list (pv 1) pe_int (fun _ _=>rfl)) (pe_callB call_len_seq (by rfl) N.len PySem.boot_len (pa_cons (pv 2) pa_nil))))
   (pss_cons (ps_set (i:=4) scLOthTab.nd rfl (Or.inl rfl) (pe_op op_mod (pe_ix ix_list (pv 1) pe_int (fun _ _=>rfl)) (pe_callB call_len_seq (by rfl) N.len PySem.boot_len (pa_cons (pe_ix ix_list (pv 2) (pv 3) (fun _ _=>rfl)) pa_nil))))
   (pss_cons (ps_if (pw_and (pt_cmpR op_eq (pe_op op_mod (pe_ix ix_list (pv 1) pe_int (fun _ _=>rfl)) pe_int) pe_int (nomark _)) (pw_and1 (pt_cmpR op_notN (pe_ix ix_list (pe_ix ix_list (pv 2) (pv 3) (fun _ _=>rfl)) (pv 4) (fun _ _=>rfl)) pe_non (nomark _)))).pt (pss_cons (ps_asg (pe_op op_add (pe_ix ix_list (pe_ix ix_list (pv 2) (pv 3) (fun _ _=>rfl)) (pv 4) (fun _ _=>rfl)) (pe_ix ix_list (pe_lst (pa_cons pe_int (pa_cons (pe_un un_neg pe_int) pa_nil))) (pe_op op_mod (pe_ix ix_list (pv 1) pe_int (fun _ _=>rfl)) pe_int) (fun _ _=>rfl))) (pg_sub (pe_ix ix_list (pv 2) (pv 3) (fun _ _=>rfl)) (pv 4) set_list))
    (pss_one (ps_ret (pv 2)))) pss_nil)
   (pss_cons (ps_if (pt_cmpR op_eq (pe_op op_mod (pe_ix ix_list (pv 1) pe_int (fun _ _=>rfl)) pe_int) pe_int (nomark _)) (pss_cons (ps_asg (pe_ix ix_list (pe_lst (pa_cons pe_non (pa_cons pe_int (pa_cons (pe_op op_mod (pe_ix ix_list (pv 1) pe_int (fun _ _=>rfl)) pe_int) (pa_cons pe_bl (pa_cons pe_str (pa_cons (pe_un un_neg pe_int) pa_nil))))))) (pe_op op_mod (pe_ix ix_list (pv 1) pe_int (fun _ _=>rfl)) pe_int) (fun _ _=>rfl)) (pg_sub (pe_ix ix_list (pv 2) (pv 3) (fun _ _=>rfl)) (pv 4) set_list))
    (pss_one (ps_ret (pv 2)))) pss_nil)
   (pss_cons (ps_if (pt_cmpR op_eq (pe_op op_mod (pe_ix ix_list (pv 1) pe_int (fun _ _=>rfl)) pe_int) pe_int (nomark _)) (pss_one (ps_ret (pe_op op_cat (pe_slice sl_list (pv 2) po_none (po_some (pv 3))) (pe_slice sl_list (pv 2) (po_some (pe_op op_add (pv 3) pe_int)) po_none)))) pss_nil)
   (pss_one (ps_ret (pe_ix ix_list (pe_lst (pa_cons (pe_op op_cat (pv 2) (pe_lst (pa_cons (pe_ix ix_list (pv 2) pe_int (fun _ _=>rfl)) pa_nil))) (pa_cons (pe_callTy call_tuple_of (by rfl) N.tuple PyProof.Rows.boot_tuple (pa_cons (pv 2) pa_nil)) (pa_cons (pe_op op_cat (pe_op op_cat (pe_slice sl_list (pv 2) po_none (po_some (pv 3))) (pe_lst (pa_cons (pe_callTy call_tuple_of (by rfl) N.tuple PyProof.Rows.boot_tuple (pa_cons (pe_ix ix_list (pv 2) (pv 3) (fun _ _=>rfl)) pa_nil)) pa_nil))) (pe_slice sl_list (pv 2) (po_some (pe_op op_add (pv 3) pe_int)) po_none)) (pa_cons pe_non pa_nil))))) (pe_op op_mod (pe_ix ix_list (pv 1) pe_int (fun _ _=>rfl)) pe_int) (fun _ _=>rfl))))))))),?_⟩
  try rw [show (cxOf CX0 P w K mg base nLOthTab "_law_other_table" (defScope sLOthTab) f cdv A outer s H E).nox.K=K from rfl]
  obtain ⟨as,t1,t2,t3⟩:=id hT
  refine seq_abs fun N1 hN=>?_
  refine ⟨_,rfl,tb,rfl,⟨_,SqL.of t1⟩,comp_listG (xs:=as.map V.ref) (fun D i l H'=>Same H H'∧H D=none∧H' D=some (.lst l)∧∃ bs:List Addr,l=bs.map V.ref∧bs.length=i∧Rws H H' N0 bs) (small (by rw [List.length_map]; omega)) (fun D hD=>⟨Same.put (Same.refl _) hD,hD,upd_same,[],rfl,rfl,fun p hp=>nomatch hp⟩) (fun D i l H' h=>SqL.of (h.1 _ _ t1)) (fun D i l H' ⟨_,_,_,bs,e1,e2,_⟩=>by rw [e1,List.length_map,e2]; exact Nat.le_refl _) ?_ ?_⟩
  ·rintro D i x l' H' Q' hx ⟨s',hD,hl2,bs,rfl,e2,hR⟩ hq
   rw [List.getElem?_map] at hx
   cases ek:as[i]? with
   | none=>rw [ek] at hx; cases hx
   | some p =>
    rw [ek] at hx
    cases hx
    have hlt:i < tbl.length:=by rw [← t2]; exact get_lt ek
    have et:tbl[i]?=some tbl[i]:=List.getElem?_eq_getElem hlt
    have hp:=s' _ _ (t3 i p _ ek et)
    have hln:=hrow _ (List.mem_of_getElem? et)
    generalize tbl[i]=row at *
    refine ⟨_,rfl,p,_,rfl,.inl (SqL.of hp),fun ln hln'=>?_⟩
    have nDl:D ≠ ln:=ne_of_none hl2 hln'
    refine hq _ _ (by rw [upd_ne nDl]; exact hl2) ⟨Same.put' (Same.put s' (s'.free hln')) hD,hD,upd_same,bs ++ [ln],by rw [List.map_append]; rfl,by rw [List.length_append,e2]; rfl,fun q hq'=>?_⟩
    rcases List.mem_append.mp hq' with z | z
    ·obtain ⟨z1,xs,z2,z3⟩:=hR q z
     have nqD:q ≠ D:=by
      rintro rfl
      rw [hl2] at z2
      cases z2
      cases bs with
      | nil=>cases z
      | cons b0 bs0 =>
       rcases z3.2 (.ref b0) List.mem_cons_self with y | ⟨_,y⟩ <;> cases y
     exact ⟨z1,xs,by rw [upd_ne nqD,upd_ne (ne_of_none z2 hln')]; exact z2,z3⟩
    ·rw [List.mem_singleton.mp z]
     exact ⟨s'.free hln',_,by rw [upd_ne (Ne.symm nDl),upd_same],by rw [List.length_map]; exact hln,fun x hx'=>by
      obtain ⟨o,_,rfl⟩:=List.mem_map.mp hx'
      exact IC.of o⟩
  rintro D l' H1 ⟨s1,hD,h1,bs,rfl,hbl,hR⟩
  rw [List.length_map] at hbl
  refine hN _ _ ?_
  clear hN N1
  have hbl2:bs.length=tbl.length:=by omega
  have hs1:=s1 _ _ hs
  refine seq_abs fun N1 hN=>?_
  refine ⟨_,rfl,sl,_,_,_,rfl,rfl,SqL.of hs1,n8 hn (j:=1) (by decide),_,rfl,D,_,rfl,.inl (SqL.of h1),_,_,rfl,rfl,(by show (0:Int) < ((bs.map V.ref).length:Int); rw [List.length_map]; omega),?_⟩
  refine hN _ _ ?_
  clear hN N1
  obtain ⟨r,er,hr'⟩:=mod_n (ns.getD 1 0) (n:=(bs.map V.ref).length) (by rw [List.length_map]; omega)
  rw [List.length_map] at hr'
  dsimp only
  rw [er]
  obtain ⟨p,ep⟩:∃ p,bs[r]?=some p:=⟨_,List.getElem?_eq_getElem hr'⟩
  have epj:(bs.map V.ref)[r]?=some (V.ref p):=by rw [List.getElem?_map,ep]; rfl
  have hpm:=List.mem_of_getElem? ep
  obtain ⟨hpf,xs,hpx,hxl,hxc⟩:=hR p hpm
  have nDp:D ≠ p:=by
   rintro rfl
   rw [h1] at hpx
   cases hpx
   cases bs with
   | nil=>cases hpm
   | cons b0 bs0 =>
    rcases hxc (.ref b0) List.mem_cons_self with y | ⟨_,y⟩ <;> cases y
  refine seq_abs fun N1 hN=>?_
  refine ⟨_,rfl,sl,_,_,_,rfl,rfl,SqL.of hs1,n8 hn (j:=2) (by decide),_,rfl,_,rfl,D,_,_,_,rfl,rfl,SqL.of h1,atI_nat epj,p,_,rfl,.inl (SqL.of hpx),_,_,rfl,rfl,(by show (0:Int) < (xs.length:Int); omega),?_⟩
  refine hN _ _ ?_
  clear hN N1
  obtain ⟨c,ec,hc⟩:=mod_n (ns.getD 2 0) (n:=xs.length) (by omega)
  dsimp only
  rw [ec]
  obtain ⟨y,ey⟩:∃ y,xs[c]?=some y:=⟨_,List.getElem?_eq_getElem hc⟩
  have hyc:=hxc y (List.mem_of_getElem? ey)
  have hixn:ixN xs.length (c:Int)=some c:=by
   unfold ixN
   rw [if_pos (by omega),if_pos (by omega)]
   rfl
  have hixr:∀ {n:Nat},r < n→ixN n (r:Int)=some r:=fun h=>by
   unfold ixN
   rw [if_pos (by omega),if_pos (by omega)]
   rfl
  -- a row changed
  have chg:∀ (G:Hp) (v:V),Same H1 G→CellOk v→Same H (upd G p (.lst (xs.set c v)))∧TabV (upd G p (.lst (xs.set c v))) (.ref D):=fun G v sG hv=>by
   refine ⟨Same.put (Same.trans s1 sG) hpf,.inl ⟨D,bs.map V.ref,rfl,by rw [upd_ne nDp]; exact sG _ _ h1,by rw [List.length_map]; omega,fun e he=>?_⟩⟩
   obtain ⟨q,hq,rfl⟩:=List.mem_map.mp he
   by_cases eq:q=p
   ·subst eq
    exact .inl ⟨q,_,rfl,upd_same,by rw [List.length_set]; omega,cells_set (fun x hx=>(hxc x hx).ok) hv⟩
   ·obtain ⟨_,ys,z1,z2,z3⟩:=hR q hq
    exact .inl ⟨q,ys,rfl,by rw [upd_ne eq]; exact sG _ _ z1,by omega,fun x hx=>(z3 x hx).ok⟩
  have fin:∀ (G:Hp) (v:V),Same H1 G→TabV G v→NewV H1 v→Q v G:=fun G v sG hv hw=>k v G (Same.trans s1 sG) hv (hw.mono s1)
  have hrows:=hR.row hN1
  have hbs:(bs.map V.ref).length ≤ 1000:=by rw [List.length_map]; omega
  have i3:∀ (G:Hp),IntE [some (.ref tb),some (.ref sl),some (.ref D),some (.int (r:Int)),some (.int (c:Int))] G (tVar 3):=fun G=>⟨(r:Int),fun H Q s q=>⟨_,rfl,q⟩⟩
  have i3':∀ (G:Hp) (z:Int),IntE [some (.ref tb),some (.ref sl),some (.ref D),some (.int (r:Int)),some (.int (c:Int))] G (tOp (rI0 fun i j=>.int (i + j)) (tVar 3) (tC (.int z))):=fun G z=>⟨(r:Int) + z,fun H Q s q=>⟨_,rfl,_,_,rfl,rfl,q⟩⟩
  refine seq_abs fun N1 hN=>?_
  have nxt:N1 [some (.ref tb),some (.ref sl),some (.ref D),some (.int (r:Int)),some (.int (c:Int))] H1:=hN _ _ (by
   clear hN N1
   refine seq_abs fun N1 hN=>?_
   refine ⟨_,rfl,sl,_,_,_,rfl,rfl,SqL.of hs1,n8 hn (j:=0) (by decide),_,_,rfl,rfl,(by show (0:Int) < 4; decide),rfl,_,rfl,ite2 (fun _=>?_) (fun _=>hN _ _ ?_)⟩
   ·refine seq_abs fun N1 hN=>?_
    refine ⟨_,rfl,sl,_,_,_,rfl,rfl,SqL.of hs1,n8 hn (j:=3) (by decide),_,_,rfl,rfl,(by show (0:Int) < 200; decide),_,rfl,(by show 6 ≤ sizeLine; decide),fun l6 hl6=>?_⟩
    generalize hG:upd H1 l6 _=H2
    have s2:Same H1 H2:=by rw [← hG]; exact Same.put (Same.refl _) hl6
    have h2:H2 l6=some (.lst [.non,.int 0,.int (ns.getD 3 0 % 200),.bl true,.str "0",.int (-1)]):=by rw [← hG]; exact upd_same
    clear hG
    obtain ⟨yv,ey2,hy2⟩:=at6 V.non (.int 0) (.int (ns.getD 3 0 % 200)) (.bl true) (.str "0") (.int (-1)) (ns.getD 3 0)
    have hyv:CellOk yv:=by
     rcases hy2 with rfl | rfl | rfl | rfl | rfl | rfl
     ·exact .inl rfl
     ·exact .inr (.inl ⟨_,rfl⟩)
     ·exact .inr (.inl ⟨_,rfl⟩)
     ·exact .inr (.inr (.inl ⟨_,rfl⟩))
     ·exact .inr (.inr (.inr ⟨_,rfl⟩))
     ·exact .inr (.inl ⟨_,rfl⟩)
    refine ⟨_,rfl,sl,_,_,_,rfl,rfl,SqL.of (s2 _ _ hs1),n8 hn (j:=3) (by decide),_,_,rfl,rfl,(by show (0:Int) < 6; decide),l6,_,_,_,rfl,rfl,SqL.of h2,ey2,?_⟩
    refine ⟨_,rfl,_,rfl,D,_,_,_,rfl,rfl,SqL.of (s2 _ _ h1),atI_nat epj,_,rfl,p,xs,_,c,rfl,rfl,s2 _ _ hpx,hixn,?_⟩
    refine hN _ _ ?_
    clear hN N1
    obtain ⟨z1,z2⟩:=chg H2 yv s2 hyv
    exact ⟨_,rfl,k _ _ z1 z2 (.of hD)⟩
   clear hN N1
   refine seq_abs fun N1 hN=>?_
   refine ⟨_,rfl,sl,_,_,_,rfl,rfl,SqL.of hs1,n8 hn (j:=0) (by decide),_,_,rfl,rfl,(by show (0:Int) < 4; decide),rfl,_,rfl,ite2 (fun _=>?_) (fun _=>hN _ _ ?_)⟩
   ·exact EUF.ret (H:=H1) (eu_catF (eu_till (b:=1000) rfl h1 hbs hrows (i3 H1)) (eu_from (b:=1000) rfl h1 hbs hrows (i3' H1 1)) (by decide)) (by decide) fun v H5 s5 hv hw=>fin H5 v s5 hv hw
   clear hN N1
   have hb0:(bs.map V.ref)[0]?=some (V.ref bs[0]):=by rw [List.getElem?_map,List.getElem?_eq_getElem (by omega)]; rfl
   have hr0:RowOk H1 (.ref bs[0]):=hrows _ (List.mem_of_getElem? hb0)
   have A1:EUF [some (.ref tb),some (.ref sl),some (.ref D),some (.int (r:Int)),some (.int (c:Int))] H1 (tOp rCat (tVar 2) (tLst (tCons (tOp (rIxL K) (tVar 2) (tC (.int 0))) tNil))) (1000 + 1):=eu_catF (fun G Q' sG hq=>⟨_,rfl,hq D _ G (Same.refl _) (sG _ _ h1) hbs fun e he=>((hrows e he).same (n:=0) sG).1⟩) (eu_one fun G Q' sG hq=>⟨_,rfl,D,_,_,_,rfl,rfl,SqL.of (sG _ _ h1),atI_nat (j:=0) hb0,hq _ G (Same.refl _) (hr0.same (n:=0) sG).1⟩) (by decide)
   have A3:EUF [some (.ref tb),some (.ref sl),some (.ref D),some (.int (r:Int)),some (.int (c:Int))] H1 (tOp rCat (tOp rCat (tSl (rSlL K) (tVar 2) tNoPart (tPart (tVar 3))) (tLst (tCons (tCB (fun xs H Q=>∃ p ys,xs=[.ref p]∧((SqL K H p ys∧∀ l,H l=none→Q (.ref l) (upd H l (.tup ys))) ∨ (SqT K H p ys∧Q (.ref p) H))) (tCons (tOp (rIxL K) (tVar 2) (tVar 3)) tNil)) tNil))) (tSl (rSlL K) (tVar 2) (tPart (tOp (rI0 fun i j=>.int (i + j)) (tVar 3) (tC (.int 1)))) tNoPart)) (1000 + 1 + 1000):=eu_catF (eu_cat (eu_till (b:=1000) rfl h1 hbs hrows (i3 H1)) (eu_one fun G Q' sG hq=>⟨_,rfl,_,rfl,D,_,_,_,rfl,rfl,SqL.of (sG _ _ h1),atI_nat epj,p,_,rfl,.inl ⟨SqL.of (sG _ _ hpx),fun tq htq=>hq _ _ (Same.put (Same.refl _) htq) (.inr ⟨tq,_,rfl,upd_same⟩)⟩⟩) (by decide)) (eu_from (b:=1000) rfl h1 hbs hrows (i3' H1 1)) (by decide)
   refine A1 H1 _ (Same.refl _) fun a1 es1 G1 g1 w1 q1 l1 e1=>?_
   refine ⟨_,rfl,D,_,rfl,.inl ⟨SqL.of (g1 _ _ h1),fun tq htq=>?_⟩⟩
   have w2:=g1.free htq
   generalize hG:upd G1 tq _=G2
   have g2:Same G1 G2:=by rw [← hG]; exact Same.put (Same.refl _) htq
   have q2:G2 tq=some (.tup (bs.map V.ref)):=by rw [← hG]; exact upd_same
   clear hG
   have g02:=Same.trans g1 g2
   refine A3 G2 _ g02 fun a3 es3 G3 g3 w3 q3 l3 e3=>?_
   refine ⟨(by show 4 ≤ sizeLine; decide),fun l5 hl5=>?_⟩
   generalize hG:upd G3 l5 _=G4
   have g4:Same G3 G4:=by rw [← hG]; exact Same.put (Same.refl _) hl5
   have q4:G4 l5=some (.lst [.ref a1,.ref tq,.ref a3,.non]):=by rw [← hG]; exact upd_same
   clear hG
   have g04:=Same.trans g02 (Same.trans g3 g4)
   obtain ⟨yv,ey2,hy2⟩:=at4 (V.ref a1) (.ref tq) (.ref a3) .non (ns.getD 3 0)
   refine ⟨_,rfl,sl,_,_,_,rfl,rfl,SqL.of (g04 _ _ hs1),n8 hn (j:=3) (by decide),_,_,rfl,rfl,(by show (0:Int) < 4; decide),l5,_,_,_,rfl,rfl,SqL.of q4,ey2,?_⟩
   refine fin G4 yv g04 ?_ ?_
   rotate_left
   ·rcases hy2 with rfl | rfl | rfl | rfl
    ·exact .of w1
    ·exact .of w2
    ·exact .of (g02.free w3)
    ·intro a e; cases e
   rcases hy2 with rfl | rfl | rfl | rfl
   ·exact .inl ⟨a1,es1,rfl,g4 _ _ (g3 _ _ (g2 _ _ q1)),by omega,fun e he=>((e1 e he).same (n:=0) (Same.trans g2 (Same.trans g3 g4))).1⟩
   ·exact .inr (.inl ⟨tq,_,rfl,g4 _ _ (g3 _ _ q2)⟩)
   ·exact .inl ⟨a3,es3,rfl,g4 _ _ q3,by omega,fun e he=>((e3 e he).same (n:=0) g4).1⟩
   ·exact .inr (.inr rfl))
  clear hN
  refine ⟨_,rfl,sl,_,_,_,rfl,rfl,SqL.of hs1,n8 hn (j:=0) (by decide),_,_,rfl,rfl,(by show (0:Int) < 4; decide),rfl,_,rfl,ite2 (fun _=>?_) (fun _=>iteF nxt)⟩
  refine ⟨_,rfl,_,rfl,D,_,_,_,rfl,rfl,SqL.of h1,atI_nat epj,_,rfl,p,_,_,_,rfl,rfl,SqL.of hpx,atI_nat ey,rfl,_,rfl,ite2 (fun hq=>?_) (fun _=>nxt)⟩
  obtain ⟨yz,rfl⟩:∃ yz:Int,y=.int yz:=by
   rcases hyc with rfl | z
   ·cases hq
   ·exact z
  refine seq_abs fun N1 hN=>?_
  refine ⟨_,rfl,_,rfl,D,_,_,_,rfl,rfl,SqL.of h1,atI_nat epj,_,rfl,p,_,_,_,rfl,rfl,SqL.of hpx,atI_nat ey,_,rfl,(by show 2 ≤ sizeLine; decide),fun l6 hl6=>?_⟩
  generalize hG:upd H1 l6 _=H2
  have s2:Same H1 H2:=by rw [← hG]; exact Same.put (Same.refl _) hl6
  have h2:H2 l6=some (.lst [.int 1,.int (-1)]):=by rw [← hG]; exact upd_same
  clear hG
  obtain ⟨yv,ey2,hy2⟩:=at2 (V.int 1) (.int (-1)) (ns.getD 3 0)
  obtain ⟨y2,rfl⟩:∃ y2:Int,yv=.int y2:=by
   rcases hy2 with rfl | rfl <;> exact ⟨_,rfl⟩
  refine ⟨_,rfl,sl,_,_,_,rfl,rfl,SqL.of (s2 _ _ hs1),n8 hn (j:=3) (by decide),_,_,rfl,rfl,(by show (0:Int) < 2; decide),l6,_,_,_,rfl,rfl,SqL.of h2,ey2,_,_,rfl,rfl,?_⟩
  refine ⟨_,rfl,_,rfl,D,_,_,_,rfl,rfl,SqL.of (s2 _ _ h1),atI_nat epj,_,rfl,p,xs,_,c,rfl,rfl,s2 _ _ hpx,hixn,?_⟩
  refine hN _ _ ?_
  clear hN N1
  obtain ⟨z1,z2⟩:=chg H2 (.int (yz + y2)) s2 (.inr (.inl ⟨_,rfl⟩))
  exact ⟨_,rfl,k _ _ z1 z2 (.of hD)⟩
end
end B64
namespace L2
open PySem PySem.Spec PyProof.Rows
section
variable {X:Cx} {C1:Addr} {n c1:Str} {np1 hp1 tpos:Pos} {tb:XK→TS} {T1:TS} {b1:Stmt} {su1 body:List Stmt} {i:Nat}
theorem Inv.pnIn {pins pins':List (Addr × Obj)} {σ:St} {H:Hp} {s:Shared} {xe:Value→Shared→Prop} (I:Inv { X with pn:=X.pn ++ pins,xe:=xe } pins' σ H s):Inv X pins σ H s :=
 ⟨⟨I.ok.mod,I.ok.kind,I.ok.glob,I.ok.blt,I.ok.above,I.ok.inj,I.ok.has,I.ok.cab,I.ok.hd,I.ok.frames,I.ok.stk,I.ok.exf,I.ok.bs,I.ok.bsz,I.ok.noex,I.ok.exfs,I.ok.funs,I.ok.frf⟩,I.os,I.bare,I.base,I.loc,I.cell,I.free,I.freeC,fun p hp=>I.pin p (List.mem_append_left _ hp),I.hok,I.len⟩
theorem Inv.pnOut {pins:List (Addr × Obj)} {σ:St} {H:Hp} {s:Shared} {xe:Value→Shared→Prop} (I:Inv X pins σ H s):Inv { X with pn:=X.pn ++ pins,xe:=xe } [] σ H s :=
 ⟨⟨I.ok.mod,I.ok.kind,I.ok.glob,I.ok.blt,I.ok.above,I.ok.inj,I.ok.has,I.ok.cab,I.ok.hd,I.ok.frames,I.ok.stk,I.ok.exf,I.ok.bs,I.ok.bsz,I.ok.noex,I.ok.exfs,I.ok.funs,I.ok.frf⟩,I.os,I.bare,I.base,I.loc,I.cell,I.free,I.freeC,fun p hp=>I.pin p (by simpa using hp),I.hok,I.len⟩
end
section
variable {X:Cx} {tg:Expr}
end
section
variable {X:Cx}
end
end L2
namespace B64
open PySem L2
section
open PySem.Spec PyProof.Rows
variable {X:Cx}
def sTryQ (tb:TS):TS:=fun D σ H=>tb { nx:=D.nx,rt:=fun _ _=>False } σ H
theorem ps_tryQ {h0:ExceptHandler} {hs:List ExceptHandler} {body:List Stmt} {tb:TS} {tpos:Pos} (hb:∀ (pn:List (Addr × Obj)) (xe:Value→Shared→Prop),Passes (Fly X.prog X.w) { X with pn:=pn,xe:=xe } (fun _ _ _=>False)→PSs { X with pn:=pn,xe:=xe } body tb) :
  PS X (.Try body (h0 :: hs) [] [] tpos) (sTryQ tb):=by
 intro pins s σ H D I h
 refine wpAny_Try_except ?_
 have body':=hb (X.pn ++ pins) (fun _ _=>False) (fun pins' σ' H' s0 e s' I' hq=>by
  obtain ⟨_,_,_,_,_,_,_,_,_,_,_,_,_,_,_,_,q⟩:=hq
  exact q) [] s σ H _ I.pnOut h
 refine wpAny_mono body' (fun f s1 z=>?_) (fun ev s1 z=>z.elim)
 cases f with
 | next =>
  obtain ⟨σ',H',I',q⟩:=z
  exact wpAny_execs_nil ⟨σ',H',I'.pnIn,q⟩
 | brk=>obtain ⟨_,_,_,q8⟩:=z; exact q8.elim
 | cont=>obtain ⟨_,_,_,q8⟩:=z; exact q8.elim
 | ret u=>obtain ⟨_,_,_,_,_,q8⟩:=z; exact q8.elim
theorem op_isT:OpR X (compareOp .Is) (fun x y H Q=>∃ b,x=.bl b∧y=.bl true∧Q (.bl b) H):=by
 intro pins s σ H x y v u Q I rx ry h
 obtain ⟨b,rfl,rfl,q⟩:=h
 obtain rfl:v=Value.bool b:=rx
 obtain rfl:u=Value.bool true:=ry
 show wpAny _ _ (do return Value.bool (← isSame (Value.bool b) (Value.bool true))) _ _ _
 have e:(Value.bool b == Value.bool true)=b:=by cases b <;> first | rfl | decide | simp | kernel_rfl
 unfold isSame
 refine wpAny_bind (wpAny_pure (wpAny_pure ⟨.bl b,H,I,?_,q⟩))
 show Value.bool (Value.bool b == Value.bool true)=Value.bool b
 rw [e]
theorem op_notT:OpR X (compareOp .IsNot) (fun x y H Q=>∃ b,x=.bl b∧y=.bl true∧Q (.bl (!b)) H):=by
 intro pins s σ H x y v u Q I rx ry h
 obtain ⟨b,rfl,rfl,q⟩:=h
 obtain rfl:v=Value.bool b:=rx
 obtain rfl:u=Value.bool true:=ry
 show wpAny _ _ (do return Value.bool (!(← isSame (Value.bool b) (Value.bool true)))) _ _ _
 have e:(Value.bool b == Value.bool true)=b:=by cases b <;> first | rfl | decide | simp | kernel_rfl
 unfold isSame
 refine wpAny_bind (wpAny_pure (wpAny_pure ⟨.bl (!b),H,I,?_,q⟩))
 show Value.bool (!(Value.bool b == Value.bool true))=Value.bool (!b)
 rw [e]
abbrev gTwo (K:PySem.W.Frag):TG:=gTup K 2 (gCons (gName 0) (gCons (gName 1) gNil))
theorem pg_twoK {K:PySem.W.Frag} (hK:X.K=K) {x y:Str} {px py pt:Pos} {kk:Nat} (hc:X.calm=true) (hN:X.N.Nodup) (h0:X.N[0]?=some x) (h1:X.N[1]?=some y) (hx:X.env.scope.names.lookup x=some .local) (hy:X.env.scope.names.lookup y=some .local)
  (ha:(assignEach [.Name x px,.Name y py] X.env).map (·.2)=[assign (.Name x px) X.env,assign (.Name y py) X.env]:=by rfl) (hb:(assignEach [.Name y py] X.env).map (·.2)=[assign (.Name y py) X.env]:=by rfl)
  (hn:(assignEach [.Name x px,.Name y py] X.env).length=2:=by rfl) (hst:(assignEach [.Name x px,.Name y py] X.env).findIdx? (·.1)=none:=by rfl):PG X (.Tuple [.Name x px,.Name y py] kk pt) (gTwo K):=by
 subst hK
 exact pg_tup hc (pgs_cons (pg_name hN h0 (.inl hx) (.inr hx)) (pgs_cons (pg_name hN h1 (.inl hy) (.inr hy)) pgs_nil (by rw [hb]; rfl)) (by rw [ha,hb])) hn hst
theorem comp_pairs {K:PySem.W.Frag} {a:Addr} {as:List Addr} {g1 g2:Nat→V} {te:TE} {σ:L2.St} {H:Hp} {Q:VK} (f:Nat→V) (hq:SqL K H a (as.map V.ref)) (hn:as.length < sizeLine) (hp:∀ (i:Nat) (p:Addr),as[i]?=some p→H p=some (.tup [g1 i,g2 i]))
  (he:∀ (D:Addr) (i:Nat) (l:List V) (Q':VK),H D=none→i < as.length→Q' (f i) (upd H D (.lst l))→te (some (g1 i) :: some (g2 i) :: σ) (upd H D (.lst l)) Q') (hd:∀ D,H D=none→Q (.ref D) (upd H D (.lst ((List.range as.length).map f)))) :
  CompGoN (Itl K a) H 2 σ (gTwo K) ttAll te Q:=by
 intro D hD
 refine ⟨fun i m H'=>m=as.length - i∧i ≤ as.length∧H'=upd H D (.lst ((List.range i).map f)),⟨as.length,by omega,Nat.zero_le _,rfl⟩,?_⟩
 rintro i m H' ⟨rfl,hi,rfl⟩
 have hs:Same H (upd H D (.lst ((List.range i).map f))):=fun b o e=>by rw [upd_ne (ne_of_none e hD)]; exact e
 have q:=hs.seq hq
 by_cases hlt:i < as.length
 ·obtain ⟨p,ep⟩:∃ p,as[i]?=some p:=⟨_,List.getElem?_eq_getElem hlt⟩
  have epm:(as.map V.ref)[i]?=some (V.ref p):=by rw [List.getElem?_map,ep]; rfl
  refine .inr ⟨⟨as.map V.ref,_,q,epm⟩,fun x H2 ρ lρ y=>?_⟩
  obtain ⟨e,y⟩:=y
  subst e
  have hx:=(y _ q).symm.trans epm
  cases hx
  match ρ,lρ with
  | [r0,r1],_ =>
   refine ⟨p,_,rfl,SqT.of (hs _ _ (hp i p ep)),rfl,_,_,rfl,_,_,rfl,rfl,⟨[some (g1 i),some (g2 i)],rfl,rfl⟩,?_⟩
   unfold ttAll
   refine iteT ?_
   refine he D i _ _ hD hlt ⟨_,upd_same,?_,as.length - (i + 1),by omega,rfl,hlt,?_⟩
   ·rw [List.length_map,List.length_range]; omega
   ·rw [upd_upd,List.range_succ,List.map_append]
    rfl
 ·have e:i=as.length:=by omega
  subst e
  exact .inl ⟨⟨as.map V.ref,q,by rw [List.length_map]; exact Nat.le_refl _⟩,hd D hD⟩
end
theorem len1 (ws:List (List Str)) (k:Nat):lenOf ws k (k + 1)=((gp ws.flatten k).length:Int) + jb ws k:=by
 unfold lenOf
 rw [end_succ]
 omega
theorem wide_excl {ws:List (List Str)} {wd:List Int} {i:Nat} {p:Str} (h:NoWide ws wd) (f:FirstWide ws wd i p):False:=by
 obtain ⟨b,hb,hle⟩:=h i (get_lt f.1)
 have:=f.2.1 b hb
 omega
theorem rows_le {ws:List (List Str)} {jt:Int} {wd:List Int} {ts:List Tr} (h:ValidR ws jt wd ts):∀ n,n ≤ ts.length→∀ i t,i < n→ts[i]?=some t→t.1 + 1 ≤ (stR ws jt wd (ts.take n)).1
 | 0,_,i,t,hi,_=>absurd hi (Nat.not_lt_zero _)
 | n + 1,hn,i,t,hi,e=>by
  have hg:ts[n]?=some ts[n]:=by simp
  have c:=(h n _ hg).1
  have es:(stR ws jt wd (ts.take (n + 1))).1=ts[n].1 + 1:=by rw [take_snoc hg,stR_snoc]; rfl
  by_cases ei:i=n
  ·subst ei
   rw [hg] at e
   have e2:ts[i]=t:=Option.some.inj e
   rw [es,e2]
   exact Nat.le_refl _
  ·have:=rows_le h n (by omega) i t (by omega) e
   omega
theorem end_there {ws:List (List Str)} {jt:Int} {wd:List Int} {m M:Nat} (h0:0 < ws.flatten.length) (hw:∀ r i,M ≤ r→i < ws.flatten.length→lenOf ws i (i + 1) ≤ wAt wd r) (hm:ws.flatten.length + M < m):allEnds ws jt wd m ≠ []:=by
 intro hz
 have no:∀ r i c,r < m→i < ws.flatten.length→at0 (tab ws jt wd r) i=some c→fitB ws wd r i ws.flatten.length=true→False:=fun r i c h1 h2 h3 h4=>by
  have z:=mem_allEnds.mpr ⟨r,i,c,h1,h2,h3,h4,rfl⟩
  rw [hz] at z
  cases z
 have go:∀ r,r < m→∃ i c,i < ws.flatten.length∧r ≤ i + M∧at0 (tab ws jt wd r) i=some c:=by
  intro r
  induction r with
  | zero=>intro _; exact ⟨0,0,h0,Nat.zero_le _,rfl⟩
  | succ r ih =>
   intro hr
   obtain ⟨i,c,hi,hle,hc⟩:=ih (by omega)
   cases hf:fitB ws wd r i (i + 1) with
   | true =>
    by_cases hl:i + 1 < ws.flatten.length
    ·obtain ⟨u,hu,_⟩:=step_up hc (steps_iff.mpr (.inl ⟨Nat.lt_succ_self i,hl,hf,rfl⟩))
     exact ⟨i + 1,u,hl,by omega,hu⟩
    ·have e:i + 1=ws.flatten.length:=by omega
     rw [e] at hf
     exact (no r i c (by omega) hi hc hf).elim
   | false =>
    have hlt:r < M:=by
     by_cases hrm:r < M
     ·exact hrm
     ·have z:=hw r i (by omega) hi
      unfold fitB at hf
      exact absurd z (of_decide_eq_false hf)
    have hmay:mayB ws wd r i=true:=by
     unfold mayB
     rw [hf,decide_eq_true hi]
     rfl
    obtain ⟨u,hu,_⟩:=step_up hc (steps_iff.mpr (.inr ⟨rfl,hmay,rfl⟩))
    exact ⟨i,u,hi,by omega,hu⟩
 obtain ⟨i,c,hi,hle,_⟩:=go (ws.flatten.length + M) (by omega)
 omega
def tabs (ws:List (List Str)) (jt:Int) (wd:List Int) (m:Nat):Tbl:=(List.range (m + 1)).map (tab ws jt wd)
theorem tabs_at {ws:List (List Str)} {jt:Int} {wd:List Int} {m r:Nat} {row:List (Option Int)} (h:(tabs ws jt wd m)[r]?=some row):r ≤ m∧row=tab ws jt wd r:=by
 unfold tabs at h
 have hl:=get_lt h
 rw [List.length_map,List.length_range] at hl
 rw [List.getElem?_map,List.getElem?_range hl] at h
 exact ⟨by omega,(Option.some.inj h).symm⟩
theorem trg_of {H:Hp} {l:Addr} {tr:List Tr} (h:TrAt H l tr):TrG H l (tr.map trI):=by
 obtain ⟨as,h1,h2,h3⟩:=h
 refine ⟨as,h1,by rw [List.length_map,h2],fun k p t e1 e2=>?_⟩
 rw [List.getElem?_map] at e2
 cases e:tr[k]? with
 | none=>rw [e] at e2; cases e2
 | some t' =>
  rw [e] at e2
  cases e2
  exact h3 k p t' e1 e
theorem tabg_of {H:Hp} {l:Addr} {ws:List (List Str)} {jt:Int} {wd:List Int} {m:Nat} (h:TabAt H l ws jt wd m):TabG H l (tabs ws jt wd m):=by
 obtain ⟨as,h1,h2,h3⟩:=h
 refine ⟨as,h1,by unfold tabs; rw [List.length_map,List.length_range,h2],fun r p row e1 e2=>?_⟩
 rw [(tabs_at e2).2]
 exact h3 r p e1
theorem tabs_rows {ws:List (List Str)} {jt:Int} {wd:List Int} {m:Nat} (hj:0 ≤ jt):RowsR (ws.flatten.length + 1) (tabs ws jt wd m):=fun row hr=>by
 obtain ⟨r,hr⟩:=List.getElem?_of_mem hr
 obtain ⟨_,rfl⟩:=tabs_at hr
 refine ⟨tab_len _ _ _ _,fun z hz=>?_⟩
 obtain ⟨i,hi⟩:=List.getElem?_of_mem hz
 refine tab_nonneg (ws:=ws) (wd:=wd) (r:=r) (j:=i) hj (u:=z) ?_
 unfold at0
 rw [hi]
 rfl
theorem good_of {ws:List (List Str)} {jt:Int} {wd:List Int} {m R:Nat} {H:Hp} {l tb:Addr} {tr:List Tr} (hTr:TrAt H l tr) (hT:TabAt H tb ws jt wd m) (hj:0 ≤ jt) (hV:ValidR ws jt wd tr) (hrow:∀ t ∈ tr,t.1 < m) (hpl:(stR ws jt wd tr).2.1=ws.flatten.length) (hE:EndR tr R)
  (hless:∀ r,r < m→NoLess ws jt wd r (sumTo (rowC ws jt wd tr) R) R):GoodS ws jt wd m H (.ref l) (.ref tb) tr (tabs ws jt wd m) R where
 t:=⟨l,rfl,trg_of hTr⟩
 u:=⟨tb,rfl,tabg_of hT⟩
 v:=hV
 rows:=hrow
 pl:=hpl
 len:=by unfold tabs; rw [List.length_map,List.length_range]
 rl:=tabs_rows hj
 z:=by
  unfold gt tabs
  rw [List.getElem?_map,List.getElem?_range (Nat.succ_pos m)]
  rfl
 en:=hE
 st:=fun r a b hr e1 e2=>by
  obtain ⟨_,rfl⟩:=tabs_at e1
  obtain ⟨_,rfl⟩:=tabs_at e2
  refine ⟨fun i c hc s hs=>?_,fun i c hi hc hf=>hless r hr i c hi hc hf⟩
  obtain ⟨j,d⟩:=s
  exact step_up hc hs
theorem full_rows {ws:List (List Str)} {jt:Int} {wd:List Int} {m R p:Nat} {C:Int} {tr:List Tr} (hF:FullR ws jt wd R p C tr) (hR:R < m):∀ t ∈ tr,t.1 < m:=fun t ht=>by
 obtain ⟨i,hi⟩:=List.getElem?_of_mem ht
 have:=rows_le hF.valid tr.length (Nat.le_refl _) i t (get_lt hi) hi
 rw [List.take_length,hF.row] at this
 omega
theorem good_full {ws:List (List Str)} {jt:Int} {wd:List Int} {m R p:Nat} {C:Int} {H:Hp} {l tb:Addr} {tr:List Tr} (hTr:TrAt H l tr) (hT:TabAt H tb ws jt wd m) (hj:0 ≤ jt) (hF:FullR ws jt wd R p C tr) (hR:R < m) (hless:∀ r,r < m→NoLess ws jt wd r C R) :
  GoodS ws jt wd m H (.ref l) (.ref tb) tr (tabs ws jt wd m) R:=by
 obtain ⟨ts,e⟩:=hF.last
 exact good_of hTr hT hj hF.valid (full_rows hF hR) hF.place (.inr ⟨ts,p,_,e⟩) (by rw [hF.sum]; exact hless)
theorem good_nil {ws:List (List Str)} {jt:Int} {wd:List Int} {m:Nat} {H:Hp} {l tb:Addr} (hTr:TrAt H l []) (hT:TabAt H tb ws jt wd m) (hj:0 ≤ jt) (h0:ws.flatten.length=0):GoodS ws jt wd m H (.ref l) (.ref tb) [] (tabs ws jt wd m) 0 :=
 good_of hTr hT hj ValidR.nil (fun t ht=>nomatch ht) h0.symm (.inl ⟨rfl,rfl⟩) fun r hr i c hi=>by omega
theorem TrV.put {H:Hp} {v:V} {lo:Addr} {zs ys:List V} (h:TrV H v) (hn:v ≠ .ref lo) (hl:H lo=some (.lst zs)):TrV (upd H lo (.lst ys)) v:=by
 rcases h with ⟨l,es,rfl,h1,h2,h3⟩ | ⟨l,es,rfl,h1⟩ | rfl
 ·have nl:l ≠ lo:=fun z=>hn (by rw [z])
  refine .inl ⟨l,es,rfl,by rw [upd_ne nl]; exact h1,h2,fun e he=>?_⟩
  rcases h3 e he with ⟨p,t,rfl,hp⟩ | rfl | ⟨p,xs,rfl,hp⟩
  ·have np:p ≠ lo:=by rintro rfl; rw [hl] at hp; cases hp
   exact .inl ⟨p,t,rfl,by rw [upd_ne np]; exact hp⟩
  ·exact .inr (.inl rfl)
  ·by_cases e:p=lo
   ·subst e; exact .inr (.inr ⟨p,_,rfl,upd_same⟩)
   ·exact .inr (.inr ⟨p,xs,rfl,by rw [upd_ne e]; exact hp⟩)
 ·have nl:l ≠ lo:=fun z=>hn (by rw [z])
  exact .inr (.inl ⟨l,es,rfl,by rw [upd_ne nl]; exact h1⟩)
 ·exact .inr (.inr rfl)
theorem TabV.put {H:Hp} {v:V} {lo q:Addr} {zs ys:List V} (h:TabV H v) (hn:v ≠ .ref lo) (hl:H lo=some (.lst zs)) (hz:V.ref q ∈ zs):TabV (upd H lo (.lst ys)) v:=by
 rcases h with ⟨l,es,rfl,h1,h2,h3⟩ | ⟨l,es,rfl,h1⟩ | rfl
 ·have nl:l ≠ lo:=fun z=>hn (by rw [z])
  refine .inl ⟨l,es,rfl,by rw [upd_ne nl]; exact h1,h2,fun e he=>?_⟩
  rcases h3 e he with ⟨p,xs,rfl,hp,hx,hc⟩ | ⟨p,xs,rfl,hp⟩
  ·have np:p ≠ lo:=by
    rintro rfl
    rw [hl] at hp
    cases hp
    rcases hc _ hz with z | ⟨_,z⟩ | ⟨_,z⟩ | ⟨_,z⟩ <;> cases z
   exact .inl ⟨p,xs,rfl,by rw [upd_ne np]; exact hp,hx,hc⟩
  ·have np:p ≠ lo:=by rintro rfl; rw [hl] at hp; cases hp
   exact .inr ⟨p,xs,rfl,by rw [upd_ne np]; exact hp⟩
 ·have nl:l ≠ lo:=fun z=>hn (by rw [z])
  exact .inr (.inl ⟨l,es,rfl,by rw [upd_ne nl]; exact h1⟩)
 ·exact .inr (.inr rfl)
theorem GoodS.same {ws:List (List Str)} {jt:Int} {wd:List Int} {m R:Nat} {H H':Hp} {v u:V} {tr:List Tr} {tbl:Tbl} (g:GoodS ws jt wd m H v u tr tbl R) (s:Same H H'):GoodS ws jt wd m H' v u tr tbl R:=by
 obtain ⟨⟨l,e,as,a1,a2,a3⟩,⟨tb,e',hB⟩,g3,g4,g5,g6,g7,g8,g9,g10⟩:=g
 exact ⟨⟨l,e,as,s _ _ a1,a2,fun k p t e1 e2=>s _ _ (a3 k p t e1 e2)⟩,⟨tb,e',hB.same s⟩,g3,g4,g5,g6,g7,g8,g9,g10⟩
theorem GoodS.less {ws:List (List Str)} {jt:Int} {wd:List Int} {m R:Nat} {H H':Hp} {v u:V} {tr:List Tr} {tbl:Tbl} (g:GoodS ws jt wd m H' v u tr tbl R) (s:Same H H') (hv:TrV H v) (hu:TabV H u):GoodS ws jt wd m H v u tr tbl R:=by
 obtain ⟨⟨l,e,as,a1,a2,a3⟩,⟨tb,e',bs,b1,b2,b3⟩,g3,g4,g5,g6,g7,g8,g9,g10⟩:=g
 subst e e'
 refine ⟨⟨l,rfl,?_⟩,⟨tb,rfl,?_⟩,g3,g4,g5,g6,g7,g8,g9,g10⟩
 ·rcases hv with ⟨l',es,e,h1,h2,h3⟩ | ⟨l',es,e,h1⟩ | e
  ·cases e
   have ez:=(s _ _ h1).symm.trans a1
   cases ez
   refine ⟨as,h1,a2,fun k p t e1 e2=>?_⟩
   have z:=a3 k p t e1 e2
   rcases h3 (.ref p) (List.mem_map.mpr ⟨p,List.mem_of_getElem? e1,rfl⟩) with ⟨p',t',ep,hp⟩ | ep | ⟨p',xs,ep,hp⟩
   ·cases ep
    rw [s _ _ hp] at z
    rw [hp]
    exact z
   ·cases ep
   ·cases ep
    rw [s _ _ hp] at z
    cases z
  ·cases e
   have ez:=(s _ _ h1).symm.trans a1
   cases ez
  ·cases e
 ·rcases hu with ⟨l',es,e,h1,h2,h3⟩ | ⟨l',es,e,h1⟩ | e
  ·cases e
   have ez:=(s _ _ h1).symm.trans b1
   cases ez
   refine ⟨bs,h1,b2,fun k p t e1 e2=>?_⟩
   have z:=b3 k p t e1 e2
   rcases h3 (.ref p) (List.mem_map.mpr ⟨p,List.mem_of_getElem? e1,rfl⟩) with ⟨p',xs,ep,hp,_,_⟩ | ⟨p',xs,ep,hp⟩
   ·cases ep
    rw [s _ _ hp] at z
    rw [hp]
    exact z
   ·cases ep
    rw [s _ _ hp] at z
    cases z
  ·cases e
   have ez:=(s _ _ h1).symm.trans b1
   cases ez
  ·cases e
theorem trv_of {H:Hp} {l:Addr} {as:List Addr} {tr:List Tr} (h:H l=some (.lst (as.map V.ref))) (h2:as.length=tr.length) (h3:∀ (k:Nat) (p:Addr) (t:Tr),as[k]?=some p→tr[k]?=some t→H p=some (.tup (trV t))) (hl:tr.length ≤ 10000):TrV H (.ref l):=by
 refine .inl ⟨l,_,rfl,h,by rw [List.length_map]; omega,fun e he=>?_⟩
 obtain ⟨p,hp,rfl⟩:=List.mem_map.mp he
 obtain ⟨k,hk⟩:=List.getElem?_of_mem hp
 obtain ⟨t,ht⟩:=get_of hk h2
 exact .inl ⟨p,trI t,rfl,h3 k p t hk ht⟩
theorem tabv_of {H:Hp} {l:Addr} {ws:List (List Str)} {jt:Int} {wd:List Int} {m:Nat} (h:TabAt H l ws jt wd m) (hm:m ≤ 200) (hn:ws.flatten.length ≤ 1000):TabV H (.ref l):=by
 obtain ⟨as,h1,h2,h3⟩:=h
 refine .inl ⟨l,_,rfl,h1,by rw [List.length_map]; omega,fun e he=>?_⟩
 obtain ⟨p,hp,rfl⟩:=List.mem_map.mp he
 obtain ⟨k,hk⟩:=List.getElem?_of_mem hp
 refine .inl ⟨p,_,rfl,h3 k p hk,by rw [List.length_map,tab_len]; omega,fun x hx=>?_⟩
 obtain ⟨o,_,rfl⟩:=List.mem_map.mp hx
 exact (IC.of o).ok
theorem cut_ints (ns:List Int) (lo hi:Nat):∃ ms:List Int,cutV (ns.map V.int) (some (lo:Int)) (some (hi:Int))=ms.map V.int∧ms.length ≤ hi - lo:=by
 refine ⟨(ns.drop (min lo ns.length)).take (min hi ns.length - min lo ns.length),?_,by rw [List.length_take]; omega⟩
 unfold cutV
 rw [HT.sIx_nat,HT.sIx_nat,List.length_map,List.map_take,List.map_drop]
theorem cut_4 {ns:List Int} (h:ns.length=8):cutV (ns.map V.int) (some (4:Int)) none ++ cutV (ns.map V.int) none (some (4:Int))=(ns.drop 4 ++ ns.take 4).map V.int:=by
 have e1:=HT.sIx_nat (ns.map V.int).length 0 4
 have e2:=HT.sIx_nat (ns.map V.int).length (ns.map V.int).length 4
 have c1:((4:Nat):Int)=(4:Int):=rfl
 rw [c1] at e1 e2
 unfold cutV
 rw [e1,e2,HT.sIx_none,HT.sIx_none,List.length_map,h,List.map_append,List.map_take,List.map_drop]
 congr 1
 rw [List.take_of_length_le (by rw [List.length_drop,List.length_map,h]; decide)]
 rfl
def widths4 (nn:List Int) (m:Nat) (W:Int):List Int:=((List.range m).map fun k=>gi nn (2 + k) % 13) ++ [W + gi nn 5 % 8]
theorem widths4_ok (nn:List Int) {m:Nat} {W:Int} (h:m ≤ 4) (h0:0 ≤ W) (h1:W ≤ 20000):WideOk (widths4 nn m W):=by
 unfold widths4
 refine ⟨by simp,by rw [List.length_append,List.length_map,List.length_range,List.length_singleton]; omega,fun v hv=>?_⟩
 rcases List.mem_append.mp hv with z | z
 ·obtain ⟨k,_,e⟩:=List.mem_map.mp z
  subst e
  have h1:0 ≤ gi nn (2 + k) % 13:=Int.emod_nonneg _ (by decide)
  have h2:gi nn (2 + k) % 13 < 13:=Int.emod_lt_of_pos _ (by decide)
  omega
 ·rw [List.mem_singleton.mp z]
  have h1:0 ≤ gi nn 5 % 8:=Int.emod_nonneg _ (by decide)
  have h2:gi nn 5 % 8 < 8:=Int.emod_lt_of_pos _ (by decide)
  omega
theorem widths4_len (nn:List Int) (m:Nat) (W:Int):(widths4 nn m W).length=m + 1:=by
 unfold widths4
 rw [List.length_append,List.length_map,List.length_range,List.length_singleton]
theorem widths4_no {ws:List (List Str)} (nn:List Int) (m:Nat) {W:Int} (h:∀ i,i < ws.flatten.length→lenOf ws i (i + 1) ≤ W):NoWide ws (widths4 nn m W):=fun i hi=>by
 have h1:0 ≤ gi nn 5 % 8:=Int.emod_nonneg _ (by decide)
 exact ⟨_,List.mem_append_right _ (List.mem_singleton.mpr rfl),by have:=h i hi; omega⟩
theorem widths4_at (nn:List Int) (m:Nat) (W:Int) {r:Nat} (h:m ≤ r):W ≤ wAt (widths4 nn m W) r:=by
 have h1:0 ≤ gi nn 5 % 8:=Int.emod_nonneg _ (by decide)
 have e:wAt (widths4 nn m W) r=W + gi nn 5 % 8:=by
  unfold wAt
  rw [widths4_len,show min r (m + 1 - 1)=m by omega]
  unfold widths4
  rw [List.getElem?_append_right (by rw [List.length_map,List.length_range]; exact Nat.le_refl _),List.length_map,List.length_range,Nat.sub_self]
  rfl
 omega
end B64
namespace B64
open PySem L2
def sLawTry (K:PySem.W.Frag) (CT CN:Addr):TS:=tAsg (tCall (spSetRows CT CN) [] (fun _ _ _=>False) (tCons (tVar 1) (tCons (tVar 4) (tCons (tCB (fun xs H Q=>∃ p ys,xs=[.ref p]∧(SqL K H p ys ∨ SqT K H p ys)∧∀ l,H l=none→Q (.ref l) (upd H l (.lst ys))) (tCons (tVar 6) tNil)) (tCons (tVar 7) tNil))))) (gTup K 2 (gCons (gName 8) (gCons (gName 9) gNil)))
section
variable {P:Program} {w:World} {K:PySem.W.Frag} {mg:Str→Option Value} {base:Heap}
abbrev nLaw:List Str:=["_law_script","_law_words_here","_law_pieces_here","_law_some","_law_joint","_law_widest","_law_widths","_law_many","_law_triples","_law_table","_law_another_here","_law_cell","_law_more","_law_others","_law_due_here","_law_found"]
theorem scLaw:FnScope nLaw ["_law_script"] (defScope sLaw):=⟨rfl,rfl,rfl,by decide +kernel,rfl,by decide +kernel,by decide +kernel⟩
theorem scLawN0:(["_law_size_here","_law_mark","_law_script","_law_words_here","_law_pieces_here","_law_some","_law_joint","_law_widest","_law_widths","_law_many","_law_triples","_law_table","_law_another_here","_law_cell","_law_more","_law_others","_law_due_here","_law_found"]:List Str).Nodup:=by decide +kernel
set_option maxHeartbeats 16000000 in
theorem ok_law {f f1 f2 f3 f4 f5 f6 f7 f8 f9 f10:Addr} {fd d1 d2 d3 d4 d5 d6 d7 d8 d9 d10:FuncData} {CT CN:Addr} (F:Fun K "law" "law" sLaw f fd) (N:Names mg)
  (G1:FnOk P w K mg base CX0 2 f1 d1 ["_law_cells"] (spWords K)) (b1:Binds K d1 ["_law_cells"] []) (m1:mg "_law_words"=some (.ref f1)) (k1:PySem.W.keepIn K (.ref f1)=true)
  (G2:FnOk P w K mg base CX0 1 f2 d2 ["_law_words_here"] spLPieces) (b2:Binds K d2 ["_law_words_here"] []) (m2:mg "_law_pieces"=some (.ref f2)) (k2:PySem.W.keepIn K (.ref f2)=true)
  (G3:FnOk P w K mg base CX0 1 f3 d3 ["_law_cell","_law_many"] spNumbers) (b3:Binds K d3 ["_law_cell","_law_many"] []) (m3:mg "_law_numbers"=some (.ref f3)) (k3:PySem.W.keepIn K (.ref f3)=true)
  (G4:FnOk P w K mg base CX0 1 f4 d4 ["_law_script","_law_k"] (spCell K)) (b4:Binds K d4 ["_law_script","_law_k"] []) (m4:mg "_law_cell_at"=some (.ref f4)) (k4:PySem.W.keepIn K (.ref f4)=true)
  (G5:FnOk P w K mg base (Fly P w) 8 f5 d5 ["WORDS","JOINT","widths","many"] (spSetRows CT CN)) (b5:Binds K d5 ["WORDS","JOINT","widths","many"] []) (m5:mg "set_rows"=some (.ref f5)) (k5:PySem.W.keepIn K (.ref f5)=true)
  (G6:FnOk P w K mg base CX0 6 f6 d6 ["WORDS","JOINT","widths","many","triples","table"] spShownG) (b6:Binds K d6 ["WORDS","JOINT","widths","many","triples","table"] []) (m6:mg "rows_shown"=some (.ref f6)) (k6:PySem.W.keepIn K (.ref f6)=true)
  (G7:FnOk P w K mg base CX0 4 f7 d7 ["_law_pieces_here","_law_joint","_law_widths","_law_triples","_law_table"] spAnother) (b7:Binds K d7 ["_law_pieces_here","_law_joint","_law_widths","_law_triples","_law_table"] []) (m7:mg "_law_another"=some (.ref f7)) (k7:PySem.W.keepIn K (.ref f7)=true)
  (G8:FnOk P w K mg base CX0 1 f8 d8 ["_law_triples","_law_some"] spOthTr) (b8:Binds K d8 ["_law_triples","_law_some"] []) (m8:mg "_law_other_triples"=some (.ref f8)) (k8:PySem.W.keepIn K (.ref f8)=true)
  (G9:FnOk P w K mg base CX0 1 f9 d9 ["_law_table","_law_some"] spOthTab) (b9:Binds K d9 ["_law_table","_law_some"] []) (m9:mg "_law_other_table"=some (.ref f9)) (k9:PySem.W.keepIn K (.ref f9)=true)
  (G10:FnOk P w K mg base CX0 4 f10 d10 ["_law_pieces_here","_law_joint","_law_widths","_law_many","_law_triples","_law_table"] spDue) (b10:Binds K d10 ["_law_pieces_here","_law_joint","_law_widths","_law_many","_law_triples","_law_table"] []) (m10:mg "_law_due"=some (.ref f10)) (k10:PySem.W.keepIn K (.ref f10)=true):FnOk P w K mg base CX0 9 f fd ["_law_script"] (spLaw K):=by
 refine F.ok scLaw (fun vs H Q E h=>?_) (fun cdv A outer s H vs Q E hr h=>?_)
 ·obtain ⟨a,ns,e,_⟩:=h
  rw [e]
  rfl
 ·obtain ⟨a,ns,e,hS,hn,k⟩:=h
  subst e
  have hr1:=hr.mono (j:=1) (by decide)
  have hr2:=hr.mono (j:=2) (by decide)
  have hr4:=hr.mono (j:=4) (by decide)
  have hr6:=hr.mono (j:=6) (by decide)
  have hr8:=hr.mono (j:=8) (by decide)
  refine ⟨_,pss_cons (ps_set (i:=1) scLaw.nd rfl (Or.inl rfl) (pe_call G1 hr2 (by rfl) m1 k1 b1 .nil pass0 (pa_cons (pe_slice sl_list (pv 0) (po_some pe_int) (po_some pe_int)) pa_nil)))
   (pss_cons (ps_set (i:=2) scLaw.nd rfl (Or.inl rfl) (pe_call G2 hr1 (by rfl) m2 k2 b2 .nil pass0 (pa_cons (pv 1) pa_nil)))
   (pss_cons (ps_set (i:=3) scLaw.nd rfl (Or.inr rfl) (pe_call G3 hr1 (by rfl) m3 k3 b3 .nil pass0 (pa_cons (pe_call G4 hr1 (by rfl) m4 k4 b4 .nil pass0 (pa_cons (pv 0) (pa_cons pe_int pa_nil))) (pa_cons pe_int pa_nil))))
   (pss_cons (ps_set (i:=4) scLaw.nd rfl (Or.inl rfl) (pe_op op_mod (pe_ix ix_list (pv 3) pe_int (fun _ _=>rfl)) pe_int))
   (pss_cons (ps_set (i:=5) scLaw.nd rfl (Or.inl rfl) (pe_callB (call_maxL rfl) (by rfl) N.max PyProof.Rows.boot_max (pa_cons (pe_op op_cat (pe_lst (pa_cons pe_int pa_nil)) (pe_compN (k:=2) (N':=["_law_size_here","_law_mark","_law_script","_law_words_here","_law_pieces_here","_law_some","_law_joint","_law_widest","_law_widths","_law_many","_law_triples","_law_table","_law_another_here","_law_cell","_law_more","_law_others","_law_due_here","_law_found"]) (compScN_mk (fs:=defScope sLaw) (N:=nLaw) rfl rfl (by decide +kernel)) rfl (pi_list (pv 2)) (fun _ _ _ _ _=>pg_twoK (K:=K) rfl rfl scLawN0 rfl rfl rfl rfl) (fun _ _ _ _ _=>pts_nil) (fun _ _ _ _ _=>(pe_op op_add (pv 0) (pv 1))))) pa_nil)))
   (pss_cons (ps_set (i:=6) scLaw.nd rfl (Or.inl rfl) (pe_op op_cat (pe_comp (compSc_mk (fs:=defScope sLaw) (N:=nLaw) rfl rfl (by decide +kernel)) rfl (pi_range1 rfl N.range (pa_cons (pe_op op_mod (pe_ix ix_list (pv 3) pe_int (fun _ _=>rfl)) pe_int) pa_nil)) (fun _ _ _ _ _=>pts_nil) (fun _ _ _ _ _=>(pe_op op_mod (pe_ix (r:=rIxL K) ix_list (pv 4) (pe_op op_add pe_int (pv 0)) (fun _ _=>rfl)) pe_int))) (pe_lst (pa_cons (pe_op op_add (pv 5) (pe_op op_mod (pe_ix ix_list (pv 3) pe_int (fun _ _=>rfl)) pe_int)) pa_nil))))
   (pss_cons (ps_set (i:=7) scLaw.nd rfl (Or.inl rfl) (pe_op op_add (pe_op op_add (pe_callB call_len_seq (by rfl) N.len PySem.boot_len (pa_cons (pv 2) pa_nil)) (pe_callB call_len_seq (by rfl) N.len PySem.boot_len (pa_cons (pv 6) pa_nil))) (pe_op op_mod (pe_ix ix_list (pv 3) pe_int (fun _ _=>rfl)) pe_int)))
   (pss_cons (ps_tryQ (tb:=sLawTry K CT CN) (fun pn xe hx=>(pss_one (ps_asg (pe_call G5 hr8 (by rfl) m5 k5 b5 .nil hx (pa_cons (pv 1) (pa_cons (pv 4) (pa_cons (pe_callTy (call_listK (K:=K) rfl) (by rfl) N.list PyProof.Rows.boot_list (pa_cons (pv 6) pa_nil)) (pa_cons (pv 7) pa_nil))))) (pg_tup rfl (pgs_cons (pg_name (i:=8) scLaw.nd rfl (Or.inl rfl)) (pgs_cons (pg_name (i:=9) scLaw.nd rfl (Or.inl rfl)) pgs_nil)))))))
   (pss_cons (ps_if (pt_cmpR op_notT (pe_call G6 hr6 (by rfl) m6 k6 b6 .nil pass0 (pa_cons (pv 1) (pa_cons (pv 4) (pa_cons (pv 6) (pa_cons (pv 7) (pa_cons (pv 8) (pa_cons (pv 9) pa_nil))))))) pe_bl (nomark _)) (pss_one (ps_ret pe_bl)) pss_nil)
   (pss_cons (ps_set (i:=10) scLaw.nd rfl (Or.inl rfl) (pe_call G7 hr4 (by rfl) m7 k7 b7 .nil pass0 (pa_cons (pv 2) (pa_cons (pv 4) (pa_cons (pv 6) (pa_cons (pv 8) (pa_cons (pv 9) pa_nil)))))))
   (pss_cons (ps_if (pt_cmpR op_notT (pe_call G6 hr6 (by rfl) m6 k6 b6 .nil pass0 (pa_cons (pv 1) (pa_cons (pv 4) (pa_cons (pv 6) (pa_cons (pv 7) (pa_cons (pv 10) (pa_cons (pv 9) pa_nil))))))) pe_bl (nomark _)) (pss_one (ps_ret pe_bl)) pss_nil)
   (pss_cons (ps_for PassesOwn.never rfl (pi_list (pe_slice sl_list (pv 0) (po_some pe_int) (po_some pe_int))) (pg_name (i:=11) scLaw.nd rfl (Or.inl rfl))
    (pss_cons (ps_set (i:=12) scLaw.nd rfl (Or.inl rfl) (pe_call G3 hr1 (by rfl) m3 k3 b3 .nil pass0 (pa_cons (pe_op op_fdiv (pv 11) pe_int) (pa_cons pe_int pa_nil))))
    (pss_cons (ps_set (i:=13) scLaw.nd rfl (Or.inl rfl) (pe_lst (pa_cons (pe_callTy call_list_of (by rfl) N.list PyProof.Rows.boot_list (pa_cons (pv 8) pa_nil)) (pa_cons (pe_comp (compSc_mk (fs:=defScope sLaw) (N:=nLaw) rfl rfl (by decide +kernel)) rfl (pi_list (pv 9)) (fun _ _ _ _ _=>pts_nil) (fun _ _ _ _ _=>(pe_callTy (call_listK (K:=K) rfl) (by rfl) N.list PyProof.Rows.boot_list (pa_cons (pv 0) pa_nil)))) pa_nil))))
    (pss_cons (ps_if (pw_and (pt_cmpR op_gt (pe_op op_mod (pe_ix ix_list (pv 12) pe_int (fun _ _=>rfl)) pe_int) pe_int (nomark _)) (pw_and1 (pt_cmpR op_gt (pe_callB call_len_seq (by rfl) N.len PySem.boot_len (pa_cons (pv 8) pa_nil)) pe_int (nomark _)))).pt (pss_one (ps_asg (pe_call G8 hr1 (by rfl) m8 k8 b8 .nil pass0 (pa_cons (pv 8) (pa_cons (pv 12) pa_nil))) (pg_sub (pv 13) pe_int set_list))) pss_nil)
    (pss_cons (ps_if (pt_cmpR op_ne (pe_op op_mod (pe_ix ix_list (pv 12) pe_int (fun _ _=>rfl)) pe_int) pe_int (nomark _)) (pss_one (ps_asg (pe_call G9 hr1 (by rfl) m9 k9 b9 .nil pass0 (pa_cons (pv 9) (pa_cons (pe_op op_cat (pe_slice sl_list (pv 12) (po_some pe_int) po_none) (pe_slice sl_list (pv 12) po_none (po_some pe_int))) pa_nil))) (pg_sub (pv 13) pe_int set_list))) pss_nil)
    (pss_cons (ps_set (i:=14) scLaw.nd rfl (Or.inl rfl) (pe_call G10 hr4 (by rfl) m10 k10 b10 .nil pass0 (pa_cons (pv 2) (pa_cons (pv 4) (pa_cons (pv 6) (pa_cons (pv 7) (pa_cons (pe_ix ix_list (pv 13) pe_int (fun _ _=>rfl)) (pa_cons (pe_ix ix_list (pv 13) pe_int (fun _ _=>rfl)) pa_nil))))))))
    (pss_cons (ps_set (i:=15) scLaw.nd rfl (Or.inl rfl) (pe_call G6 hr6 (by rfl) m6 k6 b6 .nil pass0 (pa_cons (pv 1) (pa_cons (pv 4) (pa_cons (pe_callTy (call_listK (K:=K) rfl) (by rfl) N.list PyProof.Rows.boot_list (pa_cons (pv 6) pa_nil)) (pa_cons (pv 7) (pa_cons (pe_ix ix_list (pv 13) pe_int (fun _ _=>rfl)) (pa_cons (pe_ix ix_list (pv 13) pe_int (fun _ _=>rfl)) pa_nil))))))))
    (pss_one (ps_if (pw_or (pt_not (pt_val (pe_callB call_isinst (by rfl) N.inst PyProof.Rows.boot_isinstance (pa_cons (pv 15) (pa_cons (pe_bltn (v:=.ty "bool") (by rfl) N.bool PyProof.Rows.boot_bool rfl (by decide)) pa_nil))))) (pw_or1 (pt_cmpR op_ne (pv 15) (pv 14) (nomark _)))).pt (pss_one (ps_ret pe_bl)) pss_nil)))))))))
   (pss_one (ps_ret (pe_cmpR op_isT (pe_call G6 hr6 (by rfl) m6 k6 b6 .nil pass0 (pa_cons (pv 1) (pa_cons (pv 4) (pa_cons (pv 6) (pa_cons (pv 7) (pa_cons (pv 8) (pa_cons (pv 9) pa_nil))))))) pe_bl (nomark _))))))))))))))),?_⟩
  try rw [show (cxOf CX0 P w K mg base nLaw "law" (defScope sLaw) f cdv A outer s H E).nox.K=K from rfl]
  refine seq_abs fun N1 hN=>?_
  refine ⟨_,rfl,_,rfl,_,rfl,a,_,rfl,hS,fun lc hlc=>?_⟩
  obtain ⟨ms,ems,hms⟩:=cut_ints ns 5 15
  rw [show cutV (ns.map V.int) (some (5:Int)) (some (15:Int))=ms.map V.int from ems]
  generalize hG:upd H lc _=H1
  have s1:Same H H1:=by rw [← hG]; exact Same.put (Same.refl _) hlc
  have h1:H1 lc=some (.lst (ms.map V.int)):=by rw [← hG]; exact upd_same
  clear hG
  refine ⟨lc,ms,rfl,SqL.of h1,by omega,fun t ws H2 s2 hW2 hSh hFu hLen=>?_⟩
  refine hN _ _ ?_
  clear hN N1
  have hn10:ws.flatten.length ≤ 10:=by omega
  refine seq_abs fun N1 hN=>?_
  refine ⟨_,rfl,t,ws,rfl,hW2,hSh,by omega,fun lp H3 s3 hP3=>?_⟩
  refine hN _ _ ?_
  clear hN N1
  have s03:=Same.trans (Same.trans s1 s2) s3
  refine seq_abs fun N1 hN=>?_
  refine ⟨_,rfl,a,0,ns,rfl,s03.seq hS,hn,fun z0=>?_⟩
  refine ⟨z0,7,rfl,by decide,fun ls nn H4 hls s4 h4 hnn=>?_⟩
  refine hN _ _ ?_
  clear hN N1
  have s04:=Same.trans s03 s4
  have hW4:=(hW2.same s3).same s4
  have hP4:=hP3.same s4
  refine seq_abs fun N1 hN=>?_
  refine ⟨_,rfl,ls,_,_,_,rfl,rfl,SqL.of h4,atI_nat (j:=0) (gi_at (by omega)),_,_,rfl,rfl,(by show (0:Int) < 100; decide),?_⟩
  refine hN _ _ ?_
  clear hN N1
  have hj:0 ≤ gi nn 0 % 100:=Int.emod_nonneg _ (by decide)
  dsimp only
  generalize gi nn 0 % 100=jt at *
  -- widest
  obtain ⟨pl,p1,p2,p3⟩:=id hP4
  refine seq_abs fun N1 hN=>?_
  refine ⟨smallE (by simp),fun l1 hl1=>?_⟩
  generalize hG:upd H4 l1 _=H5
  have s5:Same H4 H5:=by rw [← hG]; exact Same.put (Same.refl _) hl1
  have h5:H5 l1=some (.lst [.int 1]):=by rw [← hG]; exact upd_same
  clear hG
  refine ⟨_,rfl,lp,rfl,⟨_,SqL.of (s5 _ _ p1)⟩,comp_pairs (g1:=fun i=>.int ((gp ws.flatten i).length:Int)) (g2:=fun i=>.int (jb ws i)) (fun i=>.int (lenOf ws i (i + 1))) (SqL.of (s5 _ _ p1)) (small (by omega)) (fun i p e=>s5 _ _ (p3 i p e)) ?_ fun D hD=>?_⟩
  ·intro D i l Q' hD hi hq
   rw [len1] at hq
   exact ⟨_,rfl,_,rfl,_,_,rfl,rfl,hq⟩
  generalize hG:upd H5 D _=H6
  have s6:Same H5 H6:=by rw [← hG]; exact Same.put (Same.refl _) hD
  have h6:H6 D=some (.lst ((List.range pl.length).map fun i=>.int (lenOf ws i (i + 1)))):=by rw [← hG]; exact upd_same
  clear hG
  refine ⟨l1,D,_,_,rfl,rfl,s6 _ _ h5,h6,smallE (by rw [List.length_map,List.length_range,List.length_singleton]; omega),fun lq hlq=>?_⟩
  have ew:[V.int 1] ++ (List.range pl.length).map (fun i=>V.int (lenOf ws i (i + 1)))=(1 :: (List.range pl.length).map fun i=>lenOf ws i (i + 1)).map V.int:=by
   rw [List.map_cons,List.map_map]
   rfl
  rw [ew]
  generalize hG:upd H6 lq _=H7
  have s7:Same H6 H7:=by rw [← hG]; exact Same.put (Same.refl _) hlq
  have h7:H7 lq=some (.lst ((1 :: (List.range pl.length).map fun i=>lenOf ws i (i + 1)).map V.int)):=by rw [← hG]; exact upd_same
  clear hG
  refine ⟨lq,_,rfl,SqL.of h7,Nat.succ_pos _,fun W hWm hWa=>?_⟩
  refine hN _ _ ?_
  clear hN N1
  have hWall:∀ i,i < ws.flatten.length→lenOf ws i (i + 1) ≤ W:=fun i hi=>hWa _ (List.mem_cons_of_mem _ (List.mem_map.mpr ⟨i,List.mem_range.mpr (by omega),rfl⟩))
  have hW0:0 ≤ W∧W ≤ 20000:=by
   rcases List.mem_cons.mp hWm with z | z
   ·omega
   ·obtain ⟨i,hi,e⟩:=List.mem_map.mp z
    have hi':=List.mem_range.mp hi
    have:=len_bd hSh (Nat.lt_succ_self i) (by omega)
    rw [Nat.succ_eq_add_one,e] at this
    omega
  clear hWm hWa h7 ew h6 h5 hlq hD hl1
  have s47:=Same.trans s5 (Same.trans s6 s7)
  have h47:=s47 _ _ h4
  -- widths
  obtain ⟨m4,em4,hm4⟩:=mod_nat (z:=gi nn 1) (n:=4) (by decide)
  have em4':gi nn 1 % 4=(m4:Int):=em4
  refine seq_abs fun N1 hN=>?_
  refine ⟨_,rfl,ls,_,_,_,rfl,rfl,SqL.of h47,atI_nat (j:=1) (gi_at (by omega)),_,_,rfl,rfl,(by show (0:Int) < 4; decide),_,rfl,?_,?_,?_⟩
  ·show -(2 ^ 62) ≤ gi nn 1 % 4
   omega
  ·show gi nn 1 % 4 < 2 ^ 62
   omega
  refine (show CompGo (Itr 0 (gi nn 1 % 4).toNat) _ _ _ _ _ from ?_)
  rw [show (gi nn 1 % 4).toNat=m4 by omega]
  refine comp_range (fun k=>V.int (gi nn (2 + k) % 13)) (small (by omega)) ?_ fun l0 hl0=>?_
  ·intro D k l Q' hD hk hQ'
   have h5:(upd H7 D (.lst l)) ls=some (.lst (nn.map V.int)):=by rw [upd_ne (ne_of_none h47 hD)]; exact h47
   exact ⟨_,rfl,_,rfl,_,_,rfl,rfl,ls,_,_,_,rfl,rfl,SqL.of h5,atI_of (j:=2 + k) (by omega) (gi_at (by omega)),_,_,rfl,rfl,(by show (0:Int) < 13; decide),hQ'⟩
  generalize hG:upd H7 l0 _=G1
  have g1:Same H7 G1:=by rw [← hG]; exact Same.put (Same.refl _) hl0
  have x1:G1 l0=some (.lst ((List.range m4).map fun k=>V.int (gi nn (2 + k) % 13))):=by rw [← hG]; exact upd_same
  clear hG
  have h4g:=g1 _ _ h47
  refine ⟨_,rfl,_,rfl,ls,_,_,_,rfl,rfl,SqL.of h4g,atI_nat (j:=5) (gi_at (by omega)),_,_,rfl,rfl,(by show (0:Int) < 8; decide),_,_,rfl,rfl,smallE (by simp),fun l2 hl2=>?_⟩
  generalize hG:upd G1 l2 _=G2
  have g2:Same G1 G2:=by rw [← hG]; exact Same.put (Same.refl _) hl2
  have x2:G2 l2=some (.lst [V.int (W + gi nn 5 % 8)]):=by rw [← hG]; exact upd_same
  clear hG
  refine ⟨l0,l2,_,_,rfl,rfl,g2 _ _ x1,x2,smallE (by rw [List.length_map,List.length_range,List.length_singleton]; omega),fun lw hlw=>?_⟩
  have ew:((List.range m4).map fun k=>V.int (gi nn (2 + k) % 13)) ++ [V.int (W + gi nn 5 % 8)]=(widths4 nn m4 W).map V.int:=by
   unfold widths4
   rw [List.map_append,List.map_map]
   rfl
  rw [ew]
  generalize hG:upd G2 lw _=H8
  have s8:Same G2 H8:=by rw [← hG]; exact Same.put (Same.refl _) hlw
  have hw8:H8 lw=some (.lst ((widths4 nn m4 W).map V.int)):=by rw [← hG]; exact upd_same
  clear hG
  refine hN _ _ ?_
  clear hN N1
  have wok:=widths4_ok nn (m:=m4) (by omega) hW0.1 hW0.2
  have wlen:=widths4_len nn m4 W
  have wno:=widths4_no nn m4 hWall
  have wend:∀ r i,m4 ≤ r→i < ws.flatten.length→lenOf ws i (i + 1) ≤ wAt (widths4 nn m4 W) r:=fun r i hr hi=>Int.le_trans (hWall i hi) (widths4_at nn m4 W hr)
  generalize widths4 nn m4 W=wd at *
  have s48:Same H4 H8:=Same.trans s47 (Same.trans g1 (Same.trans g2 s8))
  clear ew x1 x2 h4g hlw hl2 hl0 g1 g2 s8 h47 s47 s5 s6 s7
  have hls8:=s48 _ _ h4
  have hP8:=hP4.same s48
  have hW8:=hW4.same s48
  -- many
  obtain ⟨m6,em6,hm6⟩:=mod_nat (z:=gi nn 6) (n:=6) (by decide)
  have em6':gi nn 6 % 6=(m6:Int):=em6
  refine seq_abs fun N1 hN=>?_
  refine ⟨_,rfl,lp,_,rfl,.inl (SqL.of (s48 _ _ p1)),_,rfl,lw,_,rfl,.inl (SqL.of hw8),_,_,rfl,rfl,_,rfl,ls,_,_,_,rfl,rfl,SqL.of hls8,atI_nat (j:=6) (gi_at (by omega)),_,_,rfl,rfl,(by show (0:Int) < 6; decide),_,_,rfl,rfl,?_⟩
  refine hN _ _ ?_
  clear hN N1
  obtain ⟨m,hmd⟩:∃ m:Nat,m=ws.flatten.length + (m4 + 1) + m6:=⟨_,rfl⟩
  have em:((pl.map V.ref).length:Int) + ((wd.map V.int).length:Int) + gi nn 6 % 6=(m:Int):=by
   rw [List.length_map,List.length_map]
   omega
  dsimp only
  rw [em]
  have hm200:m ≤ 200:=by omega
  clear em em6 em6' p1 p2 p3
  -- set_rows
  have hn1000:ws.flatten.length ≤ 1000:=by omega
  refine seq_abs fun N1 hN=>?_
  have rest:∀ (H9:Hp) (l tb:Addr) (tr:List Tr),Same H8 H9→TrAt H9 l tr→tr.length ≤ 201→TabAt H9 tb ws jt wd m →
    ((tr=[]∧ws.flatten.length=0) ∨ ∃ (ts0:List Tr) (R p:Nat) (C:Int),tr=ts0 ++ [(R,p,ws.flatten.length)]∧FullR ws jt wd R p C tr∧R < m∧at0 (tab ws jt wd R) p=some C∧p < ws.flatten.length∧fitB ws wd R p ws.flatten.length=true∧∀ r,r < m→NoLess ws jt wd r C R) →
    N1 [some (.ref a),some (.ref t),some (.ref lp),some (.ref ls),some (.int jt),some (.int W),some (.ref lw),some (.int (m:Int)),some (.ref l),some (.ref tb),none,none,none,none,none,none] H9:=by
   intro H9 l tb tr s9 hTr9 htl hT9 hcond
   refine hN _ _ ?_
   clear hN N1
   have hG:∃ R,GoodS ws jt wd m H9 (.ref l) (.ref tb) tr (tabs ws jt wd m) R:=by
    rcases hcond with ⟨rfl,h0⟩ | ⟨ts0,R,p,C,e,hF,hR,hc,hp,hf,hless⟩
    ·exact ⟨0,good_nil hTr9 hT9 hj h0⟩
    ·exact ⟨R,good_full hTr9 hT9 hj hF hR hless⟩
   obtain ⟨R0,hG9⟩:=hG
   obtain ⟨as,t1,t2,t3⟩:=id hTr9
   have hv9:TrV H9 (.ref l):=trv_of t1 t2 t3 (by omega)
   have hu9:TabV H9 (.ref tb):=tabv_of hT9 hm200 hn1000
   have hP9:=hP8.same s9
   have hW9:=hW8.same s9
   have hw9:=s9 _ _ hw8
   refine seq_abs fun N1 hN=>?_
   refine ⟨_,rfl,_,rfl,_,rfl,_,rfl,_,rfl,_,rfl,t,lw,.ref l,.ref tb,ws,jt,wd,m,rfl,hW9,hSh,hn1000,hw9,wok,hm200,hv9,hu9,fun _ _ _ _ H10 s10=>?_,fun hno=>(hno _ _ _ hG9).elim⟩
   refine ⟨true,rfl,rfl,_,rfl,iteC rfl ?_⟩
   refine hN _ _ ?_
   clear hN N1
   have hT10:=hT9.same s10
   refine seq_abs fun N1 hN=>?_
   have key:∀ (an:Addr) (H11:Hp) (tr2:List Tr) (R2:Nat),Same H10 H11→TrAt H11 an tr2→tr2.length ≤ 1000→GoodS ws jt wd m H11 (.ref an) (.ref tb) tr2 (tabs ws jt wd m) R2 →
     N1 [some (.ref a),some (.ref t),some (.ref lp),some (.ref ls),some (.int jt),some (.int W),some (.ref lw),some (.int (m:Int)),some (.ref l),some (.ref tb),some (.ref an),none,none,none,none,none] H11:=by
    intro an H11 tr2 R2 s11 hTr11 hl2 hG11
    refine hN _ _ ?_
    clear hN N1
    have s911:=Same.trans s10 s11
    obtain ⟨bs,b1,b2,b3⟩:=id hTr11
    refine seq_abs fun N1 hN=>?_
    refine ⟨_,rfl,_,rfl,_,rfl,_,rfl,_,rfl,_,rfl,t,lw,.ref an,.ref tb,ws,jt,wd,m,rfl,hW9.same s911,hSh,hn1000,s911 _ _ hw9,wok,hm200,trv_of b1 b2 b3 (by omega),(hu9.same (m:=0) (n:=0) s911).1,fun _ _ _ _ H12 s12=>?_,fun hno=>(hno _ _ _ hG11).elim⟩
    refine ⟨true,rfl,rfl,_,rfl,iteC rfl ?_⟩
    refine hN _ _ ?_
    clear hN N1
    have s912:=Same.trans s911 s12
    -- the cells
    have s0_12:Same H H12:=Same.trans s04 (Same.trans s48 (Same.trans s9 s912))
    obtain ⟨ms2,ems2,hms2⟩:=cut_ints ns 1 15
    refine seq_abs fun N1 hN=>?_
    refine ⟨_,rfl,_,rfl,_,rfl,a,_,rfl,s0_12.seq hS,fun lq hlq=>?_⟩
    rw [show cutV (ns.map V.int) (some (1:Int)) (some (15:Int))=ms2.map V.int from ems2]
    generalize hG:upd H12 lq _=H13
    have s13:Same H12 H13:=by rw [← hG]; exact Same.put (Same.refl _) hlq
    have h13:H13 lq=some (.lst (ms2.map V.int)):=by rw [← hG]; exact upd_same
    clear hG
    refine ⟨lq,rfl,⟨_,SqL.of h13⟩,for_list (K:=K) (a:=lq) (xs:=ms2.map V.int) (fun i σ G=>∃ u11 u12 u13 u14 u15,σ=[some (.ref a),some (.ref t),some (.ref lp),some (.ref ls),some (.int jt),some (.int W),some (.ref lw),some (.int (m:Int)),some (.ref l),some (.ref tb),some (.ref an),u11,u12,u13,u14,u15]∧Same H13 G) ⟨_,_,_,_,_,rfl,Same.refl _⟩ (fun i σ G _ ⟨_,_,_,_,_,_,sG⟩=>SqL.of (sG _ _ h13)) ?_ ?_⟩
    ·rintro i v σ G hv ⟨u11,u12,u13,u14,u15,rfl,sG⟩
     obtain ⟨z,rfl⟩:∃ z,v=V.int z:=by
      rw [List.getElem?_map] at hv
      cases ez:ms2[i]? with
      | none=>rw [ez] at hv; cases hv
      | some b=>rw [ez] at hv; exact ⟨b,(Option.some.inj hv).symm⟩
     have s9G:Same H9 G:=Same.trans s912 (Same.trans s13 sG)
     refine seq_abs fun N1 hN=>?_
     refine ⟨_,rfl,_,_,rfl,rfl,⟨by decide,by decide⟩,_,8,rfl,by decide,fun lm nm G1 hlm g1 q1 hlen=>?_⟩
     refine hN _ _ ?_
     clear hN N1
     have s91:=Same.trans s9G g1
     have hfin:∀ G',Same G G'→∀ u11 u12 u13 u14 u15,∃ v11 v12 v13 v14 v15,([some (.ref a),some (.ref t),some (.ref lp),some (.ref ls),some (.int jt),some (.int W),some (.ref lw),some (.int (m:Int)),some (.ref l),some (.ref tb),some (.ref an),u11,u12,u13,u14,u15]:St)=[some (.ref a),some (.ref t),some (.ref lp),some (.ref ls),some (.int jt),some (.int W),some (.ref lw),some (.int (m:Int)),some (.ref l),some (.ref tb),some (.ref an),v11,v12,v13,v14,v15]∧Same H13 G':=fun G' sg u11 u12 u13 u14 u15=>⟨u11,u12,u13,u14,u15,rfl,Same.trans sG sg⟩
     -- others
     refine seq_abs fun N1 hN=>?_
     refine ⟨_,rfl,l,_,rfl,.inl (SqL.of (s91 _ _ t1)),fun l1 hl1=>?_⟩
     generalize hG:upd G1 l1 _=G2
     have g2:Same G1 G2:=by rw [← hG]; exact Same.put (Same.refl _) hl1
     have q2:G2 l1=some (.lst (as.map V.ref)):=by rw [← hG]; exact upd_same
     clear hG
     have s92:=Same.trans s91 g2
     obtain ⟨cs,c1,c2,c3⟩:=hT9.same s92
     refine ⟨_,rfl,tb,rfl,⟨_,SqL.of c1⟩,comp_listG (xs:=cs.map V.ref) (fun D i l H'=>Same G2 H'∧G2 D=none∧H' D=some (.lst l)∧∃ bs:List Addr,l=bs.map V.ref∧bs.length=i∧Rws G2 H' (ws.flatten.length + 1) bs) (small (by rw [List.length_map]; omega)) (fun D hD=>⟨Same.put (Same.refl _) hD,hD,upd_same,[],rfl,rfl,fun p hp=>nomatch hp⟩) (fun D i l H' h=>SqL.of (h.1 _ _ c1)) (fun D i l H' ⟨_,_,_,bs,e1,e2,_⟩=>by rw [e1,List.length_map,e2]; exact Nat.le_refl _) ?_ ?_⟩
     ·rintro D i x l' H' Q' hx ⟨s',hD,hl2',bs',rfl,e2,hR⟩ hq
      rw [List.getElem?_map] at hx
      cases ek:cs[i]? with
      | none=>rw [ek] at hx; cases hx
      | some p =>
       rw [ek] at hx
       cases hx
       have hp:=s' _ _ (c3 i p ek)
       have hln:=tab_len ws jt wd i
       generalize tab ws jt wd i=row at *
       refine ⟨_,rfl,p,_,rfl,.inl (SqL.of hp),fun ln hln'=>?_⟩
       have nDl:D ≠ ln:=ne_of_none hl2' hln'
       refine hq _ _ (by rw [upd_ne nDl]; exact hl2') ⟨Same.put' (Same.put s' (s'.free hln')) hD,hD,upd_same,bs' ++ [ln],by rw [List.map_append]; rfl,by rw [List.length_append,e2]; rfl,fun q hq'=>?_⟩
       rcases List.mem_append.mp hq' with z | z
       ·obtain ⟨z1,xs,z2,z3⟩:=hR q z
        have nqD:q ≠ D:=by
         rintro rfl
         rw [hl2'] at z2
         cases z2
         cases bs' with
         | nil=>cases z
         | cons b0 bs0 =>
          rcases z3.2 (.ref b0) List.mem_cons_self with y | ⟨_,y⟩ <;> cases y
        exact ⟨z1,xs,by rw [upd_ne nqD,upd_ne (ne_of_none z2 hln')]; exact z2,z3⟩
       ·rw [List.mem_singleton.mp z]
        exact ⟨s'.free hln',_,by rw [upd_ne (Ne.symm nDl),upd_same],by rw [List.length_map]; exact hln,fun x hx'=>by
         obtain ⟨o,_,rfl⟩:=List.mem_map.mp hx'
         exact IC.of o⟩
     rintro D l' G3 ⟨g3,hD,q3,bs',rfl,hbl,hR⟩
     rw [List.length_map] at hbl
     refine ⟨smallE (by simp),fun lo hlo=>?_⟩
     have lo1:G1 lo=none:=(Same.trans g2 g3).free hlo
     have nl1:V.ref l1 ≠ .ref lo:=fun e=>by cases e; exact ne_of_none (g3 _ _ q2) hlo rfl
     have nlD:V.ref D ≠ .ref lo:=fun e=>by cases e; exact ne_of_none q3 hlo rfl
     generalize hG:upd G3 lo _=G4
     have g4:Same G3 G4:=by rw [← hG]; exact Same.put (Same.refl _) hlo
     have q4:G4 lo=some (.lst [.ref l1,.ref D]):=by rw [← hG]; exact upd_same
     clear hG
     refine hN _ _ ?_
     clear hN N1
     have g14:=Same.trans g2 (Same.trans g3 g4)
     have s94:=Same.trans s91 g14
     have hv4:TrV G4 (.ref l1):=(TrV.same (trv_of (tr:=tr) q2 t2 (fun k p t e1 e2=>s92 _ _ (t3 k p t e1 e2)) (by omega)) (Same.trans g3 g4)).1
     have hu4:TabV G4 (.ref D):=(TabV.same (m:=0) (n:=0) (.inl ⟨D,_,rfl,q3,by rw [List.length_map]; omega,hR.row (by omega)⟩) g4).1
     clear hR hbl q3 q2 c1 c2 c3 hl1 hD hlo
     refine seq_abs fun N1 hN=>?_
     have nx1:∀ (G5:Hp) (v':V),Same G1 G5→G5 lo=some (.lst [v',.ref D])→TrV G5 v'→v' ≠ .ref lo→TabV G5 (.ref D)→N1 [some (.ref a),some (.ref t),some (.ref lp),some (.ref ls),some (.int jt),some (.int W),some (.ref lw),some (.int (m:Int)),some (.ref l),some (.ref tb),some (.ref an),some (.int z),some (.ref lm),some (.ref lo),u14,u15] G5:=by
      intro G5 v' s5 q5 hv5 nv5 hu5
      refine hN _ _ ?_
      clear hN N1
      refine seq_abs fun N1 hN=>?_
      have nx2:∀ (G6:Hp) (u':V),Same G1 G6→G6 lo=some (.lst [v',u'])→TrV G6 v'→TabV G6 u'→N1 [some (.ref a),some (.ref t),some (.ref lp),some (.ref ls),some (.int jt),some (.int W),some (.ref lw),some (.int (m:Int)),some (.ref l),some (.ref tb),some (.ref an),some (.int z),some (.ref lm),some (.ref lo),u14,u15] G6:=by
       intro G6 u' s6 q6 hv6 hu6
       refine hN _ _ ?_
       clear hN N1
       have s96:=Same.trans s91 s6
       refine seq_abs fun N1 hN=>?_
       have hdue:∀ (b:Bool) (G7:Hp),Same G6 G7→((b=true∧∃ tr tbl R,GoodS ws jt wd m G6 v' u' tr tbl R) ∨ (b=false∧∀ tr tbl R,¬ GoodS ws jt wd m G6 v' u' tr tbl R))→N1 [some (.ref a),some (.ref t),some (.ref lp),some (.ref ls),some (.int jt),some (.int W),some (.ref lw),some (.int (m:Int)),some (.ref l),some (.ref tb),some (.ref an),some (.int z),some (.ref lm),some (.ref lo),some (.bl b),u15] G7:=by
        intro b G7 g7 hb
        refine hN _ _ ?_
        clear hN N1
        have s97:=Same.trans s96 g7
        refine seq_abs fun N1 hN=>?_
        refine ⟨_,rfl,_,rfl,_,rfl,lw,_,rfl,.inl (SqL.of (s97 _ _ hw9)),fun lh hlh=>?_⟩
        generalize hG:upd G7 lh _=G8
        have g8:Same G7 G8:=by rw [← hG]; exact Same.put (Same.refl _) hlh
        have q8:G8 lh=some (.lst (wd.map V.int)):=by rw [← hG]; exact upd_same
        clear hG
        have s68:=Same.trans g7 g8
        have s98:=Same.trans s97 g8
        have fo:∀ G9,Same G8 G9→N1 [some (.ref a),some (.ref t),some (.ref lp),some (.ref ls),some (.int jt),some (.int W),some (.ref lw),some (.int (m:Int)),some (.ref l),some (.ref tb),some (.ref an),some (.int z),some (.ref lm),some (.ref lo),some (.bl b),some (.bl b)] G9:=by
         intro G9 g9
         refine hN _ _ ?_
         clear hN N1
         refine ⟨_,rfl,_,"bool",_,_,rfl,TyOf.bl b,kit_bb,_,rfl,iteF ?_⟩
         refine ⟨_,rfl,_,rfl,rfl,_,rfl,iteC (by rw [decide_eq_true rfl]; rfl) ?_⟩
         exact hfin G9 (Same.trans g1 (Same.trans s6 (Same.trans s68 g9))) _ _ _ _ _
        refine ⟨_,rfl,_,rfl,lo,_,_,_,rfl,rfl,SqL.of (s68 _ _ q6),atI_nat (j:=0) rfl,_,rfl,lo,_,_,_,rfl,rfl,SqL.of (s68 _ _ q6),atI_nat (j:=1) rfl,t,lh,v',u',ws,jt,wd,m,rfl,hW9.same s98,hSh,hn1000,q8,wok,hm200,(hv6.same s68).1,(hu6.same (m:=0) (n:=0) s68).1,fun tr2 tbl R g G9 g9=>?_,fun hno G9 g9=>?_⟩
        ·rcases hb with ⟨rfl,_⟩ | ⟨rfl,hno⟩
         ·exact fo G9 g9
         ·exact (hno _ _ _ (g.less s68 hv6 hu6)).elim
        ·rcases hb with ⟨rfl,tr2,tbl,R,g⟩ | ⟨rfl,_⟩
         ·exact (hno _ _ _ (g.same s68)).elim
         ·exact fo G9 g9
       refine ⟨_,rfl,_,rfl,_,rfl,_,rfl,_,rfl,lo,_,_,_,rfl,rfl,SqL.of q6,atI_nat (j:=0) rfl,_,rfl,lo,_,_,_,rfl,rfl,SqL.of q6,atI_nat (j:=1) rfl,lp,lw,v',u',ws,jt,wd,m,rfl,hP9.same s96,hSh,hn1000,s96 _ _ hw9,wok,hm200,hv6,hu6,fun tr2 tbl R g G7 g7=>hdue true G7 g7 (.inl ⟨rfl,tr2,tbl,R,g⟩),fun hno G7 g7=>hdue false G7 g7 (.inr ⟨rfl,hno⟩)⟩
      refine ⟨_,rfl,lm,_,_,_,rfl,rfl,SqL.of (s5 _ _ q1),n8 hlen (j:=7) (by decide),_,_,rfl,rfl,(by show (0:Int) < 3; decide),rfl,_,rfl,ite2 (fun _=>?_) (fun _=>nx2 G5 (.ref D) s5 q5 hv5 hu5)⟩
      refine ⟨_,rfl,_,rfl,_,rfl,lm,_,rfl,SqL.of (s5 _ _ q1),fun x1 hx1=>?_⟩
      generalize hG:upd G5 x1 _=G6
      have g6:Same G5 G6:=by rw [← hG]; exact Same.put (Same.refl _) hx1
      have y1:G6 x1=some (.lst (cutV (nm.map V.int) (some 4) none)):=by rw [← hG]; exact upd_same
      clear hG
      refine ⟨_,rfl,_,rfl,lm,_,rfl,SqL.of (g6 _ _ (s5 _ _ q1)),fun x2 hx2=>?_⟩
      generalize hG:upd G6 x2 _=G7
      have g7:Same G6 G7:=by rw [← hG]; exact Same.put (Same.refl _) hx2
      have y2:G7 x2=some (.lst (cutV (nm.map V.int) none (some 4))):=by rw [← hG]; exact upd_same
      clear hG
      have ec:=cut_4 hlen
      have l8:(nm.drop 4 ++ nm.take 4).length=8:=by rw [List.length_append,List.length_drop,List.length_take]; omega
      refine ⟨x1,x2,_,_,rfl,rfl,g7 _ _ y1,y2,smallE (by rw [← List.length_append,ec,List.length_map,l8]; decide),fun x3 hx3=>?_⟩
      rw [ec]
      generalize hG:upd G7 x3 _=G8
      have g8:Same G7 G8:=by rw [← hG]; exact Same.put (Same.refl _) hx3
      have y3:G8 x3=some (.lst ((nm.drop 4 ++ nm.take 4).map V.int)):=by rw [← hG]; exact upd_same
      clear hG
      have g58:=Same.trans g6 (Same.trans g7 g8)
      have s98:=Same.trans s91 (Same.trans s5 g58)
      refine ⟨tb,x3,tabs ws jt wd m,ws.flatten.length + 1,nm.drop 4 ++ nm.take 4,rfl,tabg_of (hT9.same s98),?_,?_,fun row hr=>(tabs_rows hj row hr).1,by omega,by omega,y3,l8,fun u' G9 g9 hu9' hnew=>?_⟩
      ·unfold tabs
       rw [List.length_map,List.length_range]
       omega
      ·unfold tabs
       rw [List.length_map,List.length_range]
       omega
      have g59:=Same.trans g58 g9
      have q9:=g59 _ _ q5
      have nu:u' ≠ .ref lo:=fun e=>by
       have z:=hnew lo e
       rw [g58 _ _ q5] at z
       cases z
      refine ⟨_,rfl,lo,_,_,1,rfl,rfl,q9,rfl,?_⟩
      exact nx2 (upd G9 lo (.lst [v',u'])) u' (Same.put (Same.trans s5 g59) lo1) upd_same ((hv5.same g59).1.put nv5 q9) (hu9'.put nu q9 (q:=D) (List.mem_cons_of_mem _ (List.mem_singleton.mpr rfl)))
     have hm4':=g14 _ _ q1
     refine ⟨_,rfl,lm,_,_,_,rfl,rfl,SqL.of hm4',n8 hlen (j:=7) (by decide),_,_,rfl,rfl,(by show (0:Int) < 3; decide),_,_,rfl,rfl,_,rfl,ite2 (fun _=>?_) (fun _=>iteF (nx1 G4 (.ref l1) g14 q4 hv4 nl1 hu4))⟩
     refine ⟨_,rfl,l,_,rfl,.inl (SqL.of (s94 _ _ t1)),_,_,rfl,rfl,_,rfl,ite2 (fun hq=>?_) (fun _=>nx1 G4 (.ref l1) g14 q4 hv4 nl1 hu4)⟩
     have htl0:0 < tr.length:=by
      have z:=of_decide_eq_true hq
      rw [List.length_map] at z
      omega
     refine ⟨_,rfl,_,rfl,l,lm,tr,nm,rfl,hTr9.same s94,htl0,by omega,hm4',hlen,fun v' G5 g5 hv5 hnew=>?_⟩
     have nv:v' ≠ .ref lo:=fun e=>by
      have z:=hnew lo e
      rw [q4] at z
      cases z
     have q45:=g5 _ _ q4
     refine ⟨_,rfl,lo,_,_,0,rfl,rfl,q45,rfl,?_⟩
     exact nx1 (upd G5 lo (.lst [v',.ref D])) v' (Same.put (Same.trans g14 g5) lo1) upd_same (hv5.put nv q45) nv ((hu4.same (m:=0) (n:=0) g5).1.put nlD q45 (q:=l1) List.mem_cons_self)
    ·rintro σ G ⟨u11,u12,u13,u14,u15,rfl,sG⟩
     refine hN _ _ ?_
     clear hN N1
     have s9G:=Same.trans s912 (Same.trans s13 sG)
     refine ⟨_,rfl,_,rfl,_,rfl,_,rfl,_,rfl,_,rfl,t,lw,.ref l,.ref tb,ws,jt,wd,m,rfl,hW9.same s9G,hSh,hn1000,s9G _ _ hw9,wok,hm200,(hv9.same s9G).1,(hu9.same (m:=0) (n:=0) s9G).1,fun _ _ _ _ H10 s10=>?_,fun hno=>(hno _ _ _ (hG9.same s9G)).elim⟩
     exact ⟨true,rfl,rfl,k _⟩
   refine ⟨_,rfl,_,rfl,_,rfl,_,rfl,_,rfl,lp,lw,l,tb,ws,jt,wd,m,tr,rfl,hP9.same s10,hSh,hn1000,s10 _ _ hw9,wok,hT10,hm200,hTr9.same s10,?_⟩
   rcases hcond with ⟨rfl,h0⟩ | ⟨ts0,R,p,C,e,hF,hR,hc,hp,hf,hless⟩
   ·refine .inl ⟨rfl,fun an H11 s11 ha=>?_⟩
    have hA:TrAt H11 an []:=⟨[],ha,rfl,fun k p t e=>by simp at e⟩
    exact key an H11 [] 0 s11 hA (Nat.zero_le _) (good_nil hA (hT10.same s11) hj h0)
   ·refine .inr ⟨ts0,R,p,C,e,hR,hc,hp,hf,fun an tr' p' H11 s11 hTr' hlen' hpath hc' hp' hf'=>?_⟩
    exact key an H11 _ R s11 hTr' (by rw [List.length_append,List.length_singleton]; omega) (good_full hTr' (hT10.same s11) hj (full_is hpath hc' hp' hf') hR hless)
  refine ⟨_,rfl,_,rfl,_,rfl,lw,_,rfl,.inl (SqL.of hw8),fun lh hlh=>?_⟩
  generalize hG:upd H8 lh _=H9
  have s9:Same H8 H9:=by rw [← hG]; exact Same.put (Same.refl _) hlh
  have h9:H9 lh=some (.lst (wd.map V.int)):=by rw [← hG]; exact upd_same
  clear hG
  refine ⟨_,rfl,t,lh,ws,jt,wd,m,rfl,hW8.same s9,hSh,hn1000,h9,wok,hm200,fun tp l tb H10 _ h0 s10 htp hl hT=>?_,fun tp l tb H10 R p C tr _ s10 htp hTr hF hc hf hR hp hlen hless hT=>?_,fun i p dx H10 hfw s10 hdx=>wide_excl wno hfw,fun _ h0 he H10 s10=>end_there h0 wend (by omega) he⟩
  ·refine ⟨tp,_,rfl,SqT.of htp,rfl,_,_,rfl,_,_,rfl,rfl,?_⟩
   exact rest H10 l tb [] (Same.trans s9 s10) ⟨[],hl,rfl,fun k p t e=>by simp at e⟩ (Nat.zero_le _) hT (.inl ⟨rfl,h0⟩)
  ·refine ⟨tp,_,rfl,SqT.of htp,rfl,_,_,rfl,_,_,rfl,rfl,?_⟩
   obtain ⟨ts0,e0⟩:=hF.last
   exact rest H10 l tb tr (Same.trans s9 s10) hTr hlen hT (.inr ⟨ts0,R,p,C,e0,hF,hR,hc,hp,hf,hless⟩)
end
end B64
namespace B64
open PySem L2
set_option maxHeartbeats 4000000 in
theorem all_mk {l:PySem.W.OpenLaw} {w:World} {K:PySem.W.Frag} {h:Heap} {mg:Str→Option Value} {fa C CB CT CN f1 f2 f3 f4 f5 f6 f7 f8 f9 f10 f11 f12 f13 f14 f15 f16 f17 f18 f19 f20 f21 f22 f23 f24 f25 f26 f27 f28 f29 f30 f31 f32 f33 f34 f35 f36 f37 f38 f39 f40 f41 f42 f43 f44 f45 f46 f47 f48 f49 f50:Addr} (X:K.In h) (G:h.Ns mainGlobals mg) (hfa:mg "law"=some (.ref fa))
  {od1 an1 od2 an2 od3 an3 od4 an4 od5 an5 od6 an6 od7 an7 od8 an8 od9 an9 od10 an10 od11 an11 od12 an12 od13 an13 od14 an14 od15 an15 od16 an16 od17 an17 od18 an18 od19 an19 od20 an20 od21 an21 od22 an22 od23 an23 od24 an24 od25 an25 od26 an26 od27 an27 od28 an28 od29 an29 od30 an30 od31 an31 od32 an32 od33 an33 od34 an34 od35 an35 od36 an36 od37 an37 od38 an38 od39 an39 od40 an40 od41 an41 od42 an42 od43 an43 od44 an44 od45 an45 od46 an46 od47 an47 od48 an48 od49 an49 od50 an50:Option Addr} {sl1 sl2 sl3 sl4 sl5 sl6 sl7 sl8 sl9 sl10 sl11 sl12 sl13 sl14 sl15 sl16 sl17 sl18 sl19 sl20 sl21 sl22 sl23 sl24 sl25 sl26 sl27 sl28 sl29 sl30 sl31 sl32 sl33 sl34 sl35 sl36 sl37 sl38 sl39 sl40 sl41 sl42 sl43 sl44 sl45 sl46 sl47 sl48 sl49 sl50:Array (Option Value)} {oc1 kV1 dc1 pm1 cd1 ct1 oc2 kV2 dc2 pm2 cd2 ct2 oc3 kV3 dc3 pm3 cd3 ct3 oc4 kV4 dc4 pm4 cd4 ct4 oc5 kV5 dc5 pm5 cd5 ct5 oc6 kV6 dc6 pm6 cd6 ct6 oc7 kV7 dc7 pm7 cd7 ct7 oc8 kV8 dc8 pm8 cd8 ct8 oc9 kV9 dc9 pm9 cd9 ct9 oc10 kV10 dc10 pm10 cd10 ct10 oc11 kV11 dc11 pm11 cd11 ct11 oc12 kV12 dc12 pm12 cd12 ct12 oc13 kV13 dc13 pm13 cd13 ct13 oc14 kV14 dc14 pm14 cd14 ct14 oc15 kV15 dc15 pm15 cd15 ct15 oc16 kV16 dc16 pm16 cd16 ct16 oc17 kV17 dc17 pm17 cd17 ct17 oc18 kV18 dc18 pm18 cd18 ct18 oc19 kV19 dc19 pm19 cd19 ct19 oc20 kV20 dc20 pm20 cd20 ct20 oc21 kV21 dc21 pm21 cd21 ct21 oc22 kV22 dc22 pm22 cd22 ct22 oc23 kV23 dc23 pm23 cd23 ct23 oc24 kV24 dc24 pm24 cd24 ct24 oc25 kV25 dc25 pm25 cd25 ct25 oc26 kV26 dc26 pm26 cd26 ct26 oc27 kV27 dc27 pm27 cd27 ct27 oc28 kV28 dc28 pm28 cd28 ct28 oc29 kV29 dc29 pm29 cd29 ct29 oc30 kV30 dc30 pm30 cd30 ct30 oc31 kV31 dc31 pm31 cd31 ct31 oc32 kV32 dc32 pm32 cd32 ct32 oc33 kV33 dc33 pm33 cd33 ct33 oc34 kV34 dc34 pm34 cd34 ct34 oc35 kV35 dc35 pm35 cd35 ct35 oc36 kV36 dc36 pm36 cd36 ct36 oc37 kV37 dc37 pm37 cd37 ct37 oc38 kV38 dc38 pm38 cd38 ct38 oc39 kV39 dc39 pm39 cd39 ct39 oc40 kV40 dc40 pm40 cd40 ct40 oc41 kV41 dc41 pm41 cd41 ct41 oc42 kV42 dc42 pm42 cd42 ct42 oc43 kV43 dc43 pm43 cd43 ct43 oc44 kV44 dc44 pm44 cd44 ct44 oc45 kV45 dc45 pm45 cd45 ct45 oc46 kV46 dc46 pm46 cd46 ct46 oc47 kV47 dc47 pm47 cd47 ct47 oc48 kV48 dc48 pm48 cd48 ct48 oc49 kV49 dc49 pm49 cd49 ct49 oc50 kV50 dc50 pm50 cd50 ct50:Value}
  (aC:PySem.W.nsIn K mainGlobals "Setting"=some (some (.ref C)))
  (aCB:PySem.W.nsIn K mainGlobals "BoxError"=some (some (.ref CB)))
  (aCT:PySem.W.nsIn K mainGlobals "TooWide"=some (some (.ref CT)))
  (aCN:PySem.W.nsIn K mainGlobals "NoRows"=some (some (.ref CN)))
  (a1:PySem.W.nsIn K mainGlobals "pieces_of"=some (some (.ref f1))) (l1:K.lookup f1=some ⟨oc1,od1,.func (PySem.W.fnOf "pieces_of" "pieces_of" (defArgs sPieces) (defBody sPieces) (defScope sPieces) .none kV1 dc1 pm1 an1 cd1 ct1),sl1⟩) (c1:PySem.W.codeIn K cd1 "pieces_of"=true) (k1:PySem.W.keepIn K (.ref f1)=true)
  (a2:PySem.W.nsIn K mainGlobals "joints_of"=some (some (.ref f2))) (l2:K.lookup f2=some ⟨oc2,od2,.func (PySem.W.fnOf "joints_of" "joints_of" (defArgs sJoints) (defBody sJoints) (defScope sJoints) .none kV2 dc2 pm2 an2 cd2 ct2),sl2⟩) (c2:PySem.W.codeIn K cd2 "joints_of"=true) (k2:PySem.W.keepIn K (.ref f2)=true)
  (a3:PySem.W.nsIn K mainGlobals "next_costs"=some (some (.ref f3))) (l3:K.lookup f3=some ⟨oc3,od3,.func (PySem.W.fnOf "next_costs" "next_costs" (defArgs sNext) (defBody sNext) (defScope sNext) .none kV3 dc3 pm3 an3 cd3 ct3),sl3⟩) (c3:PySem.W.codeIn K cd3 "next_costs"=true) (k3:PySem.W.keepIn K (.ref f3)=true)
  (a4:PySem.W.nsIn K mainGlobals "table_for"=some (some (.ref f4))) (l4:K.lookup f4=some ⟨oc4,od4,.func (PySem.W.fnOf "table_for" "table_for" (defArgs sTable) (defBody sTable) (defScope sTable) .none kV4 dc4 pm4 an4 cd4 ct4),sl4⟩) (c4:PySem.W.codeIn K cd4 "table_for"=true) (k4:PySem.W.keepIn K (.ref f4)=true)
  (a5:PySem.W.nsIn K mainGlobals "refuse_wide"=some (some (.ref f5))) (l5:K.lookup f5=some ⟨oc5,od5,.func (PySem.W.fnOf "refuse_wide" "refuse_wide" (defArgs sRefuse) (defBody sRefuse) (defScope sRefuse) .none kV5 dc5 pm5 an5 cd5 ct5),sl5⟩) (c5:PySem.W.codeIn K cd5 "refuse_wide"=true) (k5:PySem.W.keepIn K (.ref f5)=true)
  (a6:PySem.W.nsIn K mainGlobals "ends_at"=some (some (.ref f6))) (l6:K.lookup f6=some ⟨oc6,od6,.func (PySem.W.fnOf "ends_at" "ends_at" (defArgs sEnds) (defBody sEnds) (defScope sEnds) .none kV6 dc6 pm6 an6 cd6 ct6),sl6⟩) (c6:PySem.W.codeIn K cd6 "ends_at"=true) (k6:PySem.W.keepIn K (.ref f6)=true)
  (a7:PySem.W.nsIn K mainGlobals "best_end"=some (some (.ref f7))) (l7:K.lookup f7=some ⟨oc7,od7,.func (PySem.W.fnOf "best_end" "best_end" (defArgs sBest) (defBody sBest) (defScope sBest) .none kV7 dc7 pm7 an7 cd7 ct7),sl7⟩) (c7:PySem.W.codeIn K cd7 "best_end"=true) (k7:PySem.W.keepIn K (.ref f7)=true)
  (a8:PySem.W.nsIn K mainGlobals "leads_to"=some (some (.ref f8))) (l8:K.lookup f8=some ⟨oc8,od8,.func (PySem.W.fnOf "leads_to" "leads_to" (defArgs sLeads) (defBody sLeads) (defScope sLeads) .none kV8 dc8 pm8 an8 cd8 ct8),sl8⟩) (c8:PySem.W.codeIn K cd8 "leads_to"=true) (k8:PySem.W.keepIn K (.ref f8)=true)
  (a9:PySem.W.nsIn K mainGlobals "place_before"=some (some (.ref f9))) (l9:K.lookup f9=some ⟨oc9,od9,.func (PySem.W.fnOf "place_before" "place_before" (defArgs sBefore) (defBody sBefore) (defScope sBefore) .none kV9 dc9 pm9 an9 cd9 ct9),sl9⟩) (c9:PySem.W.codeIn K cd9 "place_before"=true) (k9:PySem.W.keepIn K (.ref f9)=true)
  (a10:PySem.W.nsIn K mainGlobals "triples_back"=some (some (.ref f10))) (l10:K.lookup f10=some ⟨oc10,od10,.func (PySem.W.fnOf "triples_back" "triples_back" (defArgs sBack) (defBody sBack) (defScope sBack) .none kV10 dc10 pm10 an10 cd10 ct10),sl10⟩) (c10:PySem.W.codeIn K cd10 "triples_back"=true) (k10:PySem.W.keepIn K (.ref f10)=true)
  (a11:PySem.W.nsIn K mainGlobals "set_rows"=some (some (.ref f11))) (l11:K.lookup f11=some ⟨oc11,od11,.func (PySem.W.fnOf "set_rows" "set_rows" (defArgs sSetRows) (defBody sSetRows) (defScope sSetRows) .none kV11 dc11 pm11 an11 cd11 ct11),sl11⟩) (c11:PySem.W.codeIn K cd11 "set_rows"=true) (k11:PySem.W.keepIn K (.ref f11)=true)
  (a12:PySem.W.nsIn K mainGlobals "is_whole"=some (some (.ref f12))) (l12:K.lookup f12=some ⟨oc12,od12,.func (PySem.W.fnOf "is_whole" "is_whole" (defArgs sWhole) (defBody sWhole) (defScope sWhole) .none kV12 dc12 pm12 an12 cd12 ct12),sl12⟩) (c12:PySem.W.codeIn K cd12 "is_whole"=true) (k12:PySem.W.keepIn K (.ref f12)=true)
  (a13:PySem.W.nsIn K mainGlobals "is_tuple_of"=some (some (.ref f13))) (l13:K.lookup f13=some ⟨oc13,od13,.func (PySem.W.fnOf "is_tuple_of" "is_tuple_of" (defArgs sTupOf) (defBody sTupOf) (defScope sTupOf) .none kV13 dc13 pm13 an13 cd13 ct13),sl13⟩) (c13:PySem.W.codeIn K cd13 "is_tuple_of"=true) (k13:PySem.W.keepIn K (.ref f13)=true)
  (a14:PySem.W.nsIn K mainGlobals "is_list_of"=some (some (.ref f14))) (l14:K.lookup f14=some ⟨oc14,od14,.func (PySem.W.fnOf "is_list_of" "is_list_of" (defArgs sLstOf) (defBody sLstOf) (defScope sLstOf) .none kV14 dc14 pm14 an14 cd14 ct14),sl14⟩) (c14:PySem.W.codeIn K cd14 "is_list_of"=true) (k14:PySem.W.keepIn K (.ref f14)=true)
  (a15:PySem.W.nsIn K mainGlobals "is_triple"=some (some (.ref f15))) (l15:K.lookup f15=some ⟨oc15,od15,.func (PySem.W.fnOf "is_triple" "is_triple" (defArgs sTriple) (defBody sTriple) (defScope sTriple) .none kV15 dc15 pm15 an15 cd15 ct15),sl15⟩) (c15:PySem.W.codeIn K cd15 "is_triple"=true) (k15:PySem.W.keepIn K (.ref f15)=true)
  (a16:PySem.W.nsIn K mainGlobals "are_triples"=some (some (.ref f16))) (l16:K.lookup f16=some ⟨oc16,od16,.func (PySem.W.fnOf "are_triples" "are_triples" (defArgs sTriples) (defBody sTriples) (defScope sTriples) .none kV16 dc16 pm16 an16 cd16 ct16),sl16⟩) (c16:PySem.W.codeIn K cd16 "are_triples"=true) (k16:PySem.W.keepIn K (.ref f16)=true)
  (a17:PySem.W.nsIn K mainGlobals "is_entry"=some (some (.ref f17))) (l17:K.lookup f17=some ⟨oc17,od17,.func (PySem.W.fnOf "is_entry" "is_entry" (defArgs sEntry) (defBody sEntry) (defScope sEntry) .none kV17 dc17 pm17 an17 cd17 ct17),sl17⟩) (c17:PySem.W.codeIn K cd17 "is_entry"=true) (k17:PySem.W.keepIn K (.ref f17)=true)
  (a18:PySem.W.nsIn K mainGlobals "are_entries"=some (some (.ref f18))) (l18:K.lookup f18=some ⟨oc18,od18,.func (PySem.W.fnOf "are_entries" "are_entries" (defArgs sEntries) (defBody sEntries) (defScope sEntries) .none kV18 dc18 pm18 an18 cd18 ct18),sl18⟩) (c18:PySem.W.codeIn K cd18 "are_entries"=true) (k18:PySem.W.keepIn K (.ref f18)=true)
  (a19:PySem.W.nsIn K mainGlobals "is_table"=some (some (.ref f19))) (l19:K.lookup f19=some ⟨oc19,od19,.func (PySem.W.fnOf "is_table" "is_table" (defArgs sIsTable) (defBody sIsTable) (defScope sIsTable) .none kV19 dc19 pm19 an19 cd19 ct19),sl19⟩) (c19:PySem.W.codeIn K cd19 "is_table"=true) (k19:PySem.W.keepIn K (.ref f19)=true)
  (a20:PySem.W.nsIn K mainGlobals "triples_set"=some (some (.ref f20))) (l20:K.lookup f20=some ⟨oc20,od20,.func (PySem.W.fnOf "triples_set" "triples_set" (defArgs sTrSet) (defBody sTrSet) (defScope sTrSet) .none kV20 dc20 pm20 an20 cd20 ct20),sl20⟩) (c20:PySem.W.codeIn K cd20 "triples_set"=true) (k20:PySem.W.keepIn K (.ref f20)=true)
  (a21:PySem.W.nsIn K mainGlobals "total_cost"=some (some (.ref f21))) (l21:K.lookup f21=some ⟨oc21,od21,.func (PySem.W.fnOf "total_cost" "total_cost" (defArgs sTotal) (defBody sTotal) (defScope sTotal) .none kV21 dc21 pm21 an21 cd21 ct21),sl21⟩) (c21:PySem.W.codeIn K cd21 "total_cost"=true) (k21:PySem.W.keepIn K (.ref f21)=true)
  (a22:PySem.W.nsIn K mainGlobals "steps_held"=some (some (.ref f22))) (l22:K.lookup f22=some ⟨oc22,od22,.func (PySem.W.fnOf "steps_held" "steps_held" (defArgs sStepsHeld) (defBody sStepsHeld) (defScope sStepsHeld) .none kV22 dc22 pm22 an22 cd22 ct22),sl22⟩) (c22:PySem.W.codeIn K cd22 "steps_held"=true) (k22:PySem.W.keepIn K (.ref f22)=true)
  (a23:PySem.W.nsIn K mainGlobals "ends_held"=some (some (.ref f23))) (l23:K.lookup f23=some ⟨oc23,od23,.func (PySem.W.fnOf "ends_held" "ends_held" (defArgs sEndsHeld) (defBody sEndsHeld) (defScope sEndsHeld) .none kV23 dc23 pm23 an23 cd23 ct23),sl23⟩) (c23:PySem.W.codeIn K cd23 "ends_held"=true) (k23:PySem.W.keepIn K (.ref f23)=true)
  (a24:PySem.W.nsIn K mainGlobals "rows_shown"=some (some (.ref f24))) (l24:K.lookup f24=some ⟨oc24,od24,.func (PySem.W.fnOf "rows_shown" "rows_shown" (defArgs sShown) (defBody sShown) (defScope sShown) .none kV24 dc24 pm24 an24 cd24 ct24),sl24⟩) (c24:PySem.W.codeIn K cd24 "rows_shown"=true) (k24:PySem.W.keepIn K (.ref f24)=true)
  (a25:PySem.W.nsIn K mainGlobals "_law_cell_at"=some (some (.ref f25))) (l25:K.lookup f25=some ⟨oc25,od25,.func (PySem.W.fnOf "_law_cell_at" "_law_cell_at" (defArgs sCell) (defBody sCell) (defScope sCell) .none kV25 dc25 pm25 an25 cd25 ct25),sl25⟩) (c25:PySem.W.codeIn K cd25 "_law_cell_at"=true) (k25:PySem.W.keepIn K (.ref f25)=true)
  (a26:PySem.W.nsIn K mainGlobals "_law_numbers"=some (some (.ref f26))) (l26:K.lookup f26=some ⟨oc26,od26,.func (PySem.W.fnOf "_law_numbers" "_law_numbers" (defArgs sNumbers) (defBody sNumbers) (defScope sNumbers) .none kV26 dc26 pm26 an26 cd26 ct26),sl26⟩) (c26:PySem.W.codeIn K cd26 "_law_numbers"=true) (k26:PySem.W.keepIn K (.ref f26)=true)
  (a27:PySem.W.nsIn K mainGlobals "_law_words"=some (some (.ref f27))) (l27:K.lookup f27=some ⟨oc27,od27,.func (PySem.W.fnOf "_law_words" "_law_words" (defArgs sWords) (defBody sWords) (defScope sWords) .none kV27 dc27 pm27 an27 cd27 ct27),sl27⟩) (c27:PySem.W.codeIn K cd27 "_law_words"=true) (k27:PySem.W.keepIn K (.ref f27)=true)
  (a28:PySem.W.nsIn K mainGlobals "_law_pieces"=some (some (.ref f28))) (l28:K.lookup f28=some ⟨oc28,od28,.func (PySem.W.fnOf "_law_pieces" "_law_pieces" (defArgs sLPieces) (defBody sLPieces) (defScope sLPieces) .none kV28 dc28 pm28 an28 cd28 ct28),sl28⟩) (c28:PySem.W.codeIn K cd28 "_law_pieces"=true) (k28:PySem.W.keepIn K (.ref f28)=true)
  (a29:PySem.W.nsIn K mainGlobals "_law_size"=some (some (.ref f29))) (l29:K.lookup f29=some ⟨oc29,od29,.func (PySem.W.fnOf "_law_size" "_law_size" (defArgs sSize) (defBody sSize) (defScope sSize) .none kV29 dc29 pm29 an29 cd29 ct29),sl29⟩) (c29:PySem.W.codeIn K cd29 "_law_size"=true) (k29:PySem.W.keepIn K (.ref f29)=true)
  (a30:PySem.W.nsIn K mainGlobals "_law_cost"=some (some (.ref f30))) (l30:K.lookup f30=some ⟨oc30,od30,.func (PySem.W.fnOf "_law_cost" "_law_cost" (defArgs sLCost) (defBody sLCost) (defScope sLCost) .none kV30 dc30 pm30 an30 cd30 ct30),sl30⟩) (c30:PySem.W.codeIn K cd30 "_law_cost"=true) (k30:PySem.W.keepIn K (.ref f30)=true)
  (a31:PySem.W.nsIn K mainGlobals "_law_step"=some (some (.ref f31))) (l31:K.lookup f31=some ⟨oc31,od31,.func (PySem.W.fnOf "_law_step" "_law_step" (defArgs sLStep) (defBody sLStep) (defScope sLStep) .none kV31 dc31 pm31 an31 cd31 ct31),sl31⟩) (c31:PySem.W.codeIn K cd31 "_law_step"=true) (k31:PySem.W.keepIn K (.ref f31)=true)
  (a32:PySem.W.nsIn K mainGlobals "_law_shows"=some (some (.ref f32))) (l32:K.lookup f32=some ⟨oc32,od32,.func (PySem.W.fnOf "_law_shows" "_law_shows" (defArgs sLShows) (defBody sLShows) (defScope sLShows) .none kV32 dc32 pm32 an32 cd32 ct32),sl32⟩) (c32:PySem.W.codeIn K cd32 "_law_shows"=true) (k32:PySem.W.keepIn K (.ref f32)=true)
  (a33:PySem.W.nsIn K mainGlobals "_law_is_number"=some (some (.ref f33))) (l33:K.lookup f33=some ⟨oc33,od33,.func (PySem.W.fnOf "_law_is_number" "_law_is_number" (defArgs sLIsNum) (defBody sLIsNum) (defScope sLIsNum) .none kV33 dc33 pm33 an33 cd33 ct33),sl33⟩) (c33:PySem.W.codeIn K cd33 "_law_is_number"=true) (k33:PySem.W.keepIn K (.ref f33)=true)
  (a34:PySem.W.nsIn K mainGlobals "_law_are_right"=some (some (.ref f34))) (l34:K.lookup f34=some ⟨oc34,od34,.func (PySem.W.fnOf "_law_are_right" "_law_are_right" (defArgs sLRight) (defBody sLRight) (defScope sLRight) .none kV34 dc34 pm34 an34 cd34 ct34),sl34⟩) (c34:PySem.W.codeIn K cd34 "_law_are_right"=true) (k34:PySem.W.keepIn K (.ref f34)=true)
  (a35:PySem.W.nsIn K mainGlobals "_law_due"=some (some (.ref f35))) (l35:K.lookup f35=some ⟨oc35,od35,.func (PySem.W.fnOf "_law_due" "_law_due" (defArgs sLDue) (defBody sLDue) (defScope sLDue) .none kV35 dc35 pm35 an35 cd35 ct35),sl35⟩) (c35:PySem.W.codeIn K cd35 "_law_due"=true) (k35:PySem.W.keepIn K (.ref f35)=true)
  (a36:PySem.W.nsIn K mainGlobals "_law_step_cost"=some (some (.ref f36))) (l36:K.lookup f36=some ⟨oc36,od36,.func (PySem.W.fnOf "_law_step_cost" "_law_step_cost" (defArgs sLStepC) (defBody sLStepC) (defScope sLStepC) .none kV36 dc36 pm36 an36 cd36 ct36),sl36⟩) (c36:PySem.W.codeIn K cd36 "_law_step_cost"=true) (k36:PySem.W.keepIn K (.ref f36)=true)
  (a37:PySem.W.nsIn K mainGlobals "_law_ahead"=some (some (.ref f37))) (l37:K.lookup f37=some ⟨oc37,od37,.func (PySem.W.fnOf "_law_ahead" "_law_ahead" (defArgs sLAhead) (defBody sLAhead) (defScope sLAhead) .none kV37 dc37 pm37 an37 cd37 ct37),sl37⟩) (c37:PySem.W.codeIn K cd37 "_law_ahead"=true) (k37:PySem.W.keepIn K (.ref f37)=true)
  (a38:PySem.W.nsIn K mainGlobals "_law_another"=some (some (.ref f38))) (l38:K.lookup f38=some ⟨oc38,od38,.func (PySem.W.fnOf "_law_another" "_law_another" (defArgs sLAnother) (defBody sLAnother) (defScope sLAnother) .none kV38 dc38 pm38 an38 cd38 ct38),sl38⟩) (c38:PySem.W.codeIn K cd38 "_law_another"=true) (k38:PySem.W.keepIn K (.ref f38)=true)
  (a39:PySem.W.nsIn K mainGlobals "_law_other_triples"=some (some (.ref f39))) (l39:K.lookup f39=some ⟨oc39,od39,.func (PySem.W.fnOf "_law_other_triples" "_law_other_triples" (defArgs sLOthTr) (defBody sLOthTr) (defScope sLOthTr) .none kV39 dc39 pm39 an39 cd39 ct39),sl39⟩) (c39:PySem.W.codeIn K cd39 "_law_other_triples"=true) (k39:PySem.W.keepIn K (.ref f39)=true)
  (a40:PySem.W.nsIn K mainGlobals "_law_other_table"=some (some (.ref f40))) (l40:K.lookup f40=some ⟨oc40,od40,.func (PySem.W.fnOf "_law_other_table" "_law_other_table" (defArgs sLOthTab) (defBody sLOthTab) (defScope sLOthTab) .none kV40 dc40 pm40 an40 cd40 ct40),sl40⟩) (c40:PySem.W.codeIn K cd40 "_law_other_table"=true) (k40:PySem.W.keepIn K (.ref f40)=true)
  (a41:PySem.W.nsIn K mainGlobals "law"=some (some (.ref f41))) (l41:K.lookup f41=some ⟨oc41,od41,.func (PySem.W.fnOf "law" "law" (defArgs sLaw) (defBody sLaw) (defScope sLaw) .none kV41 dc41 pm41 an41 cd41 ct41),sl41⟩) (c41:PySem.W.codeIn K cd41 "law"=true) (k41:PySem.W.keepIn K (.ref f41)=true)
  (a42:PySem.W.findIn K (.ref C) "__init__"=some (some (.ref f42))) (i42:PySem.W.isFn K (.ref f42)=true) (l42:K.lookup f42=some ⟨oc42,od42,.func (PySem.W.fnOf "__init__" "Setting.__init__" (defArgs sInit) (defBody sInit) (defScope sInit) .none kV42 dc42 pm42 an42 cd42 ct42),sl42⟩) (c42:PySem.W.codeIn K cd42 "Setting.__init__"=true) (k42:PySem.W.keepIn K (.ref f42)=true)
  (a43:PySem.W.findIn K (.ref C) "width_at"=some (some (.ref f43))) (i43:PySem.W.isFn K (.ref f43)=true) (l43:K.lookup f43=some ⟨oc43,od43,.func (PySem.W.fnOf "width_at" "Setting.width_at" (defArgs sWidth) (defBody sWidth) (defScope sWidth) .none kV43 dc43 pm43 an43 cd43 ct43),sl43⟩) (c43:PySem.W.codeIn K cd43 "Setting.width_at"=true) (k43:PySem.W.keepIn K (.ref f43)=true)
  (a44:PySem.W.findIn K (.ref C) "length_of"=some (some (.ref f44))) (i44:PySem.W.isFn K (.ref f44)=true) (l44:K.lookup f44=some ⟨oc44,od44,.func (PySem.W.fnOf "length_of" "Setting.length_of" (defArgs sLength) (defBody sLength) (defScope sLength) .none kV44 dc44 pm44 an44 cd44 ct44),sl44⟩) (c44:PySem.W.codeIn K cd44 "Setting.length_of"=true) (k44:PySem.W.keepIn K (.ref f44)=true)
  (a45:PySem.W.findIn K (.ref C) "fits"=some (some (.ref f45))) (i45:PySem.W.isFn K (.ref f45)=true) (l45:K.lookup f45=some ⟨oc45,od45,.func (PySem.W.fnOf "fits" "Setting.fits" (defArgs sFits) (defBody sFits) (defScope sFits) .none kV45 dc45 pm45 an45 cd45 ct45),sl45⟩) (c45:PySem.W.codeIn K cd45 "Setting.fits"=true) (k45:PySem.W.keepIn K (.ref f45)=true)
  (a46:PySem.W.findIn K (.ref C) "cost_at"=some (some (.ref f46))) (i46:PySem.W.isFn K (.ref f46)=true) (l46:K.lookup f46=some ⟨oc46,od46,.func (PySem.W.fnOf "cost_at" "Setting.cost_at" (defArgs sCost) (defBody sCost) (defScope sCost) .none kV46 dc46 pm46 an46 cd46 ct46),sl46⟩) (c46:PySem.W.codeIn K cd46 "Setting.cost_at"=true) (k46:PySem.W.keepIn K (.ref f46)=true)
  (a47:PySem.W.findIn K (.ref C) "empty_cost_at"=some (some (.ref f47))) (i47:PySem.W.isFn K (.ref f47)=true) (l47:K.lookup f47=some ⟨oc47,od47,.func (PySem.W.fnOf "empty_cost_at" "Setting.empty_cost_at" (defArgs sEmpty) (defBody sEmpty) (defScope sEmpty) .none kV47 dc47 pm47 an47 cd47 ct47),sl47⟩) (c47:PySem.W.codeIn K cd47 "Setting.empty_cost_at"=true) (k47:PySem.W.keepIn K (.ref f47)=true)
  (a48:PySem.W.findIn K (.ref C) "may_be_empty"=some (some (.ref f48))) (i48:PySem.W.isFn K (.ref f48)=true) (l48:K.lookup f48=some ⟨oc48,od48,.func (PySem.W.fnOf "may_be_empty" "Setting.may_be_empty" (defArgs sMay) (defBody sMay) (defScope sMay) .none kV48 dc48 pm48 an48 cd48 ct48),sl48⟩) (c48:PySem.W.codeIn K cd48 "Setting.may_be_empty"=true) (k48:PySem.W.keepIn K (.ref f48)=true)
  (a49:PySem.W.findIn K (.ref C) "steps_at"=some (some (.ref f49))) (i49:PySem.W.isFn K (.ref f49)=true) (l49:K.lookup f49=some ⟨oc49,od49,.func (PySem.W.fnOf "steps_at" "Setting.steps_at" (defArgs sSteps) (defBody sSteps) (defScope sSteps) .none kV49 dc49 pm49 an49 cd49 ct49),sl49⟩) (c49:PySem.W.codeIn K cd49 "Setting.steps_at"=true) (k49:PySem.W.keepIn K (.ref f49)=true)
  (a50:PySem.W.findIn K (.ref CT) "__init__"=some (some (.ref f50))) (i50:PySem.W.isFn K (.ref f50)=true) (l50:K.lookup f50=some ⟨oc50,od50,.func (PySem.W.fnOf "__init__" "TooWide.__init__" (defArgs sTooInit) (defBody sTooInit) (defScope sTooInit) .none kV50 dc50 pm50 an50 cd50 ct50),sl50⟩) (c50:PySem.W.codeIn K cd50 "TooWide.__init__"=true) (k50:PySem.W.keepIn K (.ref f50)=true)
  (pg:PySem.W.plainGet K C Str.empty=true) (hd:PySem.W.hasDictIn K C=true) (po:PySem.W.plainOver K C=true) (sa:PySem.W.findIn K (.ref C) "__setattr__"=some (some (.builtin "object.__setattr__"))) (mk:PySem.W.makesIn K C=true) (kc:PySem.W.keepIn K (.ref C)=true)
  (xtov:excOver K CT=true) (xtsa:PySem.W.findIn K (.ref CT) "__setattr__"=some (some (.builtin "object.__setattr__"))) (xtga:PySem.W.findIn K (.ref CT) "__getattribute__"=some (some (.builtin "BaseException.__getattribute__"))) (xtgt:PySem.W.findIn K (.ref CT) "__getattr__"=some none) (xtmb:PySem.W.mroIn K CT (.type "BaseException")=some true) (xtmo:PySem.W.mroIn K CT (.type "object")=some true) (xtcl:PySem.W.findIn K (.ref CT) "__class__"=some (some (.builtin "object.__class__"))) (xttp:PySem.W.instIn K (.ref CT) (.type "tuple")=some false) (xtkp:PySem.W.keepIn K (.ref CT)=true)
  (xnov:excOver K CN=true) (xnsa:PySem.W.findIn K (.ref CN) "__setattr__"=some (some (.builtin "object.__setattr__"))) (xnga:PySem.W.findIn K (.ref CN) "__getattribute__"=some (some (.builtin "BaseException.__getattribute__"))) (xngt:PySem.W.findIn K (.ref CN) "__getattr__"=some none) (xnmb:PySem.W.mroIn K CN (.type "BaseException")=some true) (xnmo:PySem.W.mroIn K CN (.type "object")=some true) (xncl:PySem.W.findIn K (.ref CN) "__class__"=some (some (.builtin "object.__class__"))) (xntp:PySem.W.instIn K (.ref CN) (.type "tuple")=some false) (xnkp:PySem.W.keepIn K (.ref CN)=true)
  (xcg:PySem.W.specialIn K (.builtin "object.__class__") "__get__"=some (some (.builtin "getset_descriptor.__get__"))) (xct:PySem.W.takesIn K (.builtin "object.__class__")=some true) (xow:ownIn K CT f50=true) (xex:PySem.W.excIn K CN veMro "ValueError.__new__"=true) (xhd:PySem.W.hasDictIn K CT=true) (xnm:PySem.W.findIn K (.ref CT) "name"=some none) (x11:PySem.W.mroIn K CT (.ref CT)=some true) (x21:PySem.W.mroIn K CN (.ref CT)=some false) (x22:PySem.W.mroIn K CN (.ref CN)=some true) (xi1:PySem.W.kitOne K (.ref CT) (.ref CB)=some true) (xi2:PySem.W.kitOne K (.ref CT) (.ref CN)=some false) (xi3:PySem.W.kitOne K (.ref CN) (.ref CB)=some true)
  (n0:PySem.W.findIn K (.ref C) "widths"=some none) (n1:PySem.W.findIn K (.ref C) "pieces"=some none) (n2:PySem.W.findIn K (.ref C) "last"=some none) (n3:PySem.W.findIn K (.ref C) "prices"=some none) (n4:PySem.W.findIn K (.ref C) "begins"=some none) (n5:PySem.W.findIn K (.ref C) "ends"=some none)
  (z0:PySem.W.nsIn K mainGlobals "range"=some none) (z1:PySem.W.nsIn K mainGlobals "len"=some none) (z2:PySem.W.nsIn K mainGlobals "enumerate"=some none) (z3:PySem.W.nsIn K mainGlobals "list"=some none) (z4:PySem.W.nsIn K mainGlobals "tuple"=some none) (z5:PySem.W.nsIn K mainGlobals "min"=some none) (z6:PySem.W.nsIn K mainGlobals "int"=some none) (z7:PySem.W.nsIn K mainGlobals "bool"=some none) (z8:PySem.W.nsIn K mainGlobals "isinstance"=some none) (z9:PySem.W.nsIn K mainGlobals "max"=some none) (z10:PySem.W.nsIn K mainGlobals "all"=some none) (z11:PySem.W.nsIn K mainGlobals "sum"=some none) :
  ∃ fd:FuncData,(∀ (s:Shared) (v:Value),BindsTo s fd ⟨[v],[]⟩ [("_law_script",v)])∧∀ base:Heap,K.In base→base.Ns mainGlobals mg→FnOk l.prog w K mg base CX0 9 fa fd ["_law_script"] (spLaw K):=by
 have e:=hfa.symm.trans (PySem.W.mg_of X G a41)
 cases e
 have N:Names mg:=⟨PySem.W.mg_none_of X G z0,PySem.W.mg_none_of X G z1,PySem.W.mg_none_of X G z2,PySem.W.mg_none_of X G z3,PySem.W.mg_none_of X G z4,PySem.W.mg_none_of X G z5,PySem.W.mg_none_of X G z6,PySem.W.mg_none_of X G z7,PySem.W.mg_none_of X G z8,PySem.W.mg_none_of X G z9,PySem.W.mg_none_of X G z10,PySem.W.mg_none_of X G z11⟩
 have T:TxtS K C:=⟨⟨pg,hd,po,sa⟩,n0,n1,n2,n3,n4,n5⟩
 have eT:ExcC K CT:=⟨xtov,xtsa,xtga,xtgt,xtmb,xtmo,xtcl,xcg,xct⟩
 have eN:ExcC K CN:=⟨xnov,xnsa,xnga,xngt,xnmb,xnmo,xncl,xcg,xct⟩
 have cT:CatC K CT:=⟨(PySem.W.any_some xtov).elim fun cd h=>⟨cd,h.1⟩,xttp,xtmb⟩
 have cN:CatC K CN:=⟨(PySem.W.any_some xnov).elim fun cd h=>⟨cd,h.1⟩,xntp,xnmb⟩
 have F1:=fun_mk (st:=sPieces) l1 c1 k1
 have b1:=F1.binds (ps:=["words"]) fun _ _ _ _ _ _ us hl=>match us,hl with | [_],_=>rfl
 have m1:=PySem.W.mg_of X G a1
 have F2:=fun_mk (st:=sJoints) l2 c2 k2
 have b2:=F2.binds (ps:=["words"]) fun _ _ _ _ _ _ us hl=>match us,hl with | [_],_=>rfl
 have m2:=PySem.W.mg_of X G a2
 have F3:=fun_mk (st:=sNext) l3 c3 k3
 have b3:=F3.binds (ps:=["setting","row","costs"]) fun _ _ _ _ _ _ us hl=>match us,hl with | [_,_,_],_=>rfl
 have m3:=PySem.W.mg_of X G a3
 have F4:=fun_mk (st:=sTable) l4 c4 k4
 have b4:=F4.binds (ps:=["setting","many"]) fun _ _ _ _ _ _ us hl=>match us,hl with | [_,_],_=>rfl
 have m4:=PySem.W.mg_of X G a4
 have F5:=fun_mk (st:=sRefuse) l5 c5 k5
 have b5:=F5.binds (ps:=["setting"]) fun _ _ _ _ _ _ us hl=>match us,hl with | [_],_=>rfl
 have m5:=PySem.W.mg_of X G a5
 have F6:=fun_mk (st:=sEnds) l6 c6 k6
 have b6:=F6.binds (ps:=["setting","row","costs"]) fun _ _ _ _ _ _ us hl=>match us,hl with | [_,_,_],_=>rfl
 have m6:=PySem.W.mg_of X G a6
 have F7:=fun_mk (st:=sBest) l7 c7 k7
 have b7:=F7.binds (ps:=["setting","many","table"]) fun _ _ _ _ _ _ us hl=>match us,hl with | [_,_,_],_=>rfl
 have m7:=PySem.W.mg_of X G a7
 have F8:=fun_mk (st:=sLeads) l8 c8 k8
 have b8:=F8.binds (ps:=["setting","table","row","start","place"]) fun _ _ _ _ _ _ us hl=>match us,hl with | [_,_,_,_,_],_=>rfl
 have m8:=PySem.W.mg_of X G a8
 have F9:=fun_mk (st:=sBefore) l9 c9 k9
 have b9:=F9.binds (ps:=["setting","table","row","place"]) fun _ _ _ _ _ _ us hl=>match us,hl with | [_,_,_,_],_=>rfl
 have m9:=PySem.W.mg_of X G a9
 have F10:=fun_mk (st:=sBack) l10 c10 k10
 have b10:=F10.binds (ps:=["setting","table","end"]) fun _ _ _ _ _ _ us hl=>match us,hl with | [_,_,_],_=>rfl
 have m10:=PySem.W.mg_of X G a10
 have F11:=fun_mk (st:=sSetRows) l11 c11 k11
 have b11:=F11.binds (ps:=["WORDS","JOINT","widths","many"]) fun _ _ _ _ _ _ us hl=>match us,hl with | [_,_,_,_],_=>rfl
 have m11:=PySem.W.mg_of X G a11
 have F12:=fun_mk (st:=sWhole) l12 c12 k12
 have b12:=F12.binds (ps:=["thing"]) fun _ _ _ _ _ _ us hl=>match us,hl with | [_],_=>rfl
 have m12:=PySem.W.mg_of X G a12
 have F13:=fun_mk (st:=sTupOf) l13 c13 k13
 have b13:=F13.binds (ps:=["thing","many"]) fun _ _ _ _ _ _ us hl=>match us,hl with | [_,_],_=>rfl
 have m13:=PySem.W.mg_of X G a13
 have F14:=fun_mk (st:=sLstOf) l14 c14 k14
 have b14:=F14.binds (ps:=["thing","many"]) fun _ _ _ _ _ _ us hl=>match us,hl with | [_,_],_=>rfl
 have m14:=PySem.W.mg_of X G a14
 have F15:=fun_mk (st:=sTriple) l15 c15 k15
 have b15:=F15.binds (ps:=["thing"]) fun _ _ _ _ _ _ us hl=>match us,hl with | [_],_=>rfl
 have m15:=PySem.W.mg_of X G a15
 have F16:=fun_mk (st:=sTriples) l16 c16 k16
 have b16:=F16.binds (ps:=["thing"]) fun _ _ _ _ _ _ us hl=>match us,hl with | [_],_=>rfl
 have m16:=PySem.W.mg_of X G a16
 have F17:=fun_mk (st:=sEntry) l17 c17 k17
 have b17:=F17.binds (ps:=["thing"]) fun _ _ _ _ _ _ us hl=>match us,hl with | [_],_=>rfl
 have m17:=PySem.W.mg_of X G a17
 have F18:=fun_mk (st:=sEntries) l18 c18 k18
 have b18:=F18.binds (ps:=["thing","many"]) fun _ _ _ _ _ _ us hl=>match us,hl with | [_,_],_=>rfl
 have m18:=PySem.W.mg_of X G a18
 have F19:=fun_mk (st:=sIsTable) l19 c19 k19
 have b19:=F19.binds (ps:=["thing","many","wide"]) fun _ _ _ _ _ _ us hl=>match us,hl with | [_,_,_],_=>rfl
 have m19:=PySem.W.mg_of X G a19
 have F20:=fun_mk (st:=sTrSet) l20 c20 k20
 have b20:=F20.binds (ps:=["setting","many","triples"]) fun _ _ _ _ _ _ us hl=>match us,hl with | [_,_,_],_=>rfl
 have m20:=PySem.W.mg_of X G a20
 have F21:=fun_mk (st:=sTotal) l21 c21 k21
 have b21:=F21.binds (ps:=["setting","triples","end"]) fun _ _ _ _ _ _ us hl=>match us,hl with | [_,_,_],_=>rfl
 have m21:=PySem.W.mg_of X G a21
 have F22:=fun_mk (st:=sStepsHeld) l22 c22 k22
 have b22:=F22.binds (ps:=["setting","row","table"]) fun _ _ _ _ _ _ us hl=>match us,hl with | [_,_,_],_=>rfl
 have m22:=PySem.W.mg_of X G a22
 have F23:=fun_mk (st:=sEndsHeld) l23 c23 k23
 have b23:=F23.binds (ps:=["setting","row","entries","total","end"]) fun _ _ _ _ _ _ us hl=>match us,hl with | [_,_,_,_,_],_=>rfl
 have m23:=PySem.W.mg_of X G a23
 have F24:=fun_mk (st:=sShown) l24 c24 k24
 have b24:=F24.binds (ps:=["WORDS","JOINT","widths","many","triples","table"]) fun _ _ _ _ _ _ us hl=>match us,hl with | [_,_,_,_,_,_],_=>rfl
 have m24:=PySem.W.mg_of X G a24
 have F25:=fun_mk (st:=sCell) l25 c25 k25
 have b25:=F25.binds (ps:=["_law_script","_law_k"]) fun _ _ _ _ _ _ us hl=>match us,hl with | [_,_],_=>rfl
 have m25:=PySem.W.mg_of X G a25
 have F26:=fun_mk (st:=sNumbers) l26 c26 k26
 have b26:=F26.binds (ps:=["_law_cell","_law_many"]) fun _ _ _ _ _ _ us hl=>match us,hl with | [_,_],_=>rfl
 have m26:=PySem.W.mg_of X G a26
 have F27:=fun_mk (st:=sWords) l27 c27 k27
 have b27:=F27.binds (ps:=["_law_cells"]) fun _ _ _ _ _ _ us hl=>match us,hl with | [_],_=>rfl
 have m27:=PySem.W.mg_of X G a27
 have F28:=fun_mk (st:=sLPieces) l28 c28 k28
 have b28:=F28.binds (ps:=["_law_words_here"]) fun _ _ _ _ _ _ us hl=>match us,hl with | [_],_=>rfl
 have m28:=PySem.W.mg_of X G a28
 have F29:=fun_mk (st:=sSize) l29 c29 k29
 have b29:=F29.binds (ps:=["_law_pieces_here","_law_first","_law_till"]) fun _ _ _ _ _ _ us hl=>match us,hl with | [_,_,_],_=>rfl
 have m29:=PySem.W.mg_of X G a29
 have F30:=fun_mk (st:=sLCost) l30 c30 k30
 have b30:=F30.binds (ps:=["_law_pieces_here","_law_joint","_law_widths","_law_many","_law_triples"]) fun _ _ _ _ _ _ us hl=>match us,hl with | [_,_,_,_,_],_=>rfl
 have m30:=PySem.W.mg_of X G a30
 have F31:=fun_mk (st:=sLStep) l31 c31 k31
 have b31:=F31.binds (ps:=["_law_pieces_here","_law_joint","_law_width","_law_costs","_law_after","_law_end","_law_most"]) fun _ _ _ _ _ _ us hl=>match us,hl with | [_,_,_,_,_,_,_],_=>rfl
 have m31:=PySem.W.mg_of X G a31
 have F32:=fun_mk (st:=sLShows) l32 c32 k32
 have b32:=F32.binds (ps:=["_law_pieces_here","_law_joint","_law_widths","_law_table","_law_cost_here","_law_last"]) fun _ _ _ _ _ _ us hl=>match us,hl with | [_,_,_,_,_,_],_=>rfl
 have m32:=PySem.W.mg_of X G a32
 have F33:=fun_mk (st:=sLIsNum) l33 c33 k33
 have b33:=F33.binds (ps:=["_law_thing"]) fun _ _ _ _ _ _ us hl=>match us,hl with | [_],_=>rfl
 have m33:=PySem.W.mg_of X G a33
 have F34:=fun_mk (st:=sLRight) l34 c34 k34
 have b34:=F34.binds (ps:=["_law_pieces_here","_law_many","_law_triples","_law_table"]) fun _ _ _ _ _ _ us hl=>match us,hl with | [_,_,_,_],_=>rfl
 have m34:=PySem.W.mg_of X G a34
 have F35:=fun_mk (st:=sLDue) l35 c35 k35
 have b35:=F35.binds (ps:=["_law_pieces_here","_law_joint","_law_widths","_law_many","_law_triples","_law_table"]) fun _ _ _ _ _ _ us hl=>match us,hl with | [_,_,_,_,_,_],_=>rfl
 have m35:=PySem.W.mg_of X G a35
 have F36:=fun_mk (st:=sLStepC) l36 c36 k36
 have b36:=F36.binds (ps:=["_law_pieces_here","_law_joint","_law_width","_law_first","_law_till"]) fun _ _ _ _ _ _ us hl=>match us,hl with | [_,_,_,_,_],_=>rfl
 have m36:=PySem.W.mg_of X G a36
 have F37:=fun_mk (st:=sLAhead) l37 c37 k37
 have b37:=F37.binds (ps:=["_law_pieces_here","_law_joint","_law_width","_law_costs","_law_place","_law_cost_here"]) fun _ _ _ _ _ _ us hl=>match us,hl with | [_,_,_,_,_,_],_=>rfl
 have m37:=PySem.W.mg_of X G a37
 have F38:=fun_mk (st:=sLAnother) l38 c38 k38
 have b38:=F38.binds (ps:=["_law_pieces_here","_law_joint","_law_widths","_law_triples","_law_table"]) fun _ _ _ _ _ _ us hl=>match us,hl with | [_,_,_,_,_],_=>rfl
 have m38:=PySem.W.mg_of X G a38
 have F39:=fun_mk (st:=sLOthTr) l39 c39 k39
 have b39:=F39.binds (ps:=["_law_triples","_law_some"]) fun _ _ _ _ _ _ us hl=>match us,hl with | [_,_],_=>rfl
 have m39:=PySem.W.mg_of X G a39
 have F40:=fun_mk (st:=sLOthTab) l40 c40 k40
 have b40:=F40.binds (ps:=["_law_table","_law_some"]) fun _ _ _ _ _ _ us hl=>match us,hl with | [_,_],_=>rfl
 have m40:=PySem.W.mg_of X G a40
 have F41:=fun_mk (st:=sLaw) l41 c41 k41
 have F42:=fun_mk (st:=sInit) l42 c42 k42
 have b42:=F42.binds (ps:=["self","words","joint","widths"]) fun _ _ _ _ _ _ us hl=>match us,hl with | [_,_,_,_],_=>rfl
 have F43:=fun_mk (st:=sWidth) l43 c43 k43
 have b43:=F43.binds (ps:=["self","row"]) fun _ _ _ _ _ _ us hl=>match us,hl with | [_,_],_=>rfl
 have F44:=fun_mk (st:=sLength) l44 c44 k44
 have b44:=F44.binds (ps:=["self","start","till"]) fun _ _ _ _ _ _ us hl=>match us,hl with | [_,_,_],_=>rfl
 have F45:=fun_mk (st:=sFits) l45 c45 k45
 have b45:=F45.binds (ps:=["self","row","start","till"]) fun _ _ _ _ _ _ us hl=>match us,hl with | [_,_,_,_],_=>rfl
 have F46:=fun_mk (st:=sCost) l46 c46 k46
 have b46:=F46.binds (ps:=["self","row","start","till"]) fun _ _ _ _ _ _ us hl=>match us,hl with | [_,_,_,_],_=>rfl
 have F47:=fun_mk (st:=sEmpty) l47 c47 k47
 have b47:=F47.binds (ps:=["self","row"]) fun _ _ _ _ _ _ us hl=>match us,hl with | [_,_],_=>rfl
 have F48:=fun_mk (st:=sMay) l48 c48 k48
 have b48:=F48.binds (ps:=["self","row","place"]) fun _ _ _ _ _ _ us hl=>match us,hl with | [_,_,_],_=>rfl
 have F49:=fun_mk (st:=sSteps) l49 c49 k49
 have b49:=F49.binds (ps:=["self","row","start"]) fun _ _ _ _ _ _ us hl=>match us,hl with | [_,_,_],_=>rfl
 have F50:=fun_mk (st:=sTooInit) l50 c50 k50
 have b50:=F50.binds (ps:=["self","name"]) fun _ _ _ _ _ _ us hl=>match us,hl with | [_,_],_=>rfl
 refine ⟨PySem.W.fnOf "law" "law" (defArgs sLaw) (defBody sLaw) (defScope sLaw) .none kV41 dc41 pm41 an41 cd41 ct41,fun s v=>.of_eq rfl,fun base _ _=>?_⟩
 have mC:=PySem.W.mg_of X G aC
 have mT:=PySem.W.mg_of X G aCT
 have mN:=PySem.W.mg_of X G aCN
 have M:Mk K C f42:=⟨mk,a42,i42,kc⟩
 have GI:=ok_init (P:=l.prog) (w:=w) (mg:=mg) (base:=base) F42 N T F1 b1 m1 F2 b2 m2
 have GL:=ok_length (P:=l.prog) (w:=w) (mg:=mg) (base:=base) F44 T
 have GC:=ok_cost (P:=l.prog) (w:=w) (mg:=mg) (base:=base) F46 N T F43 b43 ⟨a43,i43,k43⟩ F44 b44 ⟨a44,i44,k44⟩
 have GF:=ok_fits (P:=l.prog) (w:=w) (mg:=mg) (base:=base) F45 N T F43 b43 ⟨a43,i43,k43⟩ F44 b44 ⟨a44,i44,k44⟩
 have GE:=ok_empty (P:=l.prog) (w:=w) (mg:=mg) (base:=base) F47 N T F43 b43 ⟨a43,i43,k43⟩
 have GM:=ok_may (P:=l.prog) (w:=w) (mg:=mg) (base:=base) F48 T GF b45 ⟨a45,i45,k45⟩
 have GS:=ok_steps (P:=l.prog) (w:=w) (mg:=mg) (base:=base) F49 N T GF b45 ⟨a45,i45,k45⟩ GC b46 ⟨a46,i46,k46⟩ GE b47 ⟨a47,i47,k47⟩ GM b48 ⟨a48,i48,k48⟩
 have GX:=ok_next (P:=l.prog) (w:=w) (mg:=mg) (base:=base) F3 N T GS b49 ⟨a49,i49,k49⟩
 have GT:=ok_table (P:=l.prog) (w:=w) (mg:=mg) (base:=base) F4 N T GX b3 m3 k3
 have GTI:=ok_too (P:=l.prog) (w:=w) (mg:=mg) (base:=base) F50 eT xnm
 have GR:=ok_refuse (P:=l.prog) (w:=w) (mg:=mg) (base:=base) F5 N T GL b44 ⟨a44,i44,k44⟩ xow i50 xtkp mT GTI b50
 have GEn:=ok_ends (P:=l.prog) (w:=w) (mg:=mg) (base:=base) F6 N T GF b45 ⟨a45,i45,k45⟩
 have GB:=ok_best (P:=l.prog) (w:=w) (mg:=mg) (base:=base) F7 N GEn b6 m6 k6 xex xnkp mN
 have GLe:=ok_leads (P:=l.prog) (w:=w) (mg:=mg) (base:=base) F8 T GS b49 ⟨a49,i49,k49⟩
 have GBf:=ok_before (P:=l.prog) (w:=w) (mg:=mg) (base:=base) F9 GLe b8 m8 k8
 have GBk:=ok_back (P:=l.prog) (w:=w) (mg:=mg) (base:=base) F10 T GBf b9 m9 k9
 have GSR:=ok_setRows (P:=l.prog) (w:=w) (mg:=mg) (base:=base) F11 T mC M GI b42 GT b4 m4 k4 GR b5 m5 k5 GB b7 m7 k7 GBk b10 m10 k10
 have GWh:=ok_wholeG (P:=l.prog) (w:=w) (mg:=mg) (base:=base) F12 N
 have GTo:=ok_tupOfG (P:=l.prog) (w:=w) (mg:=mg) (base:=base) F13 N
 have GTr:=ok_tripleG (P:=l.prog) (w:=w) (mg:=mg) (base:=base) F15 N GTo b13 m13 k13 GWh b12 m12 k12
 have GTs:=ok_triplesG (P:=l.prog) (w:=w) (mg:=mg) (base:=base) F16 N GTr b15 m15 k15
 have GEy:=ok_entryG (P:=l.prog) (w:=w) (mg:=mg) (base:=base) F17 GWh b12 m12 k12
 have GLo:=ok_lstOfG (P:=l.prog) (w:=w) (mg:=mg) (base:=base) F14 N
 have GEs:=ok_entriesG (P:=l.prog) (w:=w) (mg:=mg) (base:=base) F18 N GLo b14 m14 k14 GEy b17 m17 k17
 have GIT:=ok_isTableG (P:=l.prog) (w:=w) (mg:=mg) (base:=base) F19 N GLo b14 m14 k14 GEs b18 m18 k18
 have GTS:=ok_trG (P:=l.prog) (w:=w) (mg:=mg) (base:=base) F20 N T GM b48 ⟨a48,i48,k48⟩ GF b45 ⟨a45,i45,k45⟩
 have GTC:=ok_total (P:=l.prog) (w:=w) (mg:=mg) (base:=base) F21 N T GC b46 ⟨a46,i46,k46⟩ GE b47 ⟨a47,i47,k47⟩
 have GSH:=ok_stepsG (P:=l.prog) (w:=w) (mg:=mg) (base:=base) F22 N T GS b49 ⟨a49,i49,k49⟩
 have GEH:=ok_endsG (P:=l.prog) (w:=w) (mg:=mg) (base:=base) F23 N T GF b45 ⟨a45,i45,k45⟩
 have GSw:=ok_shownG (P:=l.prog) (w:=w) (mg:=mg) (base:=base) F24 N T mC M GI b42 GTs b16 m16 k16 GIT b19 m19 k19 GTS b20 m20 k20 GTC b21 m21 k21 GSH b22 m22 k22 GEH b23 m23 k23
 have GSz:=ok_size (P:=l.prog) (w:=w) (mg:=mg) (base:=base) F29 N
 have GLC:=ok_lcostG (P:=l.prog) (w:=w) (mg:=mg) (base:=base) F30 N GSz b29 m29 k29
 have GLS:=ok_lstepG (P:=l.prog) (w:=w) (mg:=mg) (base:=base) F31 N GSz b29 m29 k29
 have GLH:=ok_lshowsG (P:=l.prog) (w:=w) (mg:=mg) (base:=base) F32 N GLS b31 m31 k31
 have GLN:=ok_lnum (P:=l.prog) (w:=w) (mg:=mg) (base:=base) F33 N
 have GLR:=ok_lRight (P:=l.prog) (w:=w) (mg:=mg) (base:=base) F34 N GLN b33 m33 k33
 have GLD:=ok_lDue (P:=l.prog) (w:=w) (mg:=mg) (base:=base) F35 N GLR b34 m34 k34 GLC b30 m30 k30 GLH b32 m32 k32
 have GSC:=ok_lStepC (P:=l.prog) (w:=w) (mg:=mg) (base:=base) F36 N GSz b29 m29 k29
 have GAh:=ok_lAhead (P:=l.prog) (w:=w) (mg:=mg) (base:=base) F37 N GSC b36 m36 k36
 have GAn:=ok_lAnother (P:=l.prog) (w:=w) (mg:=mg) (base:=base) F38 N GSz b29 m29 k29 GAh b37 m37 k37
 have GOT:=ok_lOthTr (P:=l.prog) (w:=w) (mg:=mg) (base:=base) F39 N
 have GOB:=ok_lOthTab (P:=l.prog) (w:=w) (mg:=mg) (base:=base) F40 N
 exact ok_law F41 N (ok_words F27 N F26 b26 m26) b27 m27 k27 (ok_lpieces F28 N) b28 m28 k28 (ok_numbers F26 N) b26 m26 k26 (ok_cell F25 N) b25 m25 k25 GSR b11 m11 k11 GSw b24 m24 k24 GAn b38 m38 k38 GOT b39 m39 k39 GOB b40 m40 k40 GLD b35 m35 k35
theorem walk {l:PySem.W.OpenLaw} {q:Program} {loose:List Str} {XP:(Str→Option Value)→Heap→Prop} {YP:World→Heap→Prop} {d:DefRec} {K:Params→PySem.W.Frag} (hn:l.most=some 63) (hdf:d.params.defaults=[])
  (hY:∀ (w:World) (h:Heap),YP w h→(K w.params).In h)
  (F:∀ (w:World) (mg:Str→Option Value) (fa:Addr) (h:Heap),(K w.params).In h→h.Ns mainGlobals mg→mg d.name=some (.ref fa) →
   ∃ fd:FuncData,(∀ (s:Shared) (u:Value),BindsTo s fd ⟨[u],[]⟩ [("_law_script",u)])∧∀ base:Heap,(K w.params).In base→base.Ns mainGlobals mg→FnOk l.prog w (K w.params) mg base CX0 9 fa fd ["_law_script"] (spLaw (K w.params))) :
  PySem.W.WalkO q loose XP YP l.row.toRowW d [] (fun f vs=>PySem.call f vs) :=
 L2.walk_of (n:=63) (k:=9) (x:="_law_script") (CX:=fun _=>CX0) (sp:=fun w=>spLaw (K w.params)) hn (by decide) hdf ⟨rfl,by decide,by decide⟩ hY F (fun _ _ a ns hl _ hS=>⟨a,ns,rfl,hS,hl,fun _=>rfl⟩) fun _ _ _ _ _ z=>z
end B64
namespace PySem.W.Fast
theorem tw256044723165084967:True:=trivial
theorem tw16444950994239206911:True:=trivial
theorem tw7207606787056673626:True:=trivial
theorem tw6527647566316969583:True:=trivial
theorem tw16446004471532432648:True:=trivial
theorem tw2844124154430945731:True:=trivial
theorem tw2546684007698637108:True:=trivial
theorem tw12687206350640201623:True:=trivial
theorem tw1615041456178993705:True:=trivial
theorem tw5941174454635058222:True:=trivial
theorem tw11387955163838622240:True:=trivial
theorem tw13611373422913314008:True:=trivial
theorem tw10820554087520693994:True:=trivial
theorem tw7078769492248779587:True:=trivial
theorem tw3242683525203498887:True:=trivial
theorem tw7925976613325938070:True:=trivial
theorem tw15998985161430689530:True:=trivial
theorem tw1899786863513902824:True:=trivial
theorem tw5216054347757937762:True:=trivial
theorem tw10724278488491025003:True:=trivial
theorem tw4275731874902617772:True:=trivial
theorem tw1273649579207960119:True:=trivial
theorem tw747417237684855499:True:=trivial
theorem tw4177301114062271255:True:=trivial
theorem tw7528884231283952386:True:=trivial
theorem tw10648505470614012952:True:=trivial
theorem tw2375037518630249987:True:=trivial
theorem tw10814101452737517158:True:=trivial
theorem tw17016855488555735789:True:=trivial
theorem tw10469068970659144298:True:=trivial
theorem tw8852964495350132023:True:=trivial
theorem tw13369286139941264872:True:=trivial
theorem tw18396482915650189359:True:=trivial
theorem tw12730356165102606428:True:=trivial
theorem tw14113944354940163133:True:=trivial
theorem tw3163555566168691368:True:=trivial
theorem tw10745146385961604357:True:=trivial
theorem tw6652192261286911982:True:=trivial
theorem tw15641016788050509876:True:=trivial
theorem tw14285808989608726431:True:=trivial
theorem tw771598774452694359:True:=trivial
theorem tw5307393087292756820:True:=trivial
theorem tw1252012741475238251:True:=trivial
theorem tw4265980068087191000:True:=trivial
theorem tw10573510041762788067:True:=trivial
theorem tw15340100036466967737:True:=trivial
theorem tw1448963322366663614:True:=trivial
theorem tw12873972811886121354:True:=trivial
theorem tw13035919136083146550:True:=trivial
theorem tw2167728072201892005:True:=trivial
theorem tw11761724364054256923:True:=trivial
theorem tw14625429791134185565:True:=trivial
theorem tw2250262381009398730:True:=trivial
theorem tw15813911615836953202:True:=trivial
theorem tw17040548986455017214:True:=trivial
theorem tw16708554649632464595:True:=trivial
theorem tw17755791891235220881:True:=trivial
theorem tw10252011524803065880:True:=trivial
theorem tw2595118067054556130:True:=trivial
theorem tw3116375640223397965:True:=trivial
theorem tw9486309327232157002:True:=trivial
theorem tw14258247987655889098:True:=trivial
theorem tw9714972822048379226:True:=trivial
theorem tw4752023347372813803:True:=trivial
theorem tw2598364633884006988:True:=trivial
theorem tw5038612409341835627:True:=trivial
theorem tw4807273970477265104:True:=trivial
theorem tw9949530122290356410:True:=trivial
theorem tw2899891106302298221:True:=trivial
theorem tw1592414115239149694:True:=trivial
theorem tw10344817879879813427:True:=trivial
theorem tw10978402356261587849:True:=trivial
theorem tw13591439053106253544:True:=trivial
theorem tw11184570088124548912:True:=trivial
theorem tw5184644647958778541:True:=trivial
theorem tw17968119754595915949:True:=trivial
theorem tw4736755344173619946:True:=trivial
theorem tw1545830239978378803:True:=trivial
theorem tw2372936661602545940:True:=trivial
theorem tw3618773032149355022:True:=trivial
theorem tw10183853079602999488:True:=trivial
theorem tw1912637896954958859:True:=trivial
theorem tw1461684445564897007:True:=trivial
theorem tw4621314076001426062:True:=trivial
theorem tw4865556709656903692:True:=trivial
theorem tw12600103273771605615:True:=trivial
theorem tw3381456989950631845:True:=trivial
theorem tw111441475861778723:True:=trivial
theorem tw2631585983841585548:True:=trivial
theorem tw18205194143504333728:True:=trivial
theorem tw9206976247286083132:True:=trivial
theorem tw3433012664892264263:True:=trivial
theorem tw4665547168517759195:True:=trivial
theorem tw10517133515948095697:True:=trivial
theorem tw9695633981396587161:True:=trivial
theorem tw17832724905593051076:True:=trivial
theorem tw1094231104879690482:True:=trivial
theorem tw4935916766221177928:True:=trivial
theorem tw5665386294488308077:True:=trivial
theorem tw3033114002225708265:True:=trivial
theorem tw2517646545234790177:True:=trivial
theorem tw3207325473318632969:True:=trivial
theorem tw14585370720619526943:True:=trivial
theorem tw16968298603334724866:True:=trivial
theorem tw13876734003198418102:True:=trivial
theorem tw17266087457430235940:True:=trivial
theorem tw13650901614619970565:True:=trivial
theorem tw18243672657966976362:True:=trivial
theorem tw8713474776067698361:True:=trivial
theorem tw559946971101470900:True:=trivial
theorem tw14545533725184779581:True:=trivial
theorem tw9737568690569597566:True:=trivial
theorem tw8259837898127003554:True:=trivial
theorem tw17078458118220783653:True:=trivial
theorem tw16428562937637623611:True:=trivial
theorem tw12509121936060718557:True:=trivial
theorem tw12179284981613149405:True:=trivial
theorem tw14824168513969470177:True:=trivial
theorem tw15187826935656128318:True:=trivial
theorem tw5175730397635081751:True:=trivial
theorem tw3947779838242819428:True:=trivial
theorem tw288175713792129639:True:=trivial
theorem tw11164273230654537796:True:=trivial
theorem tw816985405310749772:True:=trivial
theorem tw10544387848186148772:True:=trivial
theorem tw817468394976730931:True:=trivial
theorem tw7302120919775082893:True:=trivial
theorem tw10628859214711106193:True:=trivial
theorem tw12855206416814958971:True:=trivial
theorem tw16981550040194654989:True:=trivial
theorem tw8425493197442949356:True:=trivial
theorem tw14701503316600556859:True:=trivial
theorem tw14408761694582213351:True:=trivial
theorem tw13455245866548714690:True:=trivial
theorem tw15034330569030293628:True:=trivial
theorem tw13264093983723339660:True:=trivial
theorem tw2591414113076177514:True:=trivial
theorem tw4248971230462870300:True:=trivial
theorem tw10796401020517230564:True:=trivial
theorem tw13433390527207611199:True:=trivial
theorem tw9053574464311610471:True:=trivial
theorem tw12615731002299700318:True:=trivial
theorem tw5922635171387100962:True:=trivial
theorem tw9808507788721207727:True:=trivial
theorem tw413273831996919013:True:=trivial
theorem tw16305369738677332536:True:=trivial
theorem tw17995630950547662445:True:=trivial
theorem tw17884629745941599410:True:=trivial
theorem tw13704729392777524866:True:=trivial
theorem tw150948211875202408:True:=trivial
theorem tw6514090362757116534:True:=trivial
theorem tw914176628710959991:True:=trivial
theorem tw3701285941559974113:True:=trivial
theorem tw8758947341460120305:True:=trivial
theorem tw10993564008807757759:True:=trivial
theorem tw5993989493981333499:True:=trivial
theorem tw3923272101989103274:True:=trivial
theorem tw8089103591082302638:True:=trivial
theorem tw1770318178955002025:True:=trivial
theorem tw14453416800937280926:True:=trivial
theorem tw678221323677088553:True:=trivial
theorem tw9246113271822609870:True:=trivial
theorem tw17914318994775768769:True:=trivial
theorem tw10557838897237878068:True:=trivial
theorem tw4582118982798020928:True:=trivial
theorem tw6609016417940299704:True:=trivial
theorem tw15269409176397170703:True:=trivial
theorem tw1535456411081198667:True:=trivial
theorem tw6475018725855118512:True:=trivial
theorem tw2731068158585974655:True:=trivial
theorem tw16639200713464454:True:=trivial
theorem tw14463037004380938219:True:=trivial
theorem tw1733199306343592949:True:=trivial
theorem tw11817314035573327076:True:=trivial
theorem tw5721393317681416105:True:=trivial
theorem tw1891553673718166125:True:=trivial
theorem tw6797768473572832361:True:=trivial
theorem tw13278233106120813560:True:=trivial
theorem tw822506479613855589:True:=trivial
theorem tw18043805839750259827:True:=trivial
theorem tw8136331518758475418:True:=trivial
theorem tw8492761245799942290:True:=trivial
theorem tw17981662165915970399:True:=trivial
theorem tw4506311301414159962:True:=trivial
theorem tw15367866377905762226:True:=trivial
theorem tw5810646620129214948:True:=trivial
theorem tw11435107080801881240:True:=trivial
theorem tw18339276597719178328:True:=trivial
theorem tw4164795248888167913:True:=trivial
theorem tw9680738786955824338:True:=trivial
theorem tw11202431606037657106:True:=trivial
theorem tw14494094514481505439:True:=trivial
theorem tw13561942900656830939:True:=trivial
theorem tw1515130413313294795:True:=trivial
theorem tw14286780935365457193:True:=trivial
theorem tw3991106505073291563:True:=trivial
theorem tw14889294023986451525:True:=trivial
theorem tw9927213920203802979:True:=trivial
theorem tw11316129201205871116:True:=trivial
theorem tw14378392766436830434:True:=trivial
theorem tw8075935236306432458:True:=trivial
theorem tw8618906508936378444:True:=trivial
theorem tw13792800925908711926:True:=trivial
theorem tw10830891990532572963:True:=trivial
theorem tw4415323847591781898:True:=trivial
theorem tw9831372971553733197:True:=trivial
theorem tw9173628733492931221:True:=trivial
theorem tw5877529769740233288:True:=trivial
theorem tw11519089151143178226:True:=trivial
theorem tw13147603853934990320:True:=trivial
theorem tw16308606354072508023:True:=trivial
theorem tw15505597219623647148:True:=trivial
theorem tw666618654167479385:True:=trivial
theorem tw14459955719489613912:True:=trivial
theorem tw204246884445378956:True:=trivial
theorem tw2110712055951168922:True:=trivial
theorem tw10169547851390270387:True:=trivial
theorem tw4921871816706807919:True:=trivial
theorem tw10976414730552666054:True:=trivial
theorem tw14566000803691295344:True:=trivial
theorem tw17751318101553758983:True:=trivial
theorem tw7787570576647566462:True:=trivial
theorem tw11136852013835621730:True:=trivial
theorem tw2062864529954071362:True:=trivial
theorem tw2368137828598576311:True:=trivial
theorem tw8378856229777262718:True:=trivial
theorem tw18013553774929590174:True:=trivial
theorem tw10162950448080146072:True:=trivial
theorem tw6651991430103759487:True:=trivial
theorem tw11641195219734744210:True:=trivial
theorem tw10964526311117269528:True:=trivial
theorem tw509582649398076756:True:=trivial
theorem tw13402473829173770547:True:=trivial
theorem tw16211652937191904866:True:=trivial
theorem tw15084613217664002356:True:=trivial
theorem tw394077894158853922:True:=trivial
theorem tw15422946124298055341:True:=trivial
theorem tw11636451674871901239:True:=trivial
theorem tw15964110662029336069:True:=trivial
theorem tw173524357866148863:True:=trivial
theorem tw12409960866901382837:True:=trivial
theorem tw3920871286989954217:True:=trivial
theorem tw13587498619470013903:True:=trivial
theorem tw2618533839982651859:True:=trivial
theorem tw5215745732507362843:True:=trivial
theorem tw13795482168876083057:True:=trivial
theorem tw5233322881554971869:True:=trivial
theorem tw648714106006765412:True:=trivial
theorem tw4659925586046969661:True:=trivial
theorem tw584335321016256585:True:=trivial
theorem tw2656550005179778279:True:=trivial
theorem tw1518018169902496463:True:=trivial
theorem tw18404609695994101664:True:=trivial
theorem tw17762717721853913354:True:=trivial
theorem tw1279817168982647752:True:=trivial
theorem tw13878523820825458218:True:=trivial
theorem tw11014500464108238859:True:=trivial
theorem tw12552726422874413627:True:=trivial
theorem tw15592782242299105438:True:=trivial
theorem tw4464871570149411161:True:=trivial
theorem tw6851669959267624548:True:=trivial
theorem tw17381814548385899178:True:=trivial
theorem tw3832635289399221278:True:=trivial
theorem tw7828959890322284419:True:=trivial
theorem tw3736855314839086442:True:=trivial
theorem tw720890203170431184:True:=trivial
theorem tw3079498986113376627:True:=trivial
theorem tw5374189748280265830:True:=trivial
theorem tw3687333840980696961:True:=trivial
theorem tw9058384629433466388:True:=trivial
theorem tw16305040295252985707:True:=trivial
theorem tw8620482866427610875:True:=trivial
theorem tw12921726021799872035:True:=trivial
theorem tw601337050439729896:True:=trivial
theorem tw6495745232186225715:True:=trivial
theorem tw9857794471729802622:True:=trivial
theorem tw943478407519421094:True:=trivial
theorem tw9565455783888947431:True:=trivial
theorem tw4433368610760599145:True:=trivial
theorem tw1950532584561383344:True:=trivial
theorem tw13231810540059360361:True:=trivial
theorem tw10729053252936266111:True:=trivial
theorem tw2889587615026745040:True:=trivial
theorem tw14236608751106665214:True:=trivial
theorem tw18080530766861192492:True:=trivial
theorem tw8574519464953147117:True:=trivial
theorem tw11538281332819110436:True:=trivial
theorem tw6017457997960874276:True:=trivial
theorem tw2877229527354172836:True:=trivial
theorem tw13494387851292607197:True:=trivial
theorem tw15737763562067118802:True:=trivial
theorem tw8294823260199689453:True:=trivial
theorem tw11598473267244074517:True:=trivial
theorem tw4923214741564514250:True:=trivial
theorem tw15130529542548235443:True:=trivial
theorem tw9420868928208106183:True:=trivial
theorem tw15636547179207224447:True:=trivial
theorem tw6443472026038704211:True:=trivial
theorem tw6782518557295985745:True:=trivial
theorem tw7897659474049360374:True:=trivial
theorem tw7961484773856996445:True:=trivial
theorem tw10070099483234525356:True:=trivial
theorem tw2028315619834637634:True:=trivial
theorem tw9610395806133935118:True:=trivial
theorem tw9061462218678136554:True:=trivial
theorem tw1727096185125184569:True:=trivial
theorem tw16737450950235133601:True:=trivial
theorem tw9422290706793336912:True:=trivial
theorem tw13436033627159470024:True:=trivial
theorem tw4263374581369036859:True:=trivial
theorem tw5240171569450019505:True:=trivial
theorem tw7892465551373571492:True:=trivial
theorem tw3346769102360247697:True:=trivial
theorem tw899664113212573962:True:=trivial
theorem tw2604661560966880443:True:=trivial
theorem tw11433248493435885892:True:=trivial
theorem tw3894391248479085419:True:=trivial
theorem tw4248842558061947232:True:=trivial
theorem tw17501533883783303026:True:=trivial
theorem tw7299826922309715158:True:=trivial
theorem tw5895008818882755320:True:=trivial
theorem tw14124612730514107081:True:=trivial
theorem tw6742986597737066659:True:=trivial
theorem tw8233689694365539208:True:=trivial
theorem tw458159785908011557:True:=trivial
theorem tw4069270676543776491:True:=trivial
theorem tw11153236034232209934:True:=trivial
theorem tw17484485152087596650:True:=trivial
theorem tw1472148371992820123:True:=trivial
theorem tw17216948985180669457:True:=trivial
theorem tw12307556620705826300:True:=trivial
theorem tw1891726589149421906:True:=trivial
theorem tw8742919711791711823:True:=trivial
theorem tw7030277024640862072:True:=trivial
theorem tw11009875306106596245:True:=trivial
theorem tw18427700230723465703:True:=trivial
theorem tw3459793218517905223:True:=trivial
theorem tw14506095828807207140:True:=trivial
theorem tw17431977971085305287:True:=trivial
theorem tw12599687382809682754:True:=trivial
theorem tw5276044838195867159:True:=trivial
theorem tw685964302848744019:True:=trivial
theorem tw7763952509946014422:True:=trivial
theorem tw2640132001539079307:True:=trivial
theorem tw10035469938055681706:True:=trivial
theorem tw9650919194436734352:True:=trivial
theorem tw16164482807934368291:True:=trivial
theorem tw18266644985834942001:True:=trivial
theorem tw16236709026828512319:True:=trivial
theorem tw4637111491895554717:True:=trivial
theorem tw4229999117668788335:True:=trivial
theorem tw9031118687679308964:True:=trivial
theorem tw762610438439715939:True:=trivial
theorem tw4821525600813550774:True:=trivial
theorem tw873180291380386708:True:=trivial
theorem tw6523692944419562607:True:=trivial
theorem tw14884348848503720030:True:=trivial
end PySem.W.Fast
open PySem PySem.W PyProof.Rows
set_option maxRecDepth 100000 in
set_option maxHeartbeats 0 in
theorem PySem.Challenge.cw_boxgalley_k64_what_the_checker_of_rows_l_holds : PySem.Challenge.rw_boxgalley_k64_what_the_checker_of_rows_l.Holds := by
 w_on; o_law; k_head; (case hw=>w_witness2)
 k_fill
 refine B64.walk (l:=PySem.Challenge.rw_boxgalley_k64_what_the_checker_of_rows_l) rfl rfl (fun w h Y=>PySem.W.kIn_of Y) ?F
 case F =>
  intro w mg fa h KX G hmg
  refine' B64.all_mk KX G hmg ?aC ?aCB ?aCT ?aCN ?a1 ?l1 ?c1 ?k1 ?a2 ?l2 ?c2 ?k2 ?a3 ?l3 ?c3 ?k3 ?a4 ?l4 ?c4 ?k4 ?a5 ?l5 ?c5 ?k5 ?a6 ?l6 ?c6 ?k6 ?a7 ?l7 ?c7 ?k7 ?a8 ?l8 ?c8 ?k8 ?a9 ?l9 ?c9 ?k9 ?a10 ?l10 ?c10 ?k10 ?a11 ?l11 ?c11 ?k11 ?a12 ?l12 ?c12 ?k12 ?a13 ?l13 ?c13 ?k13 ?a14 ?l14 ?c14 ?k14 ?a15 ?l15 ?c15 ?k15 ?a16 ?l16 ?c16 ?k16 ?a17 ?l17 ?c17 ?k17 ?a18 ?l18 ?c18 ?k18 ?a19 ?l19 ?c19 ?k19 ?a20 ?l20 ?c20 ?k20 ?a21 ?l21 ?c21 ?k21 ?a22 ?l22 ?c22 ?k22 ?a23 ?l23 ?c23 ?k23 ?a24 ?l24 ?c24 ?k24 ?a25 ?l25 ?c25 ?k25 ?a26 ?l26 ?c26 ?k26 ?a27 ?l27 ?c27 ?k27 ?a28 ?l28 ?c28 ?k28 ?a29 ?l29 ?c29 ?k29 ?a30 ?l30 ?c30 ?k30 ?a31 ?l31 ?c31 ?k31 ?a32 ?l32 ?c32 ?k32 ?a33 ?l33 ?c33 ?k33 ?a34 ?l34 ?c34 ?k34 ?a35 ?l35 ?c35 ?k35 ?a36 ?l36 ?c36 ?k36 ?a37 ?l37 ?c37 ?k37 ?a38 ?l38 ?c38 ?k38 ?a39 ?l39 ?c39 ?k39 ?a40 ?l40 ?c40 ?k40 ?a41 ?l41 ?c41 ?k41 ?a42 ?i42 ?l42 ?c42 ?k42 ?a43 ?i43 ?l43 ?c43 ?k43 ?a44 ?i44 ?l44 ?c44 ?k44 ?a45 ?i45 ?l45 ?c45 ?k45 ?a46 ?i46 ?l46 ?c46 ?k46 ?a47 ?i47 ?l47 ?c47 ?k47 ?a48 ?i48 ?l48 ?c48 ?k48 ?a49 ?i49 ?l49 ?c49 ?k49 ?a50 ?i50 ?l50 ?c50 ?k50 ?pg ?hd ?po ?sa ?mk ?kc ?xtov ?xtsa ?xtga ?xtgt ?xtmb ?xtmo ?xtcl ?xttp ?xtkp ?xnov ?xnsa ?xnga ?xngt ?xnmb ?xnmo ?xncl ?xntp ?xnkp ?xcg ?xct ?xow ?xex ?xhd ?xnm ?x11 ?x21 ?x22 ?xi1 ?xi2 ?xi3 ?n0 ?n1 ?n2 ?n3 ?n4 ?n5 ?z0 ?z1 ?z2 ?z3 ?z4 ?z5 ?z6 ?z7 ?z8 ?z9 ?z10 ?z11
  (case aC=>k_is); (case aCB=>k_is); (case aCT=>k_is); (case aCN=>k_is); (case a1=>k_is); (case l1=>k_is)
  (case c1=>k_is); (case k1=>k_is); (case a2=>k_is); (case l2=>k_is); (case c2=>k_is); (case k2=>k_is)
  (case a3=>k_is); (case l3=>k_is); (case c3=>k_is); (case k3=>k_is); (case a4=>k_is); (case l4=>k_is)
  (case c4=>k_is); (case k4=>k_is); (case a5=>k_is); (case l5=>k_is); (case c5=>k_is); (case k5=>k_is)
  (case a6=>k_is); (case l6=>k_is); (case c6=>k_is); (case k6=>k_is); (case a7=>k_is); (case l7=>k_is)
  (case c7=>k_is); (case k7=>k_is); (case a8=>k_is); (case l8=>k_is); (case c8=>k_is); (case k8=>k_is)
  (case a9=>k_is); (case l9=>k_is); (case c9=>k_is); (case k9=>k_is); (case a10=>k_is); (case l10=>k_is)
  (case c10=>k_is); (case k10=>k_is); (case a11=>k_is); (case l11=>k_is); (case c11=>k_is); (case k11=>k_is)
  (case a12=>k_is); (case l12=>k_is); (case c12=>k_is); (case k12=>k_is); (case a13=>k_is); (case l13=>k_is)
  (case c13=>k_is); (case k13=>k_is); (case a14=>k_is); (case l14=>k_is); (case c14=>k_is); (case k14=>k_is)
  (case a15=>k_is); (case l15=>k_is); (case c15=>k_is); (case k15=>k_is); (case a16=>k_is); (case l16=>k_is)
  (case c16=>k_is); (case k16=>k_is); (case a17=>k_is); (case l17=>k_is); (case c17=>k_is); (case k17=>k_is)
  (case a18=>k_is); (case l18=>k_is); (case c18=>k_is); (case k18=>k_is); (case a19=>k_is); (case l19=>k_is)
  (case c19=>k_is); (case k19=>k_is); (case a20=>k_is); (case l20=>k_is); (case c20=>k_is); (case k20=>k_is)
  (case a21=>k_is); (case l21=>k_is); (case c21=>k_is); (case k21=>k_is); (case a22=>k_is); (case l22=>k_is)
  (case c22=>k_is); (case k22=>k_is); (case a23=>k_is); (case l23=>k_is); (case c23=>k_is); (case k23=>k_is)
  (case a24=>k_is); (case l24=>k_is); (case c24=>k_is); (case k24=>k_is); (case a25=>k_is); (case l25=>k_is)
  (case c25=>k_is); (case k25=>k_is); (case a26=>k_is); (case l26=>k_is); (case c26=>k_is); (case k26=>k_is)
  (case a27=>k_is); (case l27=>k_is); (case c27=>k_is); (case k27=>k_is); (case a28=>k_is); (case l28=>k_is)
  (case c28=>k_is); (case k28=>k_is); (case a29=>k_is); (case l29=>k_is); (case c29=>k_is); (case k29=>k_is)
  (case a30=>k_is); (case l30=>k_is); (case c30=>k_is); (case k30=>k_is); (case a31=>k_is); (case l31=>k_is)
  (case c31=>k_is); (case k31=>k_is); (case a32=>k_is); (case l32=>k_is); (case c32=>k_is); (case k32=>k_is)
  (case a33=>k_is); (case l33=>k_is); (case c33=>k_is); (case k33=>k_is); (case a34=>k_is); (case l34=>k_is)
  (case c34=>k_is); (case k34=>k_is); (case a35=>k_is); (case l35=>k_is); (case c35=>k_is); (case k35=>k_is)
  (case a36=>k_is); (case l36=>k_is); (case c36=>k_is); (case k36=>k_is); (case a37=>k_is); (case l37=>k_is)
  (case c37=>k_is); (case k37=>k_is); (case a38=>k_is); (case l38=>k_is); (case c38=>k_is); (case k38=>k_is)
  (case a39=>k_is); (case l39=>k_is); (case c39=>k_is); (case k39=>k_is); (case a40=>k_is); (case l40=>k_is)
  (case c40=>k_is); (case k40=>k_is); (case a41=>k_is); (case l41=>k_is); (case c41=>k_is); (case k41=>k_is)
  (case a42=>k_is); (case i42=>k_is); (case l42=>k_is); (case c42=>k_is); (case k42=>k_is); (case a43=>k_is)
  (case i43=>k_is); (case l43=>k_is); (case c43=>k_is); (case k43=>k_is); (case a44=>k_is); (case i44=>k_is)
  (case l44=>k_is); (case c44=>k_is); (case k44=>k_is); (case a45=>k_is); (case i45=>k_is); (case l45=>k_is)
  (case c45=>k_is); (case k45=>k_is); (case a46=>k_is); (case i46=>k_is); (case l46=>k_is); (case c46=>k_is)
  (case k46=>k_is); (case a47=>k_is); (case i47=>k_is); (case l47=>k_is); (case c47=>k_is); (case k47=>k_is)
  (case a48=>k_is); (case i48=>k_is); (case l48=>k_is); (case c48=>k_is); (case k48=>k_is); (case a49=>k_is)
  (case i49=>k_is); (case l49=>k_is); (case c49=>k_is); (case k49=>k_is); (case a50=>k_is); (case i50=>k_is)
  (case l50=>k_is); (case c50=>k_is); (case k50=>k_is); (case pg=>k_is); (case hd=>k_is); (case po=>k_is)
  (case sa=>k_is); (case mk=>k_is); (case kc=>k_is); (case xtov=>rfl); (case xtsa=>k_is); (case xtga=>k_is)
  (case xtgt=>k_is); (case xtmb=>k_is); (case xtmo=>k_is); (case xtcl=>k_is); (case xttp=>k_is); (case xtkp=>k_is)
  (case xnov=>rfl); (case xnsa=>k_is); (case xnga=>k_is); (case xngt=>k_is); (case xnmb=>k_is); (case xnmo=>k_is)
  (case xncl=>k_is); (case xntp=>k_is); (case xnkp=>k_is); (case xcg=>k_is); (case xct=>k_is); (case xow=>with_unfolding_all exact Eq.refl true)
  (case xex=>k_exc); (case xhd=>k_is); (case xnm=>k_is); (case x11=>k_is); (case x21=>k_is); (case x22=>k_is)
  (case xi1=>rfl); (case xi2=>rfl); (case xi3=>rfl); (case n0=>k_is); (case n1=>k_is); (case n2=>k_is)
  (case n3=>k_is); (case n4=>k_is); (case n5=>k_is); (case z0=>k_is); (case z1=>k_is); (case z2=>k_is)
  (case z3=>k_is); (case z4=>k_is); (case z5=>k_is); (case z6=>k_is); (case z7=>k_is); (case z8=>k_is)
  (case z9=>k_is); (case z10=>k_is); (case z11=>k_is)
