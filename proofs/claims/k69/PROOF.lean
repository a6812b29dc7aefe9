import PyProof.Rows.All
import Wide.All
import OpenK.AllK
import Wide.FinOn
import Lean
import PyProof.EqAt
import PyProof.EqKinds
import PyProof.TupleCall
import PyProof.MinMaxWalk
import PyProof.Rows.ZipGen
import KE.KMinKey
import PyProof.NeKinds
import PyProof.Rows.Range3
import PyProof.PassesOwn
import PyProof.StationsW
import PyProof.ExcClass3
import OpenK.KMake
import PyProof.InstStoreFacts
import PyProof.ExcAttrAll.ValueError
import OpenK.KDescr
import OpenK.KOwn
import KE.KIsAll
import PyProof.NsDelKeeps
import KE.KRevIter
import PyProof.IsRules
import PySem.Challenge.RW_boxgalley_k69_what_the_checker_lets_by
set_option Elab.async false
set_option linter.all false
set_option maxRecDepth 100000
namespace L2
open PySem PySem.Spec PyProof.Rows
abbrev Key:=Sum Int Str
def keyIs:Key→Value→Bool
  | .inl k,v=>Value.isInt k v
  | .inr x,v=>Value.isStrOf x v
def keyH (w:World):Key→Int
  | .inl k=>hashInt k
  | .inr x=>hashStr w x
theorem keyIs_shape:∀ {k:Key} {v:Value},keyIs k v=true→(∃ i t,k=Sum.inl i∧v=Value.int i t) ∨ (∃ x t,k=Sum.inr x∧v=Value.str x t)
  | .inl i,v,h=>by
    obtain ⟨t,e⟩:=Value.isInt_shape (k:=i) (v:=v) h
    exact .inl ⟨i,t,rfl,e⟩
  | .inr x,v,h=>by
    obtain ⟨t,e⟩:=Value.isStrOf_shape (x:=x) (v:=v) h
    exact .inr ⟨x,t,rfl,e⟩
theorem keyIs_int (i:Int) (t:Tok):keyIs (.inl i) (.int i t)=true:=by simp [keyIs,Value.isInt]
theorem keyIs_str (x:Str) (t:Tok):keyIs (.inr x) (.str x t)=true:=by simp [keyIs,Value.isStrOf]
theorem key_ll (a b:Int):decide ((Sum.inl a:Key)=Sum.inl b)=(a == b):=by
  by_cases e:a=b
  · subst e; simp
  · have h:¬ (Sum.inl a:Key)=Sum.inl b:=fun q=>e (Sum.inl.inj q)
    rw [decide_eq_false h]
    exact (beq_eq_false_iff_ne.mpr e).symm
theorem key_rr (a b:Str):decide ((Sum.inr a:Key)=Sum.inr b)=decide (a=b):=by
  by_cases e:a=b
  · subst e; simp
  · have h:¬ (Sum.inr a:Key)=Sum.inr b:=fun q=>e (Sum.inr.inj q)
    rw [decide_eq_false h,decide_eq_false e]
theorem key_lr (a:Int) (b:Str):decide ((Sum.inl a:Key)=Sum.inr b)=false:=decide_eq_false (fun q=>nomatch q)
theorem key_rl (a:Str) (b:Int):decide ((Sum.inr a:Key)=Sum.inl b)=false:=decide_eq_false (fun q=>nomatch q)
def mixKind (prog:Program) (w:World):PySem.KeyKind prog w Key where
  is:=keyIs
  hash:=keyH w
  inj:=fun v a b ha hb=>by
    rcases keyIs_shape ha with ⟨i,t,rfl,rfl⟩ | ⟨x,t,rfl,rfl⟩
    · rcases keyIs_shape hb with ⟨j,u,rfl,e⟩ | ⟨y,u,rfl,e⟩
      · injection e with e1 _; rw [e1]
      · exact nomatch e
    · rcases keyIs_shape hb with ⟨j,u,rfl,e⟩ | ⟨y,u,rfl,e⟩
      · exact nomatch e
      · injection e with e1 _; rw [e1]
  byValue:=fun k v h=>by
    rcases keyIs_shape h with ⟨i,t,rfl,rfl⟩ | ⟨x,t,rfl,rfl⟩ <;> rfl
  pyHash:=fun hv h=>by
    rcases keyIs_shape hv with ⟨i,t,rfl,rfl⟩ | ⟨x,t,rfl,rfl⟩
    · exact wpAny_pyHash_int h
    · exact wpAny_pyHash_str h
  eqBool:=fun hu hv h=>by
    rcases keyIs_shape hu with ⟨i,t,rfl,rfl⟩ | ⟨x,t,rfl,rfl⟩
    · rcases keyIs_shape hv with ⟨j,u,rfl,rfl⟩ | ⟨y,u,rfl,rfl⟩
      · rw [key_ll] at h; exact wpAny_eqBool_int h
      · rw [key_lr] at h; exact SeqAt.EqAt.int_str i t y u _ _ _ _ h
    · rcases keyIs_shape hv with ⟨j,u,rfl,rfl⟩ | ⟨y,u,rfl,rfl⟩
      · rw [key_rl] at h; exact SeqAt.EqAt.str_int x t j u _ _ _ _ h
      · rw [key_rr] at h; exact wpAny_eqBool_str h
  «strs»:=fun k x t v h=>by
    rcases keyIs_shape h with ⟨i,u,rfl,e⟩ | ⟨y,u,rfl,e⟩
    · exact nomatch e
    · injection e with e1 _
      subst e1
      cases v <;> rfl
theorem mixKind_int (prog:Program) (w:World) (i:Int) (t:Tok):(mixKind prog w).is (.inl i) (.int i t)=true:=keyIs_int i t
theorem mixKind_str (prog:Program) (w:World) (x:Str) (t:Tok):(mixKind prog w).is (.inr x) (.str x t)=true:=keyIs_str x t
end L2
namespace L2
open PySem PySem.Spec PyProof.Rows
inductive V where
  | non | bl (b:Bool) | int (i:Int) | str (x:Str) | byt (b:Array UInt8) | flt (b:UInt64) | ref (a:Addr) | ty (n:String)
  deriving DecidableEq
def RelV:V→Value→Prop
  | .non,u=>u=Value.none
  | .bl b,u=>u=Value.bool b
  | .int i,u=>∃ t,u=Value.int i t
  | .str x,u=>∃ t,u=Value.str x t
  | .byt b,u=>∃ t,u=Value.bytes b t
  | .flt b,u=>∃ t,u=Value.float b t
  | .ref a,u=>u=Value.ref a
  | .ty n,u=>u=Value.type n
abbrev Vals:List V→List Value→Prop:=Paired RelV
theorem Vals.length {xs:List V} {us:List Value} (r:Vals xs us):xs.length=us.length:=Paired.length r
theorem Vals.get:∀ {xs:List V} {us:List Value} {i:Nat} {x:V},Vals xs us→xs[i]?=some x→∃ u,us[i]?=some u∧RelV x u
  | _,_,_,_,.nil,e=>by simp at e
  | _,_,0,_,.cons r _,e=>by simp at e; subst e; exact ⟨_,rfl,r⟩
  | _,_,i + 1,x,.cons _ t,e=>by
    obtain ⟨u,h1,h2⟩:=Vals.get (i:=i) (x:=x) t (by simpa using e)
    exact ⟨u,by simpa using h1,h2⟩
theorem Vals.set {x:V} {u:Value} (r:RelV x u):∀ {xs:List V} {us:List Value} (i:Nat),Vals xs us→Vals (xs.set i x) (us.set i u)
  | _,_,_,.nil=>.nil
  | _,_,0,.cons _ t=>.cons r t
  | _,_,i + 1,.cons q t=>.cons q (Vals.set r i t)
theorem Vals.append:∀ {xs ys:List V} {us ws:List Value},Vals xs us→Vals ys ws→Vals (xs ++ ys) (us ++ ws)
  | _,_,_,_,.nil,s=>s
  | _,_,_,_,.cons r t,s=>.cons r (Vals.append t s)
theorem Vals.take:∀ {xs:List V} {us:List Value} (n:Nat),Vals xs us→Vals (xs.take n) (us.take n)
  | _,_,0,_=>.nil
  | _,_,_ + 1,.nil=>.nil
  | _,_,n + 1,.cons r t=>.cons r (Vals.take n t)
theorem Vals.drop:∀ {xs:List V} {us:List Value} (n:Nat),Vals xs us→Vals (xs.drop n) (us.drop n)
  | _,_,0,r=>r
  | _,_,_ + 1,.nil=>.nil
  | _,_,n + 1,.cons _ t=>Vals.drop n t
def RelO:Option V→Option Value→Prop
  | some v,some u=>RelV v u
  | none,none=>True
  | _,_=>False
def KV {κ:Type}:List (κ × V)→List (κ × Value)→Prop:=Paired fun (p:κ × V) (q:κ × Value)=>p.1=q.1∧RelV p.2 q.2
def kV:Key→V
  | .inl i=>.int i
  | .inr x=>.str x
inductive HO where
    | lst (xs:List V)
    | tup (xs:List V)
    | dK (kvs:List (Key × V)) | dT (kvs:List (List Key × V))
    | set (S:Int→Bool) (n:Nat)
    | ins (C dx:Addr) (fs:List (Str × V))
    | own (x:Addr)
    | xd (fs:List (Str × V))
    | met (f x:Addr)
    | rng (lo hi:Int)
    | frz (o:Obj) (u:HO)
    | tbl (ps:Array Value)
    | ext (φ:Heap→Prop)
abbrev Hp:=Addr→Option HO
def upd (H:Hp) (a:Addr) (o:HO):Hp:=fun b=>if b=a then some o else H b
theorem upd_same {H:Hp} {a:Addr} {o:HO}:upd H a o a=some o:=by unfold upd; rw [if_pos rfl]
theorem upd_ne {H:Hp} {a b:Addr} {o:HO} (h:b ≠ a):upd H a o b=H b:=by unfold upd; rw [if_neg h]
theorem upd_upd {H:Hp} {a:Addr} {o u:HO}:upd (upd H a o) a u=upd H a u:=by
  funext b; unfold upd; split <;> rfl
theorem ne_of {H:Hp} {a b:Addr} {o u:HO} (h:H a=some o) (h':H b=some u) (d:o ≠ u):a ≠ b:=by
  intro e; subst e; rw [h] at h'; exact d (Option.some.inj h')
theorem ne_of_none {H:Hp} {a b:Addr} {o:HO} (h:H a=some o) (h':H b=none):a ≠ b:=by
  intro e; subst e; rw [h] at h'; cases h'
section
variable (P:Program) (w:World)
def ObjOk (H:Hp) (h:Heap) (a:Addr):HO→Prop
  | .lst xs=>xs.length ≤ sizeLine∧∃ (its:List Value) (n:Nat),Vals xs its∧h.get? a=some { cls:=.type "list",data:=.seq its.toArray n }
  | .tup xs=>xs.length ≤ sizeLine∧∃ its:List Value,Vals xs its∧IsTup h a its.toArray
  | .dK kvs=>kvs.length ≤ sizeLine∧(a == sysModules)=false∧∃ vs,KV kvs vs∧h.DictOf (mixKind P w) a vs
  | .dT kvs=>kvs.length ≤ sizeLine∧(a == sysModules)=false∧∃ xs:List (List Key × Addr × Value),
      Paired (fun (p:List Key × V) (q:List Key × Addr × Value)=>p.1=q.1∧H q.2.1=some (.tup (p.1.map kV))∧RelV p.2 q.2.2) kvs xs ∧
      ∃ o es ep,h.get? a=some o∧o.ExactDict∧o.data=.dict es ep∧es.toList=xs.map (entryOfKey (tupleKind (mixKind P w)))∧(xs.map (·.1)).Nodup
  | .set S n=>h.SetOf (intKind P w) a S n
  | .ins C dx fs=>H dx=some (.own a)∧fs.length ≤ 1000∧dx ≠ a∧h.get? a=some (PySem.W.instObj C dx) ∧
      ∃ mA,h.Ns1 dx mA∧(∀ f,RelO (fs.lookup f) (mA f))∧PySem.Within mA (fs.map (·.1))
  | .own _=>∃ o,h.get? a=some o
  | .xd fs=>∃ mA,h.Ns1 a mA∧∀ f,RelO (fs.lookup f) (mA f)
  | .rng lo hi=>∃ t u v,h.get? a=some { cls:=.type "range",data:=.fields #[.int lo t,.int hi u,.int 1 v] }
  | .frz o u=>h.get? a=some o∧ObjOk H h a u
  | .tbl ps=>h.get? a=some { cls:=.none,data:=.fields ps }
  | .met f x=>h.get? a=some (PySem.W.methodObj (.ref f) (.ref x))
  | .ext φ=>φ h∧(∃ o,h.get? a=some o)∧∀ h1 h2:Heap,φ h1→(∀ o,h1.get? a=some o→h2.get? a=some o)→φ h2
def HOk (H:Hp) (h:Heap):Prop:=∀ a o,H a=some o→ObjOk P w H h a o
end
section
variable {P:Program} {w:World} {H H':Hp} {h h':Heap} {a:Addr} {o:HO}
theorem ObjOk.lt (x:ObjOk P w H h a o):a < h.objs.size:=by
  cases o with
  | lst xs=>obtain ⟨_,_,_,_,e⟩:=x; exact Heap.lt_size e
  | tup xs=>obtain ⟨_,_,_,p⟩:=x; exact p.lt
  | dK kvs=>obtain ⟨_,_,_,_,o,_,_,e,_⟩:=x; exact Heap.lt_size e
  | dT kvs=>obtain ⟨_,_,_,_,o,_,_,e,_⟩:=x; exact Heap.lt_size e
  | set S n=>obtain ⟨o,_,_,_,e,_⟩:=x; exact Heap.lt_size e
  | ins C dx fs=>obtain ⟨_,_,_,e,_⟩:=x; exact Heap.lt_size e
  | own y=>obtain ⟨_,e⟩:=x; exact Heap.lt_size e
  | xd fs=>obtain ⟨_,⟨_,_,_,e,_⟩,_⟩:=x; exact Heap.lt_size e
  | rng lo hi=>obtain ⟨_,_,_,e⟩:=x; exact Heap.lt_size e
  | frz ob u=>obtain ⟨e,_⟩:=x; exact Heap.lt_size e
  | tbl ps=>exact Heap.lt_size (show h.get? a=some _ from x)
  | met f y=>exact Heap.lt_size (show h.get? a=some _ from x)
  | ext φ=>obtain ⟨_,⟨_,e⟩,_⟩:=x; exact Heap.lt_size e
theorem Paired.mapP {α β:Type} {F G:α→β→Prop}:∀ {l₁:List α} {l₂:List β},Paired F l₁ l₂→(∀ a b,F a b→G a b)→Paired G l₁ l₂
  | _,_,.nil,_=>.nil
  | _,_,.cons r t,f=>.cons (f _ _ r) (Paired.mapP t f)
theorem ObjOk.stay (x:ObjOk P w H h a o) (k:∀ b u,(b=a ∨ H b=some (.own a))→h.get? b=some u→h'.get? b=some u)
    (ho:∀ b,H b=some (.own a)→H' b=some (.own a)) (ht:∀ b xs,H b=some (.tup xs)→H' b=some (.tup xs)):ObjOk P w H' h' a o:=by
  induction o with
  | lst xs=>obtain ⟨z,its,n,r,e⟩:=x; exact ⟨z,its,n,r,k _ _ (.inl rfl) e⟩
  | tup xs=>obtain ⟨z,its,r,ob,e,c⟩:=x; exact ⟨z,its,r,ob,k _ _ (.inl rfl) e,c⟩
  | dK kvs=>obtain ⟨z,y,vs,r,ob,es,ep,e,c⟩:=x; exact ⟨z,y,vs,r,ob,es,ep,k _ _ (.inl rfl) e,c⟩
  | dT kvs =>
    obtain ⟨z,y,xs,r,ob,es,ep,e,c⟩:=x
    exact ⟨z,y,xs,Paired.mapP r fun p q z=>⟨z.1,ht _ _ z.2.1,z.2.2⟩,ob,es,ep,k _ _ (.inl rfl) e,c⟩
  | set S n=>obtain ⟨ob,es,ep,t,e,c⟩:=x; exact ⟨ob,es,ep,t,k _ _ (.inl rfl) e,c⟩
  | ins C dx fs =>
    obtain ⟨d,z,ne,e,mA,⟨od,es,ep,e2,c⟩,r⟩:=x
    exact ⟨ho _ d,z,ne,k _ _ (.inl rfl) e,mA,⟨od,es,ep,k _ _ (.inr d) e2,c⟩,r⟩
  | own y=>obtain ⟨ob,e⟩:=x; exact ⟨ob,k _ _ (.inl rfl) e⟩
  | xd fs=>obtain ⟨mA,⟨od,es,ep,e,c⟩,r⟩:=x; exact ⟨mA,⟨od,es,ep,k _ _ (.inl rfl) e,c⟩,r⟩
  | rng lo hi=>obtain ⟨t,u,v,e⟩:=x; exact ⟨t,u,v,k _ _ (.inl rfl) e⟩
  | frz ob u ih=>obtain ⟨e,q⟩:=x; exact ⟨k _ _ (.inl rfl) e,ih q⟩
  | tbl ps =>
    have e:h.get? a=some { cls:=.none,data:=.fields ps }:=x
    show h'.get? a=some { cls:=.none,data:=.fields ps }
    exact k a _ (.inl rfl) e
  | met f y =>
    have e:h.get? a=some (PySem.W.methodObj (.ref f) (.ref y)):=x
    show h'.get? a=some (PySem.W.methodObj (.ref f) (.ref y))
    exact k a _ (.inl rfl) e
  | ext φ=>obtain ⟨p,⟨o,e⟩,st⟩:=x; exact ⟨st _ _ p fun o q=>k _ _ (.inl rfl) q,⟨o,k _ _ (.inl rfl) e⟩,st⟩
theorem HOk.lt (x:HOk P w H h) (e:H a=some o):a < h.objs.size:=(x a o e).lt
theorem HOk.fresh (x:HOk P w H h) (e:h.objs.size ≤ a):H a=none:=by
  cases q:H a with
  | none=>rfl
  | some u=>exact absurd (Nat.lt_of_lt_of_le (x.lt q) e) (Nat.lt_irrefl _)
theorem HOk.kept (x:HOk P w H h) (k:∀ b u,h.get? b=some u→h'.get? b=some u):HOk P w H h':=fun a o e =>
  (x a o e).stay (fun b u _ q=>k b u q) (fun _ q=>q) fun _ _ q=>q
theorem HOk.laid (x:HOk P w H h) (k:∀ b u,h.get? b=some u→h'.get? b=some u) (hp:h.objs.size ≤ a) (new:ObjOk P w (upd H a o) h' a o):HOk P w (upd H a o) h':=fun b u e=>by
  have hn:=x.fresh hp
  by_cases hb:b=a
  · subst hb; rw [upd_same] at e; cases e; exact new
  · rw [upd_ne hb] at e
    exact (x b u e).stay (fun c v _ q=>k c v q) (fun c q=>by rw [upd_ne (ne_of_none q hn)]; exact q) fun c xs q=>by rw [upd_ne (ne_of_none q hn)]; exact q
end
def Rd (H:Hp) (a:Addr) (u:HO):Prop:=H a=some u ∨ ∃ o,H a=some (.frz o u)
theorem Rd.ok {P:Program} {w:World} {H:Hp} {h:Heap} {a:Addr} {u:HO} (r:Rd H a u) (x:HOk P w H h):ObjOk P w H h a u:=by
  rcases r with r | ⟨o,r⟩
  · exact x a u r
  · obtain ⟨_,q⟩:=x a _ r
    exact q
def Mut:Option HO→Prop
  | some (.lst _)=>True
  | some (.dK _)=>True
  | some (.dT _)=>True
  | some (.set _ _)=>True
  | some (.ins _ _ _)=>True
  | some (.ext _)=>True
  | _=>False
section
variable {P:Program} {w:World} {H:Hp} {h h':Heap} {x e:Addr} {o':HO}
theorem HOk.write (ok:HOk P w H h) (mu:Mut (H x)) (he:e=x ∨ H e=some (.own x)) (k:∀ b u,b ≠ e→h.get? b=some u→h'.get? b=some u) (heo:∃ u,h'.get? e=some u)
    (new:ObjOk P w (upd H x o') h' x o'):HOk P w (upd H x o') h':=fun b u q=>by
  have nown:∀ c y,H c=some (.own y)→c ≠ x:=fun c y r z=>by subst z; rw [r] at mu; exact mu
  have ntup:∀ c xs,H c=some (.tup xs)→c ≠ x:=fun c xs r z=>by subst z; rw [r] at mu; exact mu
  by_cases hb:b=x
  · subst hb; rw [upd_same] at q; cases q; exact new
  · rw [upd_ne hb] at q
    by_cases hbe:b=e
    · have q':H b=some (.own x):=by
        rcases he with z | z
        · exact absurd (hbe.trans z) hb
        · rw [hbe]; exact z
      rw [q] at q'; cases q'
      obtain ⟨v,hv⟩:=heo
      exact ⟨v,by rw [hbe]; exact hv⟩
    · refine (ok b u q).stay (fun c v hc r=>k c v ?_ r) (fun c r=>by rw [upd_ne (nown c b r)]; exact r) fun c xs r=>by rw [upd_ne (ntup c xs r)]; exact r
      rcases hc with rfl | hc
      · exact hbe
      · rintro rfl
        rcases he with z | z
        · exact nown c b hc z
        · rw [hc] at z; cases z; exact hb rfl
end
structure Un (fs ex:List Addr) (H H':Hp) (h h':Heap):Prop where
  keep:∀ b o,h.get? b=some o→H b=none→b ∉ fs→b ∉ ex→h'.get? b=some o
  slot:∀ b o,h.get? b=some o→H b=none→b ∈ fs→b ∉ ex→∃ sl,h'.get? b=some { o with slots:=sl }
  free:∀ b o,h.get? b=some o→H b=none→b ∉ ex→H' b=none
  there:∀ b o,h.get? b=some o→b ∉ ex→∃ o',h'.get? b=some o'
  tups:∀ b xs,H b=some (.tup xs)→H' b=some (.tup xs)
  frzs:∀ b o u,H b=some (.frz o u)→H' b=some (.frz o u)
  tbls:∀ b ps,H b=some (.tbl ps)→∃ more,H' b=some (.tbl (ps ++ more))
section
variable {fs fs' ex ex':List Addr} {H H1 H2:Hp} {h h1 h2 h':Heap} {a x e:Addr} {o:HO}
theorem Un.any (u:Un fs ex H H1 h h1) {b:Addr} {ob:Obj} (q:h.get? b=some ob) (n:H b=none) (hx:b ∉ ex):∃ sl,h1.get? b=some { ob with slots:=sl }:=by
  by_cases hb:b ∈ fs
  · exact u.slot b ob q n hb hx
  · exact ⟨ob.slots,u.keep b ob q n hb hx⟩
theorem Un.kept (k:∀ b u,h.get? b=some u→h'.get? b=some u):Un fs ex H H h h' :=
  ⟨fun b ob q _ _ _=>k b ob q,fun b ob q _ _ _=>⟨ob.slots,k b ob q⟩,fun _ _ _ n _=>n,fun b ob q _=>⟨ob,k b ob q⟩,fun _ _ q=>q,fun _ _ _ q=>q,fun _ ps q=>⟨#[],by rw [q]; simp⟩⟩
theorem Un.refl:Un fs ex H H h h:=Un.kept fun _ _ q=>q
theorem Un.laid (k:∀ b u,h.get? b=some u→h'.get? b=some u) (hp:h.objs.size ≤ a) (hn:H a=none):Un fs ex H (upd H a o) h h' where
  keep:=fun b u q _ _ _=>k b u q
  slot:=fun b u q _ _ _=>⟨u.slots,k b u q⟩
  free:=fun b u q n _=>by rw [upd_ne (Nat.ne_of_lt (Nat.lt_of_lt_of_le (Heap.lt_size q) hp))]; exact n
  there:=fun b u q _=>⟨u,k b u q⟩
  tups:=fun b xs q=>by rw [upd_ne (ne_of_none q hn)]; exact q
  frzs:=fun b u xs q=>by rw [upd_ne (ne_of_none q hn)]; exact q
  tbls:=fun b ps q=>⟨#[],by rw [upd_ne (ne_of_none q hn),q]; simp⟩
theorem Un.write (mu:Mut (H x)) (he:e=x ∨ H e=some (.own x)) (k:∀ b u,b ≠ e→h.get? b=some u→h'.get? b=some u) (heo:∃ u,h'.get? e=some u):Un fs ex H (upd H x o) h h':=by
  have hx:∀ b,H b=none→b ≠ x:=fun b n z=>by subst z; rw [n] at mu; exact mu
  have hb:∀ b,H b=none→b ≠ e:=fun b n z=>by
    subst z
    rcases he with r | r
    · exact hx b n r
    · rw [n] at r; cases r
  have hm:∀ b u,H b=some u→¬ Mut (some u)→b ≠ x:=fun b u q nm z=>by subst z; rw [q] at mu; exact nm mu
  refine ⟨fun b u q n _ _=>k b u (hb b n) q,fun b u q n _ _=>⟨u.slots,k b u (hb b n) q⟩,fun b u q n _=>by rw [upd_ne (hx b n)]; exact n,fun b u q _=>?_,
    fun b xs q=>by rw [upd_ne (hm b _ q fun z=>z)]; exact q,fun b u xs q=>by rw [upd_ne (hm b _ q fun z=>z)]; exact q,fun b ps q=>⟨#[],by rw [upd_ne (hm b _ q fun z=>z),q]; simp⟩⟩
  by_cases hbe:b=e
  · subst hbe; exact heo
  · exact ⟨u,k b u hbe q⟩
end
def trk (h:Heap) (H:Hp):List Addr:=(List.range h.objs.size).filter fun a=>(H a).isSome
def hidT (h:Heap) (H:Hp):Heap:=PySem.W.hideAll h (trk h H)
theorem hidT_size (h:Heap) (H:Hp):(hidT h H).objs.size=h.objs.size:=PySem.W.hideAll_size _ _
theorem hidT_get {h:Heap} {H:Hp} {b:Addr} {o:Obj} (e:h.get? b=some o) (n:H b=none):(hidT h H).get? b=some o :=
  PySem.W.hideAll_get _ e fun hm=>by
    have q:(H b).isSome=true:=(List.mem_filter.mp hm).2
    rw [n] at q; simp at q
theorem of_hidT {h:Heap} {H:Hp} {b:Addr} {o:Obj} (e:(hidT h H).get? b=some o):h.get? b=some o∧H b=none:=by
  have e':h.get? b=some o:=PySem.W.of_hideAll (trk h H) e
  refine ⟨e',?_⟩
  cases q:H b with
  | none=>rfl
  | some x =>
    have hm:b ∈ trk h H:=List.mem_filter.mpr ⟨List.mem_range.mpr (Heap.lt_size e'),by simp [q]⟩
    have z:(hidT h H).get? b=none:=PySem.W.hideAll_none (trk h H) hm
    rw [z] at e; cases e
end L2
namespace L2
open PySem PySem.Spec PyProof.Rows
structure Mod (K:PySem.W.Frag) (mg:Str→Option Value) (base:Heap):Prop where
  kin:K.In base
  glob:base.Ns mainGlobals mg
  blt:∃ mb,base.Ns builtinsNs mb∧∀ x:Str,x ≠ "__name__"→mb x=bootBuiltins x
  nolimit:base.NoLimit
structure Cx where
  prog:Program
  w:World
  K:PySem.W.Frag
  mg:Str→Option Value
  base:Heap
  A:Around
  N:List Str
  s₀:Shared
  H₀:Hp
  env:Env
  outer:List Env
  stack:List Env
  ex:List Addr
  fn:Str→Bool
  calm:Bool
  pn:List (Addr × Obj)
  xe:Value→Shared→Prop
def frs (l:List Env):List Addr:=l.filterMap (·.frame)
abbrev Cx.fs (X:Cx):List Addr:=frs X.outer
def Vis (sc:Scope) (x:Str):Prop:=sc.names.lookup x=some .local ∨ sc.names.lookup x=some .cell ∨ sc.names.lookup x=some .free
def Loc (sc:Scope) (x:Str):Prop:=sc.names.lookup x=some .local ∨ sc.names.lookup x=some .cell
def Look (env:Env) (h:Heap) (m:Str→Option Value) (x:Str) (u:Value):Prop :=
  (env.kindOf x=some .local∧m x=some u) ∨ ((env.kindOf x=some .cell ∨ env.kindOf x=some .free)∧∃ c,env.cells.lookup x=some c∧h.IsCell c (some u))
structure Cx.Ok (X:Cx):Prop where
  mod:Mod X.K X.mg X.base
  kind:X.env.scope.kind=.function
  glob:X.env.globals=mainGlobals
  blt:X.env.builtins=builtinsNs
  above:X.s₀.heap.objs.size ≤ X.env.locals
  inj:∀ x y c,X.env.cells.lookup x=some c→X.env.cells.lookup y=some c→x=y
  has:∀ x,(X.env.kindOf x=some .cell ∨ X.env.kindOf x=some .free)→∃ c,X.env.cells.lookup x=some c
  cab:∀ x c,X.fn x=true→X.env.cells.lookup x=some c→X.s₀.heap.objs.size ≤ c
  hd:X.calm=true→X.A.handled=none
  frames:X.A.frames=some X.stack
  stk:X.stack=X.outer ∨ (X.stack=X.env :: X.outer∧X.env.frame=some X.env.locals)
  exf:∀ b ∈ X.ex,b ≠ X.env.locals∧∀ x c,X.env.cells.lookup x=some c→c ≠ b
  bs:∀ b o,X.base.get? b=some o→X.s₀.heap.get? b=some o∧X.H₀ b=none
  bsz:X.base.objs.size ≤ X.s₀.heap.objs.size
  noex:∀ b o,X.base.get? b=some o→b ∉ X.ex
  exfs:∀ b ∈ X.ex,b ∉ X.fs
  funs:X.s₀.heap.FunFrames X.base X.outer
  frf:∀ b ∈ X.fs,X.H₀ b=none
structure Inv (X:Cx) (pins:List (Addr × Obj)) (σ:List (Option V)) (H:Hp) (s:Shared):Prop where
  ok:X.Ok
  os:s.os=X.s₀.os
  bare:AllBare s.gens
  base:Un X.fs X.ex X.H₀ H X.s₀.heap s.heap
  loc:∃ m,s.heap.Ns X.env.locals m∧∀ (i:Nat) (x:Str) (v:V),X.N[i]?=some x→σ[i]?=some (some v)→Vis X.env.scope x→∃ u,RelV v u∧Look X.env s.heap m x u
  cell:∀ x c,X.env.cells.lookup x=some c→∃ v,s.heap.IsCell c v
  free:H X.env.locals=none
  freeC:∀ x c,X.env.cells.lookup x=some c→H c=none
  pin:∀ p ∈ X.pn ++ pins,s.heap.get? p.1=some p.2∧H p.1=none∧p.1 ≠ X.env.locals∧p.1 ∉ X.fs∧∀ v,p.2.data ≠ .cell v
  hok:HOk X.prog X.w H s.heap
  len:σ.length=X.N.length
section
variable {X:Cx} {pins:List (Addr × Obj)} {σ:List (Option V)} {H H':Hp} {s:Shared} {h':Heap}
theorem Cx.Ok.nofr (ok:X.Ok) {b:Addr} {o:Obj} (e:X.base.get? b=some o):b ∉ X.fs:=fun hb=>by
  have:=(ok.funs.mem hb).1
  rw [e] at this; cases this
theorem Inv.bs (I:Inv X pins σ H s):∀ b o,X.base.get? b=some o→s.heap.get? b=some o∧H b=none:=fun b o e =>
  ⟨I.base.keep b o (I.ok.bs b o e).1 (I.ok.bs b o e).2 (I.ok.nofr e) (I.ok.noex b o e),I.base.free b o (I.ok.bs b o e).1 (I.ok.bs b o e).2 (I.ok.noex b o e)⟩
theorem Inv.bk (I:Inv X pins σ H s):∀ b o,X.base.get? b=some o→s.heap.get? b=some o:=fun b o e=>(I.bs b o e).1
theorem Inv.mod (I:Inv X pins σ H s):Mod X.K X.mg X.base:=I.ok.mod
theorem Inv.kIn (I:Inv X pins σ H s):X.K.In s.heap:=I.ok.mod.kin.keeps I.bk
theorem Inv.lt (I:Inv X pins σ H s):X.env.locals < s.heap.objs.size:=let ⟨_,hn,_⟩:=I.loc; hn.lt
theorem Inv.sz (I:Inv X pins σ H s):X.s₀.heap.objs.size ≤ s.heap.objs.size:=Nat.le_trans I.ok.above (Nat.le_of_lt I.lt)
theorem Inv.nofs (I:Inv X pins σ H s) {a:Addr} (h:s.heap.objs.size ≤ a):a ∉ X.fs:=fun hb=>by
  obtain ⟨_,o,ho,_⟩:=I.ok.funs.mem hb
  exact absurd (Nat.lt_of_lt_of_le (Heap.lt_size ho) (Nat.le_trans I.sz h)) (Nat.lt_irrefl _)
theorem Inv.cne (I:Inv X pins σ H s):∀ x c,X.env.cells.lookup x=some c→c ≠ X.env.locals:=fun x c e z=>by
  obtain ⟨v,o,ho,hd⟩:=I.cell x c e
  obtain ⟨m,⟨o',es,ep,ho',hd',_⟩,_⟩:=I.loc
  rw [z,ho'] at ho; cases ho; rw [hd'] at hd; cases hd
theorem Inv.funs (I:Inv X pins σ H s):s.heap.FunFrames X.base X.outer:=by
  have all:∀ (l:List Env),(∀ b ∈ frs l,b ∈ X.fs)→X.s₀.heap.FunFrames X.base l→s.heap.FunFrames X.base l:=by
    intro l
    induction l with
    | nil=>intro _ _; trivial
    | cons env r ih =>
      intro hs hl
      obtain ⟨hk,⟨L,o,hf,hn,ho,hd⟩,hr⟩:=hl
      have hL:L ∈ X.fs:=hs L (by unfold frs; rw [List.filterMap_cons,hf]; exact List.mem_cons_self)
      obtain ⟨sl,e⟩:=I.base.slot L o ho (I.ok.frf L hL) hL fun z=>I.ok.exfs L z hL
      exact ⟨hk,⟨L,_,hf,hn,e,hd⟩,ih (fun b hb=>hs b (by unfold frs; rw [List.filterMap_cons,hf]; exact List.mem_cons_of_mem _ hb)) hr⟩
  exact all X.outer (fun _ hb=>hb) I.ok.funs
theorem Inv.stack (I:Inv X pins σ H s):s.heap.FunFrames X.base X.stack:=by
  rcases I.ok.stk with e | ⟨e,hf⟩
  · rw [e]; exact I.funs
  · rw [e]
    obtain ⟨m,hn,_⟩:=I.loc
    refine .cons (by rw [I.ok.kind]; decide) hf hn ?_ I.funs
    exact Heap.get?_none_of_le (Nat.le_trans I.ok.bsz I.ok.above)
theorem Inv.stkSub (I:Inv X pins σ H s):∀ b ∈ frs X.stack,b ∈ X.env.locals :: X.fs:=fun b hb=>by
  rcases I.ok.stk with e | ⟨e,hf⟩
  · rw [e] at hb; exact List.mem_cons_of_mem _ hb
  · rw [e] at hb
    unfold frs at hb
    rw [List.filterMap_cons,hf] at hb
    exact hb
theorem Inv.stkFree (I:Inv X pins σ H s):∀ b ∈ frs X.stack,H b=none:=fun b hb=>by
  rcases List.mem_cons.mp (I.stkSub b hb) with e | hb
  · rw [e]; exact I.free
  · obtain ⟨_,o,ho,_⟩:=I.ok.funs.mem hb
    exact I.base.free b o ho (I.ok.frf b hb) fun z=>I.ok.exfs b z hb
theorem Inv.step {g':Array GenState} {t':Nat} {d':Drawn} {ch:List Addr} (I:Inv X pins σ H s)
    (hch:∀ b ∈ ch,(b ∈ X.ex ∨ X.s₀.heap.objs.size ≤ b)∧b ≠ X.env.locals∧(∀ x c,X.env.cells.lookup x=some c→c ≠ b)∧∀ p ∈ X.pn ++ pins,p.1 ≠ b)
    (keep:∀ b o,b ≠ X.env.locals→b ∉ X.fs→b ∉ ch→s.heap.get? b=some o→H b=none→h'.get? b=some o)
    (slot:∀ b o,b ≠ X.env.locals→b ∈ X.fs→b ∉ ch→s.heap.get? b=some o→H b=none→∃ sl,h'.get? b=some { o with slots:=sl }) (free:∀ b o,b ∉ ch→s.heap.get? b=some o→H b=none→H' b=none)
    (there:∀ b o,b ∉ ch→s.heap.get? b=some o→∃ o',h'.get? b=some o')
    (tups:∀ b xs,H b=some (.tup xs)→H' b=some (.tup xs)) (frzs:∀ b o u,H b=some (.frz o u)→H' b=some (.frz o u)) (tbls:∀ b ps,H b=some (.tbl ps)→∃ more,H' b=some (.tbl (ps ++ more)))
    (ns:∀ m,s.heap.Ns X.env.locals m→h'.Ns X.env.locals m) (hok:HOk X.prog X.w H' h') (hg:AllBare g') :
    Inv X pins σ H' { s with heap:=h',gens:=g',drawn:=d',toks:=t' }:=by
  have neL:∀ b o,X.s₀.heap.get? b=some o→b ≠ X.env.locals:=fun b o e=>Nat.ne_of_lt (Nat.lt_of_lt_of_le (Heap.lt_size e) I.ok.above)
  have neC:∀ b o,X.s₀.heap.get? b=some o→b ∉ X.ex→b ∉ ch:=fun b o e hx hb=>by
    rcases (hch b hb).1 with z | z
    · exact hx z
    · exact absurd (Nat.lt_of_lt_of_le (Heap.lt_size e) z) (Nat.lt_irrefl _)
  have cellK:∀ x c,X.env.cells.lookup x=some c→∀ v,s.heap.IsCell c v→h'.IsCell c v:=fun x c e v ⟨o,ho,hd⟩=>by
    have nch:c ∉ ch:=fun z=>(hch c z).2.2.1 x c e rfl
    by_cases hc:c ∈ X.fs
    · obtain ⟨sl,q⟩:=slot c o (I.cne x c e) hc nch ho (I.freeC x c e)
      exact ⟨_,q,hd⟩
    · exact ⟨o,keep c o (I.cne x c e) hc nch ho (I.freeC x c e),hd⟩
  refine ⟨I.ok,I.os,hg,⟨fun b o e n hb hx=>?_,fun b o e n hb hx=>?_,fun b o e n hx=>?_,fun b o e hx=>?_,fun b xs e=>tups b xs (I.base.tups b xs e),fun b o xs e=>frzs b o xs (I.base.frzs b o xs e),fun b ps e=>?_⟩,?_,fun x c e=>?_,?_,fun x c e=>?_,fun p hp=>?_,hok,I.len⟩
  · exact keep b o (neL b o e) hb (neC b o e hx) (I.base.keep b o e n hb hx) (I.base.free b o e n hx)
  · obtain ⟨sl,e1⟩:=I.base.slot b o e n hb hx
    obtain ⟨sl',e2⟩:=slot b _ (neL b o e) hb (neC b o e hx) e1 (I.base.free b o e n hx)
    exact ⟨sl',e2⟩
  · obtain ⟨o',e1⟩:=I.base.there b o e hx
    exact free b o' (neC b o e hx) e1 (I.base.free b o e n hx)
  · obtain ⟨o',e1⟩:=I.base.there b o e hx
    exact there b o' (neC b o e hx) e1
  · obtain ⟨m1,e1⟩:=I.base.tbls b ps e
    obtain ⟨m2,e2⟩:=tbls b _ e1
    exact ⟨m1 ++ m2,by rw [e2,Array.append_assoc]⟩
  · obtain ⟨m,hn,hl⟩:=I.loc
    refine ⟨m,ns m hn,fun i x v e1 e2 e3=>?_⟩
    obtain ⟨u,r,l⟩:=hl i x v e1 e2 e3
    refine ⟨u,r,?_⟩
    rcases l with l | ⟨k,c,e,z⟩
    · exact .inl l
    · exact .inr ⟨k,c,e,cellK x c e _ z⟩
  · obtain ⟨v,z⟩:=I.cell x c e
    exact ⟨v,cellK x c e v z⟩
  · obtain ⟨m,⟨o,_,_,ho,_⟩,_⟩:=I.loc
    exact free _ o (fun z=>(hch _ z).2.1 rfl) ho I.free
  · obtain ⟨v,o,ho,hd⟩:=I.cell x c e
    exact free c o (fun z=>(hch c z).2.2.1 x c e rfl) ho (I.freeC x c e)
  · obtain ⟨e,n,ne,nf,d⟩:=I.pin p hp
    have nch:p.1 ∉ ch:=fun z=>(hch p.1 z).2.2.2 p hp rfl
    exact ⟨keep p.1 p.2 ne nf nch e n,free p.1 p.2 nch e n,ne,nf,d⟩
theorem Inv.un {t':Nat} (I:Inv X pins σ H s) (u:Un X.fs [] H H' s.heap h') (hok:HOk X.prog X.w H' h'):Inv X pins σ H' { s with heap:=h',toks:=t' }:=by
  obtain ⟨m,⟨o,es,ep,ho,r⟩,_⟩:=id I.loc
  obtain ⟨sl,hL⟩:=u.any ho I.free (by simp)
  exact I.step (g':=s.gens) (d':=s.drawn) (ch:=[]) (fun _ z=>nomatch z) (fun b o _ hb _ e n=>u.keep b o e n hb (by simp)) (fun b o _ hb _ e n=>u.slot b o e n hb (by simp)) (fun b o _ e n=>u.free b o e n (by simp)) (fun b o _ e=>u.there b o e (by simp)) u.tups u.frzs u.tbls (fun m' hm=>by
    obtain ⟨o',es',ep',ho',r'⟩:=hm
    rw [ho] at ho'; cases ho'
    exact ⟨_,es',ep',hL,r'⟩) hok I.bare
theorem Inv.call {g':Array GenState} {t':Nat} {d':Drawn} {ch:List Addr} (I:Inv X pins σ H s) (u:Un (frs X.stack) ch H H' s.heap h') (hok:HOk X.prog X.w H' h') (hg:AllBare g')
    (hch:∀ b ∈ ch,(b ∈ X.ex ∨ X.s₀.heap.objs.size ≤ b)∧b ≠ X.env.locals∧(∀ x c,X.env.cells.lookup x=some c→c ≠ b)∧∀ p ∈ X.pn ++ pins,p.1 ≠ b) :
    Inv X pins σ H' { s with heap:=h',gens:=g',drawn:=d',toks:=t' }:=by
  obtain ⟨m,⟨o,es,ep,ho,r⟩,_⟩:=id I.loc
  obtain ⟨sl,hL⟩:=u.any ho I.free fun z=>(hch _ z).2.1 rfl
  exact I.step (ch:=ch) hch (fun b o hL hb hc e n=>u.keep b o e n (fun z=>(List.mem_cons.mp (I.stkSub b z)).elim hL hb) hc) (fun b o _ _ hc e n=>u.any e n hc) (fun b o hc e n=>u.free b o e n hc) (fun b o hc e=>u.there b o e hc) u.tups u.frzs u.tbls (fun m' hm=>by
    obtain ⟨o',es',ep',ho',r'⟩:=hm
    rw [ho] at ho'; cases ho'
    exact ⟨_,es',ep',hL,r'⟩) hok hg
theorem Inv.turned {t':Nat} {it:Addr} (I:Inv X pins σ H s) (k:∀ b o,b ≠ it→s.heap.get? b=some o→h'.get? b=some o) (hn:H it=none) (hL:it ≠ X.env.locals)
    (h1:it ∈ X.ex ∨ X.s₀.heap.objs.size ≤ it) (h2:∀ x c,X.env.cells.lookup x=some c→c ≠ it) (h3:∀ p ∈ X.pn ++ pins,p.1 ≠ it):Inv X pins σ H { s with heap:=h',toks:=t' }:=by
  have nit:∀ b u,H b=some u→b ≠ it:=fun b u e z=>by rw [z,hn] at e; cases e
  refine I.step (g':=s.gens) (d':=s.drawn) (ch:=[it]) (fun b hb=>?_) (fun b o _ _ hc e _=>k b o (fun z=>hc (by simp [z])) e) (fun b o _ _ hc e _=>⟨o.slots,k b o (fun z=>hc (by simp [z])) e⟩) (fun _ _ _ _ n=>n)
    (fun b o hc e=>⟨o,k b o (fun z=>hc (by simp [z])) e⟩) (fun _ _ e=>e) (fun _ _ _ e=>e) (fun b ps e=>⟨#[],by rw [e]; simp⟩) (fun m hm=>?_) (fun b u e=>?_) I.bare
  · have e:b=it:=by simpa using hb
    subst e
    exact ⟨h1,hL,h2,h3⟩
  · obtain ⟨o,es,ep,ho,r⟩:=hm
    exact ⟨o,es,ep,k _ o (Ne.symm hL) ho,r⟩
  · refine (I.hok b u e).stay (fun c v hc q=>k c v ?_ q) (fun _ q=>q) fun _ _ q=>q
    rcases hc with z | z
    · rw [z]; exact nit b u e
    · exact nit c _ z
theorem Inv.tok (I:Inv X pins σ H s) (t:Nat):Inv X pins σ H { s with toks:=t }:=I.un (h':=s.heap) (t':=t) Un.refl I.hok
theorem Inv.kept {t':Nat} (I:Inv X pins σ H s) (k:∀ b u,s.heap.get? b=some u→h'.get? b=some u):Inv X pins σ H { s with heap:=h',toks:=t' }:=I.un (Un.kept k) (I.hok.kept k)
theorem Inv.laid {a:Addr} {o:HO} {t':Nat} (I:Inv X pins σ H s) (k:∀ b u,s.heap.get? b=some u→h'.get? b=some u) (hp:s.heap.objs.size ≤ a) (new:ObjOk X.prog X.w (upd H a o) h' a o) :
    Inv X pins σ (upd H a o) { s with heap:=h',toks:=t' }:=I.un (Un.laid k hp (I.hok.fresh hp)) (I.hok.laid k hp new)
theorem Inv.write {x e:Addr} {o:HO} {t':Nat} (I:Inv X pins σ H s) (mu:Mut (H x)) (he:e=x ∨ H e=some (.own x)) (k:∀ b u,b ≠ e→s.heap.get? b=some u→h'.get? b=some u) (heo:∃ u,h'.get? e=some u)
    (new:ObjOk X.prog X.w (upd H x o) h' x o):Inv X pins σ (upd H x o) { s with heap:=h',toks:=t' }:=I.un (Un.write mu he k heo) (I.hok.write mu he k heo new)
theorem Inv.pins_of {pins':List (Addr × Obj)} (I:Inv X pins σ H s) (h:∀ p ∈ pins',s.heap.get? p.1=some p.2∧H p.1=none∧p.1 ≠ X.env.locals∧p.1 ∉ X.fs∧∀ v,p.2.data ≠ .cell v):Inv X pins' σ H s :=
  ⟨I.ok,I.os,I.bare,I.base,I.loc,I.cell,I.free,I.freeC,fun p hp=>(List.mem_append.mp hp).elim (fun z=>I.pin p (List.mem_append_left _ z)) (h p),I.hok,I.len⟩
theorem nodup_ix {N:List Str} (hN:N.Nodup) {i j:Nat} {x:Str} (a:N[i]?=some x) (b:N[j]?=some x):i=j:=by
  obtain ⟨h1,e1⟩:=List.getElem?_eq_some_iff.mp a
  obtain ⟨h2,e2⟩:=List.getElem?_eq_some_iff.mp b
  exact (List.getElem_inj hN).mp (e1.trans e2.symm)
theorem store_ok2 {M:Model} {A:Around} {E:Value→Shared→Prop} {i:Nat} {x:Str} {v:V} {u:Value} {Q:Unit→Shared→Prop} (I:Inv X pins σ H s) (hN:X.N.Nodup) (hi:X.N[i]?=some x) (hx:Loc X.env.scope x) (r:RelV v u)
    (h:∀ s',Inv X pins (σ.set i (some v)) H s'→(∃ a,Heap.SameBut a s.heap s'.heap∧(a=X.env.locals ∨ X.env.cells.lookup x=some a))→Q () s') (hf:X.fn x=true ∨ X.env.scope.names.lookup x=some .local:=by first | exact .inl rfl | exact .inr rfl | assumption):wpAny M A (storeName X.env x u) Q E s:=by
  obtain ⟨m,hn,hl⟩:=id I.loc
  have hcls:(X.env.scope.kind == .class || (X.env.scope.kind == .module && X.env.locals != X.env.globals))=false:=by rw [I.ok.kind]; rfl
  have hiσ:i < σ.length:=by rw [I.len]; exact (List.getElem?_eq_some_iff.mp hi).1
  have cne:=I.cne
  have tracked:∀ {a:Addr} {h':Heap},(∃ o,s.heap.get? a=some o∧H a=none)→Heap.SameBut a s.heap h'→HOk X.prog X.w H h':=fun {a h'} ha hs b ob e=>by
    obtain ⟨_,_,hfree⟩:=ha
    refine (I.hok b ob e).stay (fun c w' hc q=>(hs.2 c ?_).trans q) (fun _ q=>q) fun _ _ q=>q
    rintro rfl
    rcases hc with rfl | hc
    · rw [hfree] at e; cases e
    · rw [hfree] at hc; cases hc
  rcases hx with hk | hk
  · refine wpAny_storeName_local hk hn (fun h' hn' hs=>?_) hcls
    obtain ⟨oL,_,_,hoL,_⟩:=id hn
    refine h _ ⟨I.ok,I.os,I.bare,⟨fun b o e n hb hx=>?_,fun b o e n hb hx=>?_,I.base.free,fun b o e hx=>?_,I.base.tups,I.base.frzs,I.base.tbls⟩,⟨_,hn',fun j y v' e1 e2 e3=>?_⟩,fun y c e=>?_,I.free,I.freeC,fun p hp=>?_,tracked ⟨oL,hoL,I.free⟩ hs,by simpa using I.len⟩ ⟨_,hs,.inl rfl⟩
    · exact (hs.2 b (Nat.ne_of_lt (Nat.lt_of_lt_of_le (Heap.lt_size e) I.ok.above))).trans (I.base.keep b o e n hb hx)
    · obtain ⟨sl,e1⟩:=I.base.slot b o e n hb hx
      exact ⟨sl,(hs.2 b (Nat.ne_of_lt (Nat.lt_of_lt_of_le (Heap.lt_size e) I.ok.above))).trans e1⟩
    · obtain ⟨o',e1⟩:=I.base.there b o e hx
      exact ⟨o',(hs.2 b (Nat.ne_of_lt (Nat.lt_of_lt_of_le (Heap.lt_size e) I.ok.above))).trans e1⟩
    · by_cases hj:j=i
      · subst hj
        rw [hi] at e1; cases e1
        rw [List.getElem?_set_self hiσ] at e2
        cases e2
        exact ⟨u,r,.inl ⟨hk,by simp⟩⟩
      · rw [List.getElem?_set_ne (Ne.symm hj)] at e2
        obtain ⟨u',r',q⟩:=hl j y v' e1 e2 e3
        refine ⟨u',r',?_⟩
        rcases q with ⟨k,e⟩ | ⟨k,c,e,z⟩
        · refine .inl ⟨k,?_⟩
          have:y ≠ x:=fun e=>hj (nodup_ix hN e1 (e ▸ hi))
          simp [this,e]
        · exact .inr ⟨k,c,e,z.sameBut hs (cne y c e)⟩
    · obtain ⟨w',z⟩:=I.cell y c e
      exact ⟨w',z.sameBut hs (cne y c e)⟩
    · obtain ⟨e,n,ne,nf,d⟩:=I.pin p hp
      exact ⟨(hs.2 p.1 ne).trans e,n,ne,nf,d⟩
  · have hfn:X.fn x=true:=by
      rcases hf with z | z
      · exact z
      · rw [z] at hk; cases hk
    obtain ⟨c,hc⟩:=I.ok.has x (.inl hk)
    obtain ⟨w',z⟩:=I.cell x c hc
    refine wpAny_storeName_cell I.ok.kind hk hc z (fun h' hc' hs=>?_)
    obtain ⟨oc,hoc,hocd⟩:=id z
    refine h { s with heap:=h' } ⟨I.ok,I.os,I.bare,⟨fun b o e n hb hx=>?_,fun b o e n hb hx=>?_,I.base.free,fun b o e hx=>?_,I.base.tups,I.base.frzs,I.base.tbls⟩,⟨m,hn.sameBut hs (Ne.symm (cne x c hc)),fun j y v' e1 e2 e3=>?_⟩,fun y c' e=>?_,I.free,I.freeC,fun p hp=>?_,tracked ⟨oc,hoc,I.freeC x c hc⟩ hs,by simpa using I.len⟩ ⟨c,hs,.inr hc⟩
    · exact (hs.2 b (Nat.ne_of_lt (Nat.lt_of_lt_of_le (Heap.lt_size e) (I.ok.cab x c hfn hc)))).trans (I.base.keep b o e n hb hx)
    · obtain ⟨sl,e1⟩:=I.base.slot b o e n hb hx
      exact ⟨sl,(hs.2 b (Nat.ne_of_lt (Nat.lt_of_lt_of_le (Heap.lt_size e) (I.ok.cab x c hfn hc)))).trans e1⟩
    · obtain ⟨o',e1⟩:=I.base.there b o e hx
      exact ⟨o',(hs.2 b (Nat.ne_of_lt (Nat.lt_of_lt_of_le (Heap.lt_size e) (I.ok.cab x c hfn hc)))).trans e1⟩
    · by_cases hj:j=i
      · subst hj
        rw [hi] at e1; cases e1
        rw [List.getElem?_set_self hiσ] at e2
        cases e2
        exact ⟨u,r,.inr ⟨.inl hk,c,hc,hc'⟩⟩
      · rw [List.getElem?_set_ne (Ne.symm hj)] at e2
        obtain ⟨u',r',q⟩:=hl j y v' e1 e2 e3
        refine ⟨u',r',?_⟩
        rcases q with q | ⟨k,c',e,z'⟩
        · exact .inl q
        · refine .inr ⟨k,c',e,z'.sameBut hs ?_⟩
          rintro rfl
          exact hj (nodup_ix hN e1 (I.ok.inj _ _ _ e hc ▸ hi))
    · by_cases hcc:c'=c
      · subst hcc; exact ⟨_,hc'⟩
      · obtain ⟨w2,z2⟩:=I.cell y c' e
        exact ⟨w2,z2.sameBut hs hcc⟩
    · obtain ⟨e,n,ne,nf,d⟩:=I.pin p hp
      refine ⟨(hs.2 p.1 ?_).trans e,n,ne,nf,d⟩
      intro q
      rw [q,hoc] at e
      have q':oc=p.2:=Option.some.inj e
      exact d w' (by rw [← q']; exact hocd)
theorem store_ok {M:Model} {A:Around} {E:Value→Shared→Prop} {i:Nat} {x:Str} {v:V} {u:Value} {Q:Unit→Shared→Prop} (I:Inv X pins σ H s) (hN:X.N.Nodup) (hi:X.N[i]?=some x) (hx:Loc X.env.scope x) (r:RelV v u)
    (h:∀ s',Inv X pins (σ.set i (some v)) H s'→Q () s') (hf:X.fn x=true ∨ X.env.scope.names.lookup x=some .local:=by first | exact .inl rfl | exact .inr rfl | assumption):wpAny M A (storeName X.env x u) Q E s :=
  store_ok2 I hN hi hx r (fun s' I' _=>h s' I') hf
theorem Inv.call' {s':Shared} {ch:List Addr} (I:Inv X pins σ H s) (ho:s'.os=s.os) (u:Un (frs X.stack) ch H H' s.heap s'.heap) (hok:HOk X.prog X.w H' s'.heap) (hg:AllBare s'.gens)
    (hch:∀ b ∈ ch,(b ∈ X.ex ∨ X.s₀.heap.objs.size ≤ b)∧b ≠ X.env.locals∧(∀ x c,X.env.cells.lookup x=some c→c ≠ b)∧∀ p ∈ X.pn ++ pins,p.1 ≠ b):Inv X pins σ H' s':=by
  obtain ⟨h',g',d',t',o'⟩:=s'
  have e:o'=s.os:=ho
  subst e
  exact I.call (g':=g') (t':=t') (d':=d') u hok hg hch
end
abbrev XK:=Value→Option Addr→Hp→Prop
abbrev St:=List (Option V)
abbrev VK:=V→Hp→Prop
abbrev TE:=St→Hp→VK→Prop
abbrev TT:=St→Hp→(Bool→Hp→Prop)→Prop
abbrev TA:=St→Hp→(List V→Hp→Prop)→Prop
structure Ends where
  nx:St→Hp→Prop
  rt:VK
  bk:St→Hp→Prop:=fun _ _=>False
  ct:St→Hp→Prop:=fun _ _=>False
abbrev TS:=Ends→St→Hp→Prop
def EP (X:Cx) (pins:List (Addr × Obj)) (σ:St) (Q:VK) (u:Value) (s':Shared):Prop:=∃ v H',Inv X pins σ H' s'∧RelV v u∧Q v H'
def TP (X:Cx) (pins:List (Addr × Obj)) (σ:St) (Q:Bool→Hp→Prop) (b:Bool) (s':Shared):Prop:=∃ H',Inv X pins σ H' s'∧Q b H'
def AP (X:Cx) (pins:List (Addr × Obj)) (σ:St) (Q:List V→Hp→Prop) (us:List Value) (s':Shared):Prop:=∃ vs H',Inv X pins σ H' s'∧Vals vs us∧Q vs H'
def SP (X:Cx) (pins:List (Addr × Obj)) (D:Ends) (f:Flow) (s':Shared):Prop :=
  match f with
  | .next=>∃ σ' H',Inv X pins σ' H' s'∧D.nx σ' H'
  | .brk=>∃ σ' H',Inv X pins σ' H' s'∧D.bk σ' H'
  | .cont=>∃ σ' H',Inv X pins σ' H' s'∧D.ct σ' H'
  | .ret u=>∃ v σ' H',Inv X pins σ' H' s'∧RelV v u∧D.rt v H'
def PE (X:Cx) (e:Expr) (t:TE):Prop :=
  ∀ (pins:List (Addr × Obj)) (s:Shared) (σ:St) (H:Hp) (Q:VK),Inv X pins σ H s→t σ H Q→wpAny (model X.prog X.w) X.A (eval e X.env) (EP X pins σ Q) X.xe s
def PT (X:Cx) (e:Expr) (t:TT):Prop :=
  ∀ (pins:List (Addr × Obj)) (s:Shared) (σ:St) (H:Hp) (Q:Bool→Hp→Prop),Inv X pins σ H s→t σ H Q→wpAny (model X.prog X.w) X.A (isTrue e X.env (eval e X.env)) (TP X pins σ Q) X.xe s
def PW (X:Cx) (e:Expr) (t:TT):Prop :=
  ∀ (whole:Sem Value) (pins:List (Addr × Obj)) (s:Shared) (σ:St) (H:Hp) (Q:Bool→Hp→Prop),Inv X pins σ H s→t σ H Q→wpAny (model X.prog X.w) X.A (isTrue e X.env whole) (TP X pins σ Q) X.xe s
theorem PW.pt {X:Cx} {e:Expr} {t:TT} (h:PW X e t):PT X e t:=h _
def PA (X:Cx) (es:List Expr) (t:TA):Prop :=
  ∀ (pos:Pos) (pins:List (Addr × Obj)) (s:Shared) (σ:St) (H:Hp) (Q:List V→Hp→Prop),Inv X pins σ H s→t σ H Q→wpAny (model X.prog X.w) X.A (spliced (backTo pos (starEach es X.env))) (AP X pins σ Q) X.xe s
def PS (X:Cx) (st:Stmt) (t:TS):Prop :=
  ∀ (pins:List (Addr × Obj)) (s:Shared) (σ:St) (H:Hp) (D:Ends),Inv X pins σ H s→t D σ H→wpAny (model X.prog X.w) X.A (exec st X.env) (SP X pins D) X.xe s
def PSs (X:Cx) (st:List Stmt) (t:TS):Prop :=
  ∀ (pins:List (Addr × Obj)) (s:Shared) (σ:St) (H:Hp) (D:Ends),Inv X pins σ H s→t D σ H→wpAny (model X.prog X.w) X.A (execs st X.env) (SP X pins D) X.xe s
theorem thn {α:Type} {t:Sem α} {Q Q':α→Shared→Prop} {M:Model} {A:Around} {E:Value→Shared→Prop} {s:Shared} (h:wpAny M A t Q E s) (hQ:∀ a s,Q a s→Q' a s):wpAny M A t Q' E s:=wpAny_mono h hQ fun _ _ x=>x
end L2
namespace L2
open PySem PySem.Spec PyProof.Rows
section
variable {X:Cx}
def tVar (i:Nat):TE:=fun σ H Q=>∃ v,σ[i]?=some (some v)∧Q v H
def tC (v:V):TE:=fun _ H Q=>Q v H
theorem pe_var {i:Nat} {x:Str} {pos:Pos} (hN:X.N[i]?=some x) (hv:Vis X.env.scope x) (hd:(x == ("__debug__":Str))=false:=by decide) (hcd:(x == ("__classdict__":Str))=false:=by decide):PE X (.Name x pos) (tVar i):=by
  intro pins s σ H Q I h
  obtain ⟨v,e,h⟩:=h
  obtain ⟨m,hn,hl⟩:=I.loc
  obtain ⟨u,r,l⟩:=hl i x v hN e hv
  have fin:EP X pins σ Q u s:=⟨v,H,I,r,h⟩
  rcases l with ⟨hk,hm⟩ | ⟨hk,c,hc,hcell⟩
  · exact wpAny_Name (wpAny_loadName_local I.ok.kind hk hn hm fin) hd
  · rcases hk with hk | hk
    · exact wpAny_Name (wpAny_loadName_cell I.ok.kind hk hc hcell fin) hd
    · exact wpAny_Name (wpAny_loadName_free I.ok.kind hk hc hcell fin hcd) hd
theorem pe_int {i j pos}:PE X (.Constant (.int i) j pos) (tC (.int i)):=fun _ _ _ H _ I h=>wpAny_Constant_int ⟨.int i,H,I.tok _,⟨_,rfl⟩,h⟩
theorem pe_bl {b j pos}:PE X (.Constant (.bool b) j pos) (tC (.bl b)):=fun _ _ _ H _ I h=>Constant_bool ⟨.bl b,H,I,rfl,h⟩
theorem pe_non {j pos}:PE X (.Constant .none j pos) (tC .non):=fun _ _ _ H _ I h=>Constant_none ⟨.non,H,I,rfl,h⟩
theorem pe_str {x j pos}:PE X (.Constant (.str x) j pos) (tC (.str x)):=fun _ _ _ H _ I h=>Calls.Constant_str ⟨.str x,H,I.tok _,⟨_,rfl⟩,h⟩
def Gl (X:Cx) (x:Str):Prop:=X.env.kindOf x=some .globalImplicit
theorem ld_glob {E:Value→Shared→Prop} {pins:List (Addr × Obj)} {s:Shared} {σ:St} {H:Hp} {x:Str} {u:Value} {pos:Pos} {Q:Value→Shared→Prop} (I:Inv X pins σ H s) (hg:Gl X x) (hm:X.mg x=some u) (h:Q u s)
    (hd:(x == ("__debug__":Str))=false:=by decide):wpAny (model X.prog X.w) X.A (eval (.Name x pos) X.env) Q E s :=
  Calls.Name_function_global I.ok.kind hg (Calls.loadGlobal_global (by rw [I.ok.glob]; exact I.mod.glob.keeps I.bk) hm h) hd
theorem ld_blt {E:Value→Shared→Prop} {pins:List (Addr × Obj)} {s:Shared} {σ:St} {H:Hp} {x:Str} {u:Value} {pos:Pos} {Q:Value→Shared→Prop} (I:Inv X pins σ H s) (hg:Gl X x) (hm:X.mg x=none) (hv:bootBuiltins x=some u) (h:Q u s)
    (hn:x ≠ "__name__":=by decide) (hd:(x == ("__debug__":Str))=false:=by decide):wpAny (model X.prog X.w) X.A (eval (.Name x pos) X.env) Q E s:=by
  obtain ⟨mb,h1,h2⟩:=I.mod.blt
  exact Calls.Name_function_global I.ok.kind hg (Calls.loadGlobal_builtin (by rw [I.ok.glob]; exact I.mod.glob.keeps I.bk) hm (by rw [I.ok.blt]; exact h1.keeps I.bk) ((h2 x hn).trans hv) h) hd
theorem pe_glob {x:Str} {v:V} {u:Value} {pos:Pos} (hg:Gl X x) (hm:X.mg x=some u) (r:RelV v u) (hd:(x == ("__debug__":Str))=false:=by decide):PE X (.Name x pos) (tC v) :=
  fun _ _ _ H _ I h=>ld_glob I hg hm ⟨v,H,I,r,h⟩ hd
theorem pe_bltn {x:Str} {v:V} {u:Value} {pos:Pos} (hg:Gl X x) (hm:X.mg x=none) (hv:bootBuiltins x=some u) (r:RelV v u) (hn:x ≠ "__name__":=by decide) (hd:(x == ("__debug__":Str))=false:=by decide):PE X (.Name x pos) (tC v) :=
  fun _ _ _ H _ I h=>ld_blt I hg hm hv ⟨v,H,I,r,h⟩ hn hd
variable {a b:Expr} {ta tb:TE} {pos:Pos}
def PC (X:Cx) (op:CmpOp) (a b:Expr) (t:TE):Prop :=
  ∀ (pins:List (Addr × Obj)) (s:Shared) (σ:St) (H:Hp) (Q:VK),Inv X pins σ H s→t σ H Q →
    wpAny (model X.prog X.w) X.A (eval a X.env) (fun v s₁=>wpAny (model X.prog X.w) X.A (eval b X.env) (fun u s₂=>wpAny (model X.prog X.w) X.A (compareOp op v u) (EP X pins σ Q) X.xe s₂) X.xe s₁) X.xe s
theorem nobehind (b:Expr) {op:CmpOp} (h:op ≠ .In) (h2:op ≠ .NotIn):behindInMarks op b=false:=by
  have e1:(op == CmpOp.In)=false:=by cases op <;> first | rfl | exact absurd rfl h
  have e2:(op == CmpOp.NotIn)=false:=by cases op <;> first | rfl | exact absurd rfl h2
  cases b <;> simp [behindInMarks,e1,e2]
def tIsN (ta:TE):TE:=fun σ H Q=>ta σ H fun x H1=>Q (.bl (decide (x=.non))) H1
def tNotN (ta:TE):TE:=fun σ H Q=>ta σ H fun x H1=>Q (.bl (!decide (x=.non))) H1
theorem RelV.none_iff {x:V} {v:Value} (r:RelV x v):(v == Value.none)=decide (x=.non):=by
  cases x with
  | non=>cases r; rfl
  | bl _=>cases r; rfl
  | int _=>obtain ⟨t,rfl⟩:=r; rfl
  | str _=>obtain ⟨t,rfl⟩:=r; rfl
  | byt _=>obtain ⟨t,rfl⟩:=r; rfl
  | flt _=>obtain ⟨t,rfl⟩:=r; rfl
  | ref _=>cases r; rfl
  | ty _=>cases r; rfl
theorem pc_isN {j pos'} (ha:PE X a ta):PC X .Is a (.Constant .none j pos') (tIsN ta):=by
  intro pins s σ H Q I h
  refine thn (ha pins s σ H _ I h) fun v s1 ⟨x,H1,I1,r1,q1⟩=>?_
  exact Constant_none (is_none_gen ⟨.bl _,H1,I1,by rw [r1.none_iff]; rfl,q1⟩)
theorem pc_notN {j pos'} (ha:PE X a ta):PC X .IsNot a (.Constant .none j pos') (tNotN ta):=by
  intro pins s σ H Q I h
  refine thn (ha pins s σ H _ I h) fun v s1 ⟨x,H1,I1,r1,q1⟩=>?_
  exact Constant_none (isnot_none_gen ⟨.bl _,H1,I1,by rw [r1.none_iff]; rfl,q1⟩)
def tB (t:TE):TT:=fun σ H Q=>t σ H fun x H1=>∃ c,x=.bl c∧Q c H1
theorem pe_cmp {op:CmpOp} {t:TE} (h:PC X op a b t) (h1:behindInMarks op b=false:=by first | exact nobehind _ (by decide) (by decide) | rfl):PE X (.Compare a [op] [b] pos) t:=fun pins s σ H Q I hw=>wpAny_Compare1 (h pins s σ H Q I hw) h1
theorem pt_cmp {op:CmpOp} {t:TE} (h:PC X op a b t) (h1:behindInMarks op b=false:=by first | exact nobehind _ (by decide) (by decide) | rfl):PT X (.Compare a [op] [b] pos) (tB t):=by
  intro pins s σ H Q I hw
  refine wpAny_isTrue_Compare1 (thn (h pins s σ H _ I hw) fun v s1 h1=>thn h1 fun u s2 h2=>thn h2 fun c s3 ⟨x,H1,I1,r1,q1⟩=>?_) h1
  obtain ⟨d,rfl,q⟩:=q1
  cases r1
  exact wpAny_truthy_bool ⟨H1,I1,q⟩
theorem pt_val {e:Expr} {t:TE} (h:PE X e t) (he:∀ whole,isTrue e X.env whole=(do let v ← whole; standAt e.pos; holding [v] (truthy v)):=by intro _; rfl):PT X e (tB t):=by
  intro pins s σ H Q I hw
  refine isTrue_plain (thn (h pins s σ H _ I hw) fun v s1 ⟨x,H1,I1,r1,q1⟩=>?_) (he _)
  obtain ⟨d,rfl,q⟩:=q1
  cases r1
  exact wpAny_truthy_bool ⟨H1,I1,q⟩
variable {tA tB':TT} {rest:List Expr}
def tAnd (t u:TT):TT:=fun σ H Q=>t σ H fun c H1=>if c=true then u σ H1 Q else Q false H1
def tOr (t u:TT):TT:=fun σ H Q=>t σ H fun c H1=>if c=true then Q true H1 else u σ H1 Q
def tNot (t:TT):TT:=fun σ H Q=>t σ H fun c H1=>Q (!c) H1
theorem pw_and1 (ha:PT X a tA):PW X (.BoolOp .And [a] pos) tA:=by
  intro wh pins s σ H Q I h
  refine isTrue_and (thn (ha pins s σ H Q I h) fun c s1 e=>?_)
  cases c with
  | true=>exact isTrue_and_nil e
  | false=>exact e
theorem pw_or1 (ha:PT X a tA):PW X (.BoolOp .Or [a] pos) tA:=by
  intro wh pins s σ H Q I h
  refine isTrue_or (thn (ha pins s σ H Q I h) fun c s1 e=>?_)
  cases c with
  | false=>exact isTrue_or_nil e
  | true=>exact e
theorem pw_and (ha:PT X a tA) (hb:PW X (.BoolOp .And (b :: rest) pos) tB'):PW X (.BoolOp .And (a :: b :: rest) pos) (tAnd tA tB'):=by
  intro wh pins s σ H Q I h
  refine isTrue_and (thn (ha pins s σ H _ I h) fun c s1 ⟨H1,I1,q1⟩=>?_)
  cases c with
  | true=>exact hb wh pins s1 σ H1 Q I1 q1
  | false=>exact ⟨H1,I1,q1⟩
theorem pw_or (ha:PT X a tA) (hb:PW X (.BoolOp .Or (b :: rest) pos) tB'):PW X (.BoolOp .Or (a :: b :: rest) pos) (tOr tA tB'):=by
  intro wh pins s σ H Q I h
  refine isTrue_or (thn (ha pins s σ H _ I h) fun c s1 ⟨H1,I1,q1⟩=>?_)
  cases c with
  | true=>exact ⟨H1,I1,q1⟩
  | false=>exact hb wh pins s1 σ H1 Q I1 q1
theorem pt_not (ha:PT X a tA):PT X (.UnaryOp .Not a pos) (tNot tA):=by
  intro pins s σ H Q I h
  exact isTrue_not (ha pins s σ H (fun c H1=>Q (!c) H1) I h)
def tAndV (ta tb:TE):TE:=fun σ H Q=>ta σ H fun x H1=>∃ c,x=.bl c∧if c=true then tb σ H1 Q else Q (.bl false) H1
def tNotV (ta:TE):TE:=fun σ H Q=>ta σ H fun x H1=>∃ c,x=.bl c∧Q (.bl (!c)) H1
theorem pe_one {op} {t:TE} (h:PE X a t):PE X (.BoolOp op [a] pos) t:=fun pins s σ H Q I hw=>BoolOp_one (h pins s σ H Q I hw)
theorem pe_and (ha:PE X a ta) (hb:PE X (.BoolOp .And (b :: rest) pos) tb):PE X (.BoolOp .And (a :: b :: rest) pos) (tAndV ta tb):=by
  intro pins s σ H Q I h
  refine BoolOp_and (thn (ha pins s σ H _ I h) fun v s1 ⟨x,H1,I1,r1,q1⟩=>?_)
  obtain ⟨c,rfl,q1⟩:=q1
  cases r1
  refine wpAny_truthy_bool ?_
  cases c with
  | true=>exact hb pins s1 σ H1 Q I1 q1
  | false=>exact ⟨.bl false,H1,I1,rfl,q1⟩
theorem pe_not (ha:PE X a ta):PE X (.UnaryOp .Not a pos) (tNotV ta):=by
  intro pins s σ H Q I h
  refine UnaryOp_ (thn (ha pins s σ H _ I h) fun v s1 ⟨x,H1,I1,r1,q1⟩=>?_)
  obtain ⟨c,rfl,q1⟩:=q1
  cases r1
  exact not_of (wpAny_truthy_bool ⟨.bl (!c),H1,I1,rfl,q1⟩)
def tIf (t:TT) (ta tb:TE):TE:=fun σ H Q=>t σ H fun c H1=>if c=true then ta σ H1 Q else tb σ H1 Q
theorem pe_ifExp {c:Expr} (hc:PT X c tA) (ha:PE X a ta) (hb:PE X b tb):PE X (.IfExp c a b pos) (tIf tA ta tb):=by
  intro pins s σ H Q I h
  refine wpAny_IfExp (thn (hc pins s σ H _ I h) fun d s1 ⟨H1,I1,q1⟩=>?_)
  cases d with
  | true=>exact ha pins s1 σ H1 Q I1 q1
  | false=>exact hb pins s1 σ H1 Q I1 q1
end
end L2
namespace L2
open PySem PySem.Spec PyProof.Rows
def SqL (K:PySem.W.Frag) (H:Hp) (a:Addr) (xs:List V):Prop :=
  Rd H a (.lst xs) ∨
    ∃ (o:Obj) (its:Array Value) (n:Nat),K.lookup a=some o∧o.cls=.type "list"∧o.dict=none∧o.data=.seq its n∧its.size ≤ sizeLine∧Vals xs its.toList
def SqT (K:PySem.W.Frag) (H:Hp) (a:Addr) (xs:List V):Prop :=
  Rd H a (.tup xs) ∨
    ∃ (o:Obj) (its:Array Value) (n:Nat),K.lookup a=some o∧o.cls=.type "tuple"∧o.data=.seq its n∧its.size ≤ sizeLine∧Vals xs its.toList
def absV:Value→Option V
  | .none=>some .non
  | .bool b=>some (.bl b)
  | .int i _=>some (.int i)
  | .str x _=>some (.str x)
  | .bytes b _=>some (.byt b)
  | .float b _=>some (.flt b)
  | .ref a=>some (.ref a)
  | .type n=>some (.ty n)
  | _=>none
theorem RelV.abs {x:V} {u:Value} (r:RelV x u):absV u=some x:=by
  cases x with
  | non=>cases r; rfl
  | bl _=>cases r; rfl
  | int _=>obtain ⟨t,rfl⟩:=r; rfl
  | str _=>obtain ⟨t,rfl⟩:=r; rfl
  | byt _=>obtain ⟨t,rfl⟩:=r; rfl
  | flt _=>obtain ⟨t,rfl⟩:=r; rfl
  | ref _=>cases r; rfl
  | ty _=>cases r; rfl
theorem RelV.inj {x y:V} {u:Value} (r:RelV x u) (q:RelV y u):x=y:=Option.some.inj (r.abs.symm.trans q.abs)
theorem Vals.inj:∀ {xs ys:List V} {us:List Value},Vals xs us→Vals ys us→xs=ys
  | _,_,_,.nil,.nil=>rfl
  | _,_,_,.cons r t,.cons r' t'=>by rw [r.inj r',Vals.inj t t']
section
variable {X:Cx} {pins:List (Addr × Obj)} {σ:St} {H:Hp} {s:Shared} {a:Addr} {xs ys:List V}
theorem SqL.of {K:PySem.W.Frag} (h:H a=some (.lst xs)):SqL K H a xs:=.inl (.inl h)
theorem SqT.of {K:PySem.W.Frag} (h:H a=some (.tup xs)):SqT K H a xs:=.inl (.inl h)
theorem Inv.list (I:Inv X pins σ H s) (h:SqL X.K H a xs):∃ its:List Value,Vals xs its∧PlainL s.heap a its.toArray∧xs.length ≤ sizeLine:=by
  rcases h with h | ⟨o,its,n,hk,hc,hd,hs,hz,r⟩
  · obtain ⟨z,its,n,r,e⟩:=h.ok I.hok
    exact ⟨its,r,⟨_,n,e,rfl,rfl,rfl⟩,z⟩
  · refine ⟨its.toList,r,⟨o,n,I.kIn a o hk,hc,hd,by simpa using hs⟩,?_⟩
    have e:=r.length
    simp only [Array.length_toList] at e
    omega
theorem Inv.tuple (I:Inv X pins σ H s) (h:SqT X.K H a xs):∃ its:List Value,Vals xs its∧IsTup s.heap a its.toArray∧xs.length ≤ sizeLine:=by
  rcases h with h | ⟨o,its,n,hk,hc,hs,hz,r⟩
  · obtain ⟨z,its,r,p⟩:=h.ok I.hok
    exact ⟨its,r,p,z⟩
  · refine ⟨its.toList,r,⟨o,I.kIn a o hk,hc,n,by simpa using hs⟩,?_⟩
    have e:=r.length
    simp only [Array.length_toList] at e
    omega
theorem Inv.list_inj (I:Inv X pins σ H s) (h:SqL X.K H a xs) (h':SqL X.K H a ys):xs=ys:=by
  obtain ⟨its,r,⟨o,n,e,_,_,d⟩,_⟩:=I.list h
  obtain ⟨its',r',⟨o',n',e',_,_,d'⟩,_⟩:=I.list h'
  rw [e] at e'; cases e'
  rw [d] at d'
  injection d' with d1 _
  have:its=its':=by simpa using congrArg Array.toList d1
  subst this
  exact r.inj r'
theorem Inv.tuple_inj (I:Inv X pins σ H s) (h:SqT X.K H a xs) (h':SqT X.K H a ys):xs=ys:=by
  obtain ⟨its,r,⟨o,e,_,n,d⟩,_⟩:=I.tuple h
  obtain ⟨its',r',⟨o',e',_,n',d'⟩,_⟩:=I.tuple h'
  rw [e] at e'; cases e'
  rw [d] at d'
  injection d' with d1 _
  have:its=its':=by simpa using congrArg Array.toList d1
  subst this
  exact r.inj r'
end
abbrev Cx.wish (X:Cx) (E:Value→Shared→Prop):Cx:={ X with xe:=E }
abbrev Cx.nox (X:Cx):Cx:=X.wish fun _ _=>False
theorem Cx.Ok.wish {X:Cx} (ok:X.Ok) (E:Value→Shared→Prop):(X.wish E).Ok :=
  ⟨ok.mod,ok.kind,ok.glob,ok.blt,ok.above,ok.inj,ok.has,ok.cab,ok.hd,ok.frames,ok.stk,ok.exf,ok.bs,ok.bsz,ok.noex,ok.exfs,ok.funs,ok.frf⟩
theorem Cx.Ok.unwish {X:Cx} {E:Value→Shared→Prop} (ok:(X.wish E).Ok):X.Ok :=
  ⟨ok.mod,ok.kind,ok.glob,ok.blt,ok.above,ok.inj,ok.has,ok.cab,ok.hd,ok.frames,ok.stk,ok.exf,ok.bs,ok.bsz,ok.noex,ok.exfs,ok.funs,ok.frf⟩
section
variable {X:Cx} {pins:List (Addr × Obj)} {σ:St} {H:Hp} {s:Shared} {E:Value→Shared→Prop}
theorem Inv.wish (I:Inv X pins σ H s) (E:Value→Shared→Prop):Inv (X.wish E) pins σ H s:=⟨I.ok.wish E,I.os,I.bare,I.base,I.loc,I.cell,I.free,I.freeC,I.pin,I.hok,I.len⟩
theorem Inv.unwish (I:Inv (X.wish E) pins σ H s):Inv X pins σ H s:=⟨I.ok.unwish,I.os,I.bare,I.base,I.loc,I.cell,I.free,I.freeC,I.pin,I.hok,I.len⟩
theorem SP.unwish {D:Ends} {f:Flow} {s':Shared} (h:SP (X.wish E) pins D f s'):SP X pins D f s':=by
  cases f with
  | next=>obtain ⟨σ',H',I,q⟩:=h; exact ⟨σ',H',I.unwish,q⟩
  | brk=>obtain ⟨σ',H',I,q⟩:=h; exact ⟨σ',H',I.unwish,q⟩
  | cont=>obtain ⟨σ',H',I,q⟩:=h; exact ⟨σ',H',I.unwish,q⟩
  | ret u=>obtain ⟨v,σ',H',I,r,q⟩:=h; exact ⟨v,σ',H',I.unwish,r,q⟩
theorem PSs.nox {st:List Stmt} {t:TS} (h:PSs X.nox st t):PSs X st t:=fun pins s σ H D I hw =>
  wpAny_mono (h pins s σ H D (I.wish _) hw) (fun _ _ q=>q.unwish) fun _ _ z=>False.elim z
end
section
variable {X:Cx} {st:Stmt} {rest:List Stmt} {t u:TS} {e:Expr} {te:TE} {pos:Pos}
def tNext:TS:=fun D σ H=>D.nx σ H
def tSeq (t u:TS):TS:=fun D σ H=>t { D with nx:=u D } σ H
theorem pss_nil:PSs X [] tNext:=fun _ _ σ H _ I h=>wpAny_execs_nil ⟨σ,H,I,h⟩
theorem pss_cons (h1:PS X st t) (h2:PSs X rest u):PSs X (st :: rest) (tSeq t u):=by
  intro pins s σ H D I h
  refine wpAny_execs_cons (thn (h1 pins s σ H { D with nx:=u D } I h) fun f s1 q=>?_)
  cases f with
  | next =>
    obtain ⟨σ',H',I',q⟩:=q
    exact h2 pins s1 σ' H' D I' q
  | ret v=>exact q
  | brk=>exact q
  | cont=>exact q
theorem pss_one (h1:PS X st t):PSs X [st] t:=by
  intro pins s σ H D I h
  refine wpAny_execs_cons (thn (h1 pins s σ H D I h) fun f s1 q=>?_)
  cases f with
  | next=>exact wpAny_execs_nil q
  | ret v=>exact q
  | brk=>exact q
  | cont=>exact q
theorem Inv.quiet {pins:List (Addr × Obj)} {σ:St} {H:Hp} {s:Shared} (I:Inv X pins σ H s):interactive X.env=false:=by simp [interactive,I.ok.kind]
def tDrop (te:TE):TS:=fun D σ H=>te σ H fun _ H1=>D.nx σ H1
theorem ps_expr (he:PE X e te) (hs:swapsWith e none pos.line X.env=pure false:=by rfl):PS X (.Expr e pos) (tDrop te):=by
  intro pins s σ H D I h
  exact wpAny_Expr_any (thn (he pins s σ H _ I h) fun v s1 ⟨x,H1,I1,r1,q1⟩=>⟨σ,H1,I1,q1⟩) I.quiet hs
def tRet (te:TE):TS:=fun D σ H=>te σ H D.rt
theorem ps_ret (he:PE X e te):PS X (.Return (some e) pos) (tRet te):=by
  intro pins s σ H D I h
  exact wpAny_Return_some (thn (he pins s σ H _ I h) fun v s1 ⟨x,H1,I1,r1,q1⟩=>⟨x,σ,H1,I1,r1,q1⟩)
def tIfS (c:TT) (t u:TS):TS:=fun D σ H=>c σ H fun b H1=>if b=true then t D σ H1 else u D σ H1
theorem ps_if {c:Expr} {a b:List Stmt} {tc:TT} (hc:PT X c tc) (ha:PSs X a t) (hb:PSs X b u):PS X (.If c a b pos) (tIfS tc t u):=by
  intro pins s σ H D I h
  refine wpAny_If (thn (hc pins s σ H _ I h) fun d s1 ⟨H1,I1,q1⟩=>?_)
  cases d with
  | true=>exact ha pins s1 σ H1 D I1 q1
  | false=>exact hb pins s1 σ H1 D I1 q1
def tNever:TS:=fun _ _ _=>False
theorem ps_never:PS X st tNever:=fun _ _ _ _ _ _ h=>h.elim
end
abbrev TG:=V→St→Hp→(St→Hp→Prop)→Prop
abbrev TGs:=List V→St→Hp→(St→Hp→Prop)→Prop
def PG (X:Cx) (target:Expr) (t:TG):Prop :=
  ∀ (pins:List (Addr × Obj)) (s:Shared) (σ:St) (H:Hp) (v:V) (u:Value) (Q:St→Hp→Prop),Inv X pins σ H s→RelV v u→t v σ H Q →
    wpAny (model X.prog X.w) X.A (assign target X.env u) (fun _ s'=>∃ σ' H',Inv X pins σ' H' s'∧Q σ' H') X.xe s
def PGs (X:Cx) (ts:List Expr) (t:TGs):Prop :=
  ∀ (pins:List (Addr × Obj)) (s:Shared) (σ:St) (H:Hp) (vs:List V) (us:List Value) (Q:St→Hp→Prop),Inv X pins σ H s→Vals vs us→t vs σ H Q →
    wpAny (model X.prog X.w) X.A (assignInOrder ((assignEach ts X.env).map (·.2)) us) (fun _ s'=>∃ σ' H',Inv X pins σ' H' s'∧Q σ' H') X.xe s
abbrev TSet:=V→V→V→Hp→(Hp→Prop)→Prop
def PSet (X:Cx) (t:TSet):Prop :=
  ∀ (pins:List (Addr × Obj)) (s:Shared) (σ:St) (H:Hp) (o i v:V) (ov iv u:Value) (Q:Hp→Prop),Inv X pins σ H s→RelV o ov→RelV i iv→RelV v u→t o i v H Q →
    wpAny (model X.prog X.w) X.A (setItem ov iv u) (fun _ s'=>∃ H',Inv X pins σ H' s'∧Q H') X.xe s
section
variable {X:Cx} {pos:Pos}
def gName (i:Nat):TG:=fun v σ H Q=>Q (σ.set i (some v)) H
theorem pg_name {i:Nat} {x:Str} (hN:X.N.Nodup) (hi:X.N[i]?=some x) (hx:Loc X.env.scope x) (hf:X.fn x=true ∨ X.env.scope.names.lookup x=some .local:=by first | exact .inl rfl | exact .inr rfl | assumption):PG X (.Name x pos) (gName i):=by
  intro pins s σ H v u Q I r h
  exact wpAny_assign_Name (store_ok I hN hi hx r (fun s' I'=>⟨_,H,I',h⟩) hf)
def gNil:TGs:=fun vs σ H Q=>vs=[]∧Q σ H
def gCons (t:TG) (u:TGs):TGs:=fun vs σ H Q=>∃ v r,vs=v :: r∧t v σ H fun σ' H'=>u r σ' H' Q
theorem pgs_nil:PGs X [] gNil:=by
  intro pins s σ H vs us Q I r h
  obtain ⟨e,h⟩:=h
  subst e
  cases r
  exact assignInOrder_nil ⟨σ,H,I,h⟩
theorem pgs_cons {e:Expr} {es:List Expr} {t:TG} {u:TGs} (h1:PG X e t) (h2:PGs X es u)
    (hs:(assignEach (e :: es) X.env).map (·.2)=assign e X.env :: (assignEach es X.env).map (·.2):=by rfl):PGs X (e :: es) (gCons t u):=by
  intro pins s σ H vs us Q I r h
  obtain ⟨v,vr,e1,h⟩:=h
  subst e1
  cases r with
  | cons r rr =>
    rw [hs]
    refine assignInOrder_cons (thn (h1 pins s σ H _ _ _ I r h) fun _ s1 ⟨σ1,H1,I1,q1⟩=>?_)
    exact h2 pins s1 σ1 H1 _ _ Q I1 rr q1
def gTup (K:PySem.W.Frag) (n:Nat) (t:TGs):TG:=fun v σ H Q=>∃ a xs,v=.ref a∧SqT K H a xs∧xs.length=n∧t xs σ H Q
theorem pg_tup {es:List Expr} {k:Nat} {t:TGs} {n:Nat} (hc:X.calm=true) (h:PGs X es t)
    (hn:(assignEach es X.env).length=n:=by rfl) (hst:(assignEach es X.env).findIdx? (·.1)=none:=by rfl):PG X (.Tuple es k pos) (gTup X.K n t):=by
  intro pins s σ H v u Q I r hw
  obtain ⟨a,xs,e1,hq,hl,hw⟩:=hw
  subst e1
  cases r
  obtain ⟨its,rv,ht,hz⟩:=I.tuple hq
  refine assign_Tuple_tuple (I.ok.hd hc) ht (by simp [hn,← hl,rv.length]) hst fun h' hx=>?_
  have I1:Inv X pins σ H { s with heap:=h' }:=I.kept (t':=s.toks) fun b o e=>hx b o (Nat.ne_of_lt (Heap.lt_size e)) e
  exact h pins _ σ H xs _ Q I1 (by simpa using rv) hw
def gSub (to ti:TE) (t:TSet):TG:=fun v σ H Q=>to σ H fun o H1=>ti σ H1 fun i H2=>t o i v H2 fun H3=>Q σ H3
theorem pg_sub {o i:Expr} {to ti:TE} {t:TSet} (ho:PE X o to) (hi:PE X i ti) (hs:PSet X t)
    (ha:∀ v,assign (.Subscript o i pos) X.env v=(do
      let ov ← holding [v] (eval o X.env)
      let iv ← holding [v,ov] (eval i X.env)
      standAt pos
      holding [v,ov,iv] (setItem ov iv v)
      release [v,ov,iv] []):=by intro _; rfl):PG X (.Subscript o i pos) (gSub to ti t):=by
  intro pins s σ H v u Q I r h
  rw [ha]
  refine wpAny_bind (wpAny_holding (thn (ho pins s σ H _ I h) fun ov s1 ⟨x,H1,I1,r1,q1⟩=>?_))
  refine wpAny_bind (wpAny_holding (thn (hi pins s1 σ H1 _ I1 q1) fun iv s2 ⟨y,H2,I2,r2,q2⟩=>?_))
  refine wpAny_bind (wpAny_standAt (wpAny_bind (wpAny_holding (thn (hs pins s2 σ H2 x y v ov iv u _ I2 r1 r2 r q2) fun _ s3 ⟨H3,I3,q3⟩=>?_))))
  exact wpAny_release ⟨σ,H3,I3,q3⟩
def tAsg (te:TE) (g:TG):TS:=fun D σ H=>te σ H fun x H1=>g x σ H1 D.nx
theorem ps_asg {tg e:Expr} {te:TE} {g:TG} (he:PE X e te) (hg:PG X tg g) (hs:swapsWithSole [tg] e pos.line X.env=pure false:=by rfl) (hw:swappedStores [tg] e X.env=pure none:=by rfl)
    (h1:(assignEach [tg] X.env).map (·.2)=[assign tg X.env]:=by rfl):PS X (.Assign [tg] e pos) (tAsg te g):=by
  intro pins s σ H D I h
  refine wpAny_Assign_stores (thn (he pins s σ H _ I h) fun v s1 ⟨x,H1,I1,r1,q1⟩=>?_) hs hw
  rw [h1]
  exact thn (hg pins s1 σ H1 x v _ I1 r1 q1) fun _ s2 q=>q
theorem ps_set {i:Nat} {x:Str} {e:Expr} {te:TE} {pos':Pos} (hN:X.N.Nodup) (hi:X.N[i]?=some x) (hx:Loc X.env.scope x) (he:PE X e te) (hs:swapsWith e (some (.Name x pos')) pos.line X.env=pure false:=by rfl) (hf:X.fn x=true ∨ X.env.scope.names.lookup x=some .local:=by first | exact .inl rfl | exact .inr rfl | assumption) :
    PS X (.Assign [.Name x pos'] e pos) (tAsg te (gName i)):=by
  intro pins s σ H D I h
  refine wpAny_Assign_Name (thn (he pins s σ H _ I h) fun v s1 ⟨y,H1,I1,r1,q1⟩=>?_) hs
  exact store_ok I1 hN hi hx r1 (fun s2 I2=>⟨_,H1,I2,q1⟩) hf
end
section
variable {X:Cx} {pos:Pos}
def tWhile (c:TT) (tb:TS):TS:=fun D σ H=>∃ W:Nat→St→Hp→Prop,(∃ m,W m σ H)∧∀ m σ H,W m σ H →
  c σ H fun b H1=>if b=true then ∃ N:St→Hp→Prop,(∀ σ' H',N σ' H'→∃ m',m' < m∧W m' σ' H')∧tb { D with nx:=N,ct:=N,bk:=D.nx } σ H1 else D.nx σ H1
theorem ps_while {c:Expr} {body:List Stmt} {tc:TT} {tb:TS} (hp:PassesOwn (model X.prog X.w) X.A X.env X.xe) (hc:PT X c tc) (hb:PSs X body tb):PS X (.While c body [] pos) (tWhile tc tb):=by
  intro pins s σ H D I h
  obtain ⟨W,⟨m0,w0⟩,turn⟩:=h
  refine wpAny_While (codeAny_whileLoop (fun n s'=>∃ σ' H',Inv X pins σ' H' s'∧W n σ' H') ?_ m0 ⟨σ,H,I,w0⟩)
  rintro n s1 ⟨σ1,H1,I1,w1⟩
  refine wpAny_passesOwn hp (thn (hc pins s1 σ1 H1 _ I1 (turn n σ1 H1 w1)) fun b s2 ⟨H2,I2,q2⟩=>?_)
  cases b with
  | true =>
    obtain ⟨N,hN,q2⟩:=q2
    rw [if_pos rfl]
    refine wpAny_passesOwn hp (thn (hb pins s2 σ1 H2 _ I2 q2) fun f s3 q3=>?_)
    cases f with
    | next =>
      obtain ⟨σ3,H3,I3,n3⟩:=q3
      obtain ⟨m',hm,w3⟩:=hN σ3 H3 n3
      exact ⟨m',hm,σ3,H3,I3,w3⟩
    | cont =>
      obtain ⟨σ3,H3,I3,n3⟩:=q3
      obtain ⟨m',hm,w3⟩:=hN σ3 H3 n3
      exact ⟨m',hm,σ3,H3,I3,w3⟩
    | brk=>exact q3
    | ret v=>exact q3
  | false =>
    rw [if_neg Bool.false_ne_true]
    exact wpAny_execs_nil ⟨σ1,H2,I2,q2⟩
end
structure It where
  go:Nat→Hp→Prop
  yld:Nat→Hp→V→Hp→Prop
  stop:Nat→Hp→Prop
def FpOk (X:Cx) (pins:List (Addr × Obj)) (H:Hp) (b:Addr):Prop :=
  H b=none∧b ≠ X.env.locals∧b ∉ X.fs∧(b ∈ X.ex ∨ X.s₀.heap.objs.size ≤ b)∧(∀ x c,X.env.cells.lookup x=some c→c ≠ b)∧∀ p ∈ X.pn ++ pins,p.1 ≠ b
theorem Inv.fpOk {X:Cx} {pins:List (Addr × Obj)} {σ:St} {H H':Hp} {s:Shared} {b:Addr} (I:Inv X pins σ H s) (hb:s.heap.objs.size ≤ b) (hn:H' b=none):FpOk X pins H' b:=by
  refine ⟨hn,Nat.ne_of_gt (Nat.lt_of_lt_of_le I.lt hb),I.nofs hb,.inr (Nat.le_trans I.sz hb),fun x c e z=>?_,fun p hp z=>?_⟩
  · obtain ⟨v,q⟩:=I.cell x c e
    exact absurd (Nat.lt_of_lt_of_le q.lt (by rw [z]; exact hb)) (Nat.lt_irrefl _)
  · exact absurd (Nat.lt_of_lt_of_le (Heap.lt_size (I.pin p hp).1) (by rw [z]; exact hb)) (Nat.lt_irrefl _)
structure Turn (P:Program) (w:World) (K:PySem.W.Frag) (tg:Expr) (J:It) (fp:List Addr) (it:Addr) (tn:Nat→Heap→Prop):Prop where
  mem:it ∈ fp
  obj:∀ i h,tn i h→∀ b ∈ fp,∃ o,h.get? b=some o∧∀ v,o.data ≠ .cell v
  keep:∀ i h h',tn i h→(∀ b ∈ fp,∀ o,h.get? b=some o→h'.get? b=some o)→tn i h'
  item:∀ (X:Cx),X.prog=P→X.w=w→X.K=K→X.calm=true→∀ (i:Nat) (pins:List (Addr × Obj)) (s:Shared) (σ:St) (H:Hp) (E:Value→Shared→Prop),Inv X pins σ H s→(∀ b ∈ fp,FpOk X pins H b)→tn i s.heap→J.go i H →
    wpAny (model P w) X.A (pyNext (.ref it)) (fun r s1=>∃ u,r=some u ∧
      wpAny (model P w) X.A (letOwnedTupleGo tg (.ref it) u) (fun _ s2=>∃ x H',Inv X pins σ H' s2∧RelV x u∧J.yld i H x H'∧tn (i + 1) s2.heap∧∀ b ∈ fp,H' b=none) E s1) E s
  done:∀ (X:Cx),X.prog=P→X.w=w→X.K=K→X.calm=true→∀ (i:Nat) (pins:List (Addr × Obj)) (s:Shared) (σ:St) (H:Hp) (E:Value→Shared→Prop),Inv X pins σ H s→(∀ b ∈ fp,FpOk X pins H b)→tn i s.heap→J.stop i H →
    wpAny (model P w) X.A (pyNext (.ref it)) (fun r s1=>r=none∧Inv X pins σ H s1) E s
  self:∀ (A:Around) (i:Nat) (s:Shared) (Q:Value→Shared→Prop) (E:Value→Shared→Prop),tn i s.heap→Q (.ref it) s→wpAny (model P w) A (pyIter (.ref it)) Q E s
abbrev TI:=St→Hp→(It→Hp→Prop)→Prop
def PIE (X:Cx) (pins:List (Addr × Obj)) (σ:St) (tg:Expr) (R:It→Hp→Prop) (itv:Value) (s2:Shared):Prop :=
  ∃ (it:Addr) (fp:List Addr) (tn:Nat→Heap→Prop) (J:It) (H':Hp),itv=.ref it∧Inv X pins σ H' s2∧Turn X.prog X.w X.K tg J fp it tn∧tn 0 s2.heap∧(∀ b ∈ fp,FpOk X pins H' b)∧R J H'
def PI (X:Cx) (tg iter:Expr) (wi:TI):Prop :=
  ∀ (pins:List (Addr × Obj)) (s:Shared) (σ:St) (H:Hp) (R:It→Hp→Prop),Inv X pins σ H s→wi σ H R →
    wpAny (model X.prog X.w) X.A (eval iter X.env) (fun v s1=>wpAny (model X.prog X.w) X.A (pyIter v) (PIE X pins σ tg R) X.xe s1) X.xe s
theorem go_of {M:Model} {A:Around} {E:Value→Shared→Prop} {s:Shared} {tg:Expr} {it:Addr} {u:Value} {o:Obj} {n:String} {vs:Array Value} {Q:Unit→Shared→Prop} (ho:s.heap.get? it=some o) (hc:o.cls=.type n) (hd:o.data=.fields vs)
    (hn:["enumerate","zip","dict_itemiterator","dict_reverseitemiterator","odict_iterator","itertools.zip_longest","itertools.pairwise"].contains n=false) (hQ:Q () s):wpAny M A (letOwnedTupleGo tg (.ref it) u) Q E s:=by
  unfold letOwnedTupleGo
  cases tg <;> first
    | exact wpAny_pure hQ
    | (cases u <;> first
        | exact wpAny_pure hQ
        | (refine wpAny_bind (wpAny_load ho ?_)
           rw [hc,hd]
           show wpAny M A (if (["enumerate","zip","dict_itemiterator","dict_reverseitemiterator","odict_iterator","itertools.zip_longest","itertools.pairwise"].contains n && vs[0]? == some (rawInt _))=true then _ else _) Q E s
           rw [if_neg (by intro h; rw [hn,Bool.false_and] at h; cases h)]
           exact wpAny_pure hQ))
def Itl (K:PySem.W.Frag) (a:Addr):It :=
  ⟨fun i H=>∃ xs x,SqL K H a xs∧xs[i]?=some x,fun i H x H'=>H'=H∧∀ xs,SqL K H a xs→xs[i]?=some x,fun i H=>∃ xs,SqL K H a xs∧xs.length ≤ i⟩
def Itt (K:PySem.W.Frag) (a:Addr):It :=
  ⟨fun i H=>∃ xs x,SqT K H a xs∧xs[i]?=some x,fun i H x H'=>H'=H∧∀ xs,SqT K H a xs→xs[i]?=some x,fun i H=>∃ xs,SqT K H a xs∧xs.length ≤ i⟩
def Itr (lo:Int) (n:Nat):It:=⟨fun i _=>i < n,fun i H x H'=>H'=H∧x=.int (lo + i),fun i _=>n ≤ i⟩
theorem turn_list {P:Program} {w:World} {K:PySem.W.Frag} {tg:Expr} (a it:Addr):Turn P w K tg (Itl K a) [it] it (fun i h=>h.IsListIter it a i) where
  mem:=by simp
  obj:=fun i h st b hb=>by
    have e:b=it:=by simpa using hb
    subst e
    obtain ⟨o,e,c,d⟩:=st
    exact ⟨o,e,fun v z=>by rw [d] at z; cases z⟩
  keep:=fun i h h' st k=>st.at fun o e=>k it (by simp) o e
  item:=by
    intro X hP hw hK hc i pins s σ H E I hf st hg
    subst hP hw hK
    obtain ⟨xs,x,hq,hx⟩:=hg
    obtain ⟨its,rv,p,hz⟩:=I.list hq
    obtain ⟨u,hu,ru⟩:=rv.get hx
    obtain ⟨f0,f1,f2,f3,f4,f5⟩:=hf it (by simp)
    refine wpAny_pyNext_list_item st p.isList (x:=u) (by simpa using hu) fun h' st' sb=>?_
    have I1:Inv X pins σ H { s with heap:=h' }:=I.turned (t':=s.toks) (fun b o hb e=>(sb.2 b hb).trans e) f0 f1 f3 f4 f5
    obtain ⟨o,e,c,d⟩:=id st'
    exact ⟨u,rfl,go_of (s:={ s with heap:=h' }) e c d (by decide) ⟨x,H,I1,ru,⟨rfl,fun ys hy=>by rw [I.list_inj hy hq]; exact hx⟩,st',fun b hb=>(hf b hb).1⟩⟩
  done:=by
    intro X hP hw hK hc i pins s σ H E I hf st hg
    subst hP hw hK
    obtain ⟨xs,hq,hx⟩:=hg
    obtain ⟨its,rv,p,hz⟩:=I.list hq
    obtain ⟨f0,f1,f2,f3,f4,f5⟩:=hf it (by simp)
    have hl:=rv.length
    exact wpAny_pyNext_list_end (I.ok.hd hc) st p.isList (by simp; omega) fun h' eb=>⟨rfl,I.turned (t':=s.toks) (fun b o hb e=>eb b o hb e) f0 f1 f3 f4 f5⟩
  self:=fun _ _ _ _ _ st h=>wpAny_pyIter_listiter st h
theorem turn_tuple {P:Program} {w:World} {K:PySem.W.Frag} {tg:Expr} (a it:Addr):Turn P w K tg (Itt K a) [it] it (fun i h=>h.IsTupleIter it a i) where
  mem:=by simp
  obj:=fun i h st b hb=>by
    have e:b=it:=by simpa using hb
    subst e
    obtain ⟨o,e,c,d⟩:=st
    exact ⟨o,e,fun v z=>by rw [d] at z; cases z⟩
  keep:=fun i h h' st k=>st.at fun o e=>k it (by simp) o e
  item:=by
    intro X hP hw hK hc i pins s σ H E I hf st hg
    subst hP hw hK
    obtain ⟨xs,x,hq,hx⟩:=hg
    obtain ⟨its,rv,p,hz⟩:=I.tuple hq
    obtain ⟨u,hu,ru⟩:=rv.get hx
    obtain ⟨f0,f1,f2,f3,f4,f5⟩:=hf it (by simp)
    refine wpAny_pyNext_tuple_item st (show s.heap.IsTuple a its.toArray from p) (x:=u) (by simpa using hu) fun h' st' sb=>?_
    have I1:Inv X pins σ H { s with heap:=h' }:=I.turned (t':=s.toks) (fun b o hb e=>(sb.2 b hb).trans e) f0 f1 f3 f4 f5
    obtain ⟨o,e,c,d⟩:=id st'
    exact ⟨u,rfl,go_of (s:={ s with heap:=h' }) e c d (by decide) ⟨x,H,I1,ru,⟨rfl,fun ys hy=>by rw [I.tuple_inj hy hq]; exact hx⟩,st',fun b hb=>(hf b hb).1⟩⟩
  done:=by
    intro X hP hw hK hc i pins s σ H E I hf st hg
    subst hP hw hK
    obtain ⟨xs,hq,hx⟩:=hg
    obtain ⟨its,rv,p,hz⟩:=I.tuple hq
    obtain ⟨f0,f1,f2,f3,f4,f5⟩:=hf it (by simp)
    have hl:=rv.length
    exact wpAny_pyNext_tuple_end (I.ok.hd hc) st (show s.heap.IsTuple a its.toArray from p) (by simp; omega) fun h' eb=>⟨rfl,I.turned (t':=s.toks) (fun b o hb e=>eb b o hb e) f0 f1 f3 f4 f5⟩
  self:=fun _ _ _ _ _ st h=>wpAny_pyIter_tupleiter st h
theorem turn_range {P:Program} {w:World} {K:PySem.W.Frag} {tg:Expr} (it:Addr) (lo:Int) (n:Nat):Turn P w K tg (Itr lo n) [it] it (fun i h=>IsRangeIter h it (lo + (i:Nat) * 1) ((n:Int) - (i:Nat)) 1) where
  mem:=by simp
  obj:=fun i h st b hb=>by
    have e:b=it:=by simpa using hb
    subst e
    exact ⟨_,st,fun v z=>by
      have z':Data.fields _=Data.cell v:=z
      cases z'⟩
  keep:=fun i h h' st k=>k it (by simp) _ st
  item:=by
    intro X hP hw hK hc i pins s σ H E I hf st hg
    subst hP hw hK
    obtain ⟨f0,f1,f2,f3,f4,f5⟩:=hf it (by simp)
    have W:=Walks.range (prog:=X.prog) (w:=X.w) (I.ok.hd hc) it lo 1 n
    refine W.item i s _ _ hg st fun v h' tk hv st' kk=>?_
    obtain ⟨t,rfl⟩:=hv
    have I1:Inv X pins σ H { s with heap:=h',toks:=tk }:=I.turned (fun b o hb e=>kk b o (by simpa using hb) e) f0 f1 f3 f4 f5
    refine ⟨_,rfl,go_of (s:={ s with heap:=h',toks:=tk }) (n:="range_iterator") st' rfl rfl (by decide) ⟨.int (lo + i),H,I1,⟨t,?_⟩,⟨rfl,rfl⟩,st',fun b hb=>(hf b hb).1⟩⟩
    rw [Int.mul_one]
  done:=by
    intro X hP hw hK hc i pins s σ H E I hf st hg
    subst hP hw hK
    obtain ⟨f0,f1,f2,f3,f4,f5⟩:=hf it (by simp)
    exact wpAny_pyNext_range_end (I.ok.hd hc) st (by have:n ≤ i:=hg; omega) fun h' eb=>⟨rfl,I.turned (t':=s.toks) (fun b o hb e=>eb b o hb e) f0 f1 f3 f4 f5⟩
  self:=fun _ _ _ _ _ st h=>wpAny_pyIter_rangeiter st h
end L2
namespace L2
open PySem PySem.Spec PyProof.Rows
section
variable {X:Cx} {tg:Expr}
def iList (K:PySem.W.Frag) (tl:TE):TI:=fun σ H R=>tl σ H fun x H1=>∃ a,x=.ref a∧(∃ xs,SqL K H1 a xs)∧R (Itl K a) H1
def iTup (K:PySem.W.Frag) (tl:TE):TI:=fun σ H R=>tl σ H fun x H1=>∃ a,x=.ref a∧(∃ xs,SqT K H1 a xs)∧R (Itt K a) H1
theorem pi_list {l:Expr} {tl:TE} (hl:PE X l tl):PI X tg l (iList X.K tl):=by
  intro pins s σ H R I h
  refine thn (hl pins s σ H _ I h) fun v s1 ⟨x,H1,I1,r1,q1⟩=>?_
  obtain ⟨a,e,⟨xs,hq⟩,q⟩:=q1
  subst e
  cases r1
  obtain ⟨its,rv,p,hz⟩:=I1.list hq
  refine wpAny_pyIter_list p.isList ?_
  refine ⟨s1.heap.objs.size,[s1.heap.objs.size],_,_,H1,rfl,I1.kept (t':=s1.toks) fun b o e=>Heap.get?_push_of_some _ e,turn_list a _,⟨_,Heap.get?_push_size _ rfl,rfl,rfl⟩,fun b hb=>?_,q⟩
  have e:b=s1.heap.objs.size:=by simpa using hb
  subst e
  exact I1.fpOk (Nat.le_refl _) (I1.hok.fresh (Nat.le_refl _))
theorem pi_tup {l:Expr} {tl:TE} (hl:PE X l tl):PI X tg l (iTup X.K tl):=by
  intro pins s σ H R I h
  refine thn (hl pins s σ H _ I h) fun v s1 ⟨x,H1,I1,r1,q1⟩=>?_
  obtain ⟨a,e,⟨xs,hq⟩,q⟩:=q1
  subst e
  cases r1
  obtain ⟨its,rv,p,hz⟩:=I1.tuple hq
  refine wpAny_pyIter_tuple (show s1.heap.IsTuple a its.toArray from p) ?_
  refine ⟨s1.heap.objs.size,[s1.heap.objs.size],_,_,H1,rfl,I1.kept (t':=s1.toks) fun b o e=>Heap.get?_push_of_some _ e,turn_tuple a _,⟨_,Heap.get?_push_size _ rfl,rfl,rfl⟩,fun b hb=>?_,q⟩
  have e:b=s1.heap.objs.size:=by simpa using hb
  subst e
  exact I1.fpOk (Nat.le_refl _) (I1.hok.fresh (Nat.le_refl _))
theorem range_it {pins:List (Addr × Obj)} {σ:St} {H:Hp} {s:Shared} {R:It→Hp→Prop} {E:Value→Shared→Prop} {lo hi:Int} {t u v:Tok} {tk:Nat} (I:Inv X pins σ H s) (h1:-(2 ^ 62) ≤ lo) (h2:lo < 2 ^ 62) (h3:-(2 ^ 62) ≤ hi) (h4:hi < 2 ^ 62)
    (q:R (Itr lo (hi - lo).toNat) H):wpAny (model X.prog X.w) X.A (pyIter (.ref s.heap.objs.size)) (PIE X pins σ tg R) E { s with heap:=s.heap.push { cls:=.type "range",data:=.fields #[.int lo t,.int hi u,.int 1 v] },toks:=tk }:=by
  refine wpAny_pyIter_range (IsRange.new ..) (small_one h1 h2 h3 h4) ?_
  have I1:Inv X pins σ H { s with heap:=s.heap.push { cls:=.type "range",data:=.fields #[.int lo t,.int hi u,.int 1 v] },toks:=tk }:=I.kept fun b o e=>Heap.get?_push_of_some _ e
  refine ⟨(s.heap.push { cls:=.type "range",data:=.fields #[.int lo t,.int hi u,.int 1 v] }).objs.size,[(s.heap.push { cls:=.type "range",data:=.fields #[.int lo t,.int hi u,.int 1 v] }).objs.size],_,_,H,rfl,
    I1.kept (t':=tk) fun b o e=>Heap.get?_push_of_some _ e,turn_range _ lo (hi - lo).toNat,?_,fun b hb=>?_,q⟩
  · have e1:lo + ((0:Nat):Int) * 1=lo:=by simp
    have e2:(((hi - lo).toNat:Nat):Int) - ((0:Nat):Int)=Builtin.Range.rangeSize lo hi 1:=by rw [rangeSize_one]; split <;> omega
    show IsRangeIter _ _ (lo + ((0:Nat):Int) * 1) ((((hi - lo).toNat:Nat):Int) - ((0:Nat):Int)) 1
    rw [e1,e2]
    exact Heap.get?_push_size _ rfl
  · have e:b=(s.heap.push { cls:=.type "range",data:=.fields #[.int lo t,.int hi u,.int 1 v] }).objs.size:=by simpa using hb
    subst e
    exact I1.fpOk (Nat.le_refl _) (I1.hok.fresh (Nat.le_refl _))
def iRng1 (ta:TA):TI:=fun σ H R=>ta σ H fun vs H1=>∃ j:Int,vs=[.int j]∧-(2 ^ 62) ≤ j∧j < 2 ^ 62∧R (Itr 0 j.toNat) H1
theorem pi_range1 {a:Expr} {ta:TA} {p pos:Pos} (hg:Gl X "range") (hm:X.mg "range"=none) (ha:PA X [a] ta) (hs:starEach [a] X.env=[(false,eval a X.env)]:=by rfl):PI X tg (.Call (.Name "range" p) [a] [] pos) (iRng1 ta):=by
  intro pins s σ H R I h
  refine Call_ (ld_blt I hg hm boot_range (PyProof.Rows.callWith_type1 (thn (ha pos pins s σ H _ I h) fun us s1 ⟨vs,H1,I1,r1,q1⟩=>?_) hs rfl))
  obtain ⟨j,e,q1,q2,q⟩:=q1
  subst e
  cases r1 with
  | cons r rr =>
    cases rr
    obtain ⟨t,rfl⟩:=r
    exact call_range_1 (range_it I1 (by omega) (by omega) q1 q2 (by simpa using q))
def tFor (wi:TI) (g:TG) (tb:TS):TS:=fun D σ H=>wi σ H fun J H1=>∃ W:Nat→Nat→St→Hp→Prop,(∃ m,W 0 m σ H1)∧∀ i m σ H,W i m σ H →
  (J.stop i H∧D.nx σ H) ∨ (J.go i H∧∃ N:St→Hp→Prop,(∀ σ' H',N σ' H'→∃ m',m' < m∧W (i + 1) m' σ' H')∧∀ x H',J.yld i H x H'→g x σ H' fun σ2 H2=>tb { D with nx:=N,ct:=N,bk:=D.nx } σ2 H2)
def pinsAt (fp:List Addr) (h:Heap):List (Addr × Obj):=fp.filterMap fun b=>(h.get? b).map fun o=>(b,o)
theorem mem_pinsAt {fp:List Addr} {h:Heap} {b:Addr} {o:Obj} (hb:b ∈ fp) (e:h.get? b=some o):(b,o) ∈ pinsAt fp h:=List.mem_filterMap.mpr ⟨b,hb,by rw [e]; rfl⟩
theorem of_pinsAt {fp:List Addr} {h:Heap} {p:Addr × Obj} (hp:p ∈ pinsAt fp h):p.1 ∈ fp∧h.get? p.1=some p.2:=by
  obtain ⟨b,hb,e⟩:=List.mem_filterMap.mp hp
  cases q:h.get? b with
  | none=>rw [q] at e; cases e
  | some o =>
    rw [q] at e
    have e':(b,o)=p:=Option.some.inj e
    subst e'
    exact ⟨hb,q⟩
theorem Inv.pinned {pins:List (Addr × Obj)} {σ:St} {H:Hp} {s:Shared} {fp:List Addr} (I:Inv X pins σ H s) (hf:∀ b ∈ fp,FpOk X pins H b) (ho:∀ b ∈ fp,∃ o,s.heap.get? b=some o∧∀ v,o.data ≠ .cell v):Inv X (pins ++ pinsAt fp s.heap) σ H s :=
  I.pins_of fun p hp=>(List.mem_append.mp hp).elim (fun z=>I.pin p (List.mem_append_right _ z)) fun z=>by
    obtain ⟨hb,e⟩:=of_pinsAt z
    obtain ⟨f0,f1,f2,_⟩:=hf p.1 hb
    obtain ⟨o,e',d⟩:=ho p.1 hb
    rw [e] at e'; cases e'
    exact ⟨e,f0,f1,f2,d⟩
theorem Inv.unpinned {pins pl:List (Addr × Obj)} {σ:St} {H:Hp} {s:Shared} (I:Inv X (pins ++ pl) σ H s):Inv X pins σ H s:=I.pins_of fun p hp=>I.pin p (List.mem_append_right _ (List.mem_append_left _ hp))
theorem ps_for {iter:Expr} {body:List Stmt} {wi:TI} {g:TG} {tb:TS} {pos:Pos} (hp:PassesOwn (model X.prog X.w) X.A X.env X.xe) (hc:X.calm=true) (hi:PI X tg iter wi) (hg:PG X tg g) (hb:PSs X body tb)
    (hs:∀ x,foldedSetIterable iter X.env x=pure x:=by intro _; rfl):PS X (.For tg iter body [] pos) (tFor wi g tb):=by
  intro pins s σ H D I h
  refine wpAny_For (thn (hi pins s σ H _ I h) fun v s1 h1=>thn h1 fun itv s2 h2=>?_) hs
  obtain ⟨it,fp,tn,J,H2,e,I2,T,st2,f2,W,⟨m0,w0⟩,turn⟩:=h2
  subst e
  -- what stays true of the iterator's objects through the loop
  have stat:∀ {H':Hp},(∀ b ∈ fp,H' b=none)→∀ b ∈ fp,FpOk X pins H' b:=fun hn b hb=>⟨hn b hb,(f2 b hb).2⟩
  refine codeAny_forLoop_any (fun n s'=>∃ i σ' H',Inv X pins σ' H' s'∧tn i s'.heap∧(∀ b ∈ fp,H' b=none)∧W i n σ' H') ?_ m0 ⟨0,σ,H2,I2,st2,fun b hb=>(f2 b hb).1,w0⟩
  rintro n s3 ⟨i,σ3,H3,I3,st3,fr3,w3⟩
  rcases turn i n σ3 H3 w3 with ⟨stop,qn⟩ | ⟨go,N,hN,step⟩
  · refine wpAny_passesOwn hp (thn (T.done X rfl rfl rfl hc i pins s3 σ3 H3 X.xe I3 (stat fr3) st3 stop) fun r s4 ⟨hr,I4⟩=>?_)
    subst hr
    exact wpAny_execs_nil ⟨σ3,H3,I4,qn⟩
  · refine wpAny_passesOwn hp (thn (T.item X rfl rfl rfl hc i pins s3 σ3 H3 X.xe I3 (stat fr3) st3 go) fun r s4 ⟨u,hr,h4⟩=>?_)
    subst hr
    refine wpAny_passesOwn hp (thn h4 fun _ s5 ⟨x,H5,I5,r5,y5,st5,fr5⟩=>?_)
    have I5':=I5.pinned (stat fr5) (T.obj _ _ st5)
    refine wpAny_passesOwn hp (thn (hg _ s5 σ3 H5 x u _ I5' r5 (step x H5 y5)) fun _ s6 ⟨σ6,H6,I6,q6⟩=>?_)
    refine wpAny_passesOwn hp (thn (hb _ s6 σ6 H6 _ I6 q6) fun f s7 q7=>?_)
    have again:∀ {σ7:St} {H7:Hp},Inv X (pins ++ pinsAt fp s5.heap) σ7 H7 s7→N σ7 H7→∃ m,m < n∧∃ i σ' H',Inv X pins σ' H' s7∧tn i s7.heap∧(∀ b ∈ fp,H' b=none)∧W i m σ' H':=fun {σ7 H7} I7 n7=>by
      obtain ⟨m',hm,w7⟩:=hN σ7 H7 n7
      refine ⟨m',hm,i + 1,σ7,H7,I7.unpinned,T.keep _ _ _ st5 fun b hb o e=>(I7.pin (b,o) (List.mem_append_right _ (List.mem_append_right _ (mem_pinsAt hb e)))).1,fun b hb=>?_,w7⟩
      obtain ⟨o,e,d⟩:=T.obj _ _ st5 b hb
      exact (I7.pin (b,o) (List.mem_append_right _ (List.mem_append_right _ (mem_pinsAt hb e)))).2.1
    cases f with
    | next=>obtain ⟨σ7,H7,I7,n7⟩:=q7; exact again I7 n7
    | cont=>obtain ⟨σ7,H7,I7,n7⟩:=q7; exact again I7 n7
    | brk=>obtain ⟨σ7,H7,I7,q7⟩:=q7; exact ⟨σ7,H7,I7.unpinned,q7⟩
    | ret v=>obtain ⟨x7,σ7,H7,I7,r7,q7⟩:=q7; exact ⟨x7,σ7,H7,I7.unpinned,r7,q7⟩
end
theorem for_list {K:PySem.W.Frag} {a:Addr} {xs:List V} {g:TG} {tb:TS} {D:Ends} {σ:St} {H:Hp} (Pv:Nat→St→Hp→Prop) (h0:Pv 0 σ H) (hl:∀ i σ H,i ≤ xs.length→Pv i σ H→SqL K H a xs)
    (hs:∀ i x σ H,xs[i]?=some x→Pv i σ H→g x σ H fun σ2 H2=>tb { D with nx:=Pv (i + 1),ct:=Pv (i + 1),bk:=D.nx } σ2 H2) (hd:∀ σ H,Pv xs.length σ H→D.nx σ H) :
    ∃ W:Nat→Nat→St→Hp→Prop,(∃ m,W 0 m σ H)∧∀ i m σ H,W i m σ H →
      ((Itl K a).stop i H∧D.nx σ H) ∨ ((Itl K a).go i H∧∃ N:St→Hp→Prop,(∀ σ' H',N σ' H'→∃ m',m' < m∧W (i + 1) m' σ' H')∧∀ x H',(Itl K a).yld i H x H'→g x σ H' fun σ2 H2=>tb { D with nx:=N,ct:=N,bk:=D.nx } σ2 H2):=by
  refine ⟨fun i m σ H=>m=xs.length - i∧i ≤ xs.length∧Pv i σ H,⟨xs.length,by simp,Nat.zero_le _,h0⟩,?_⟩
  rintro i m σ H ⟨rfl,hi,p⟩
  have q:=hl i σ H hi p
  by_cases hlt:i < xs.length
  · refine .inr ⟨⟨xs,xs[i],q,by simp [hlt]⟩,Pv (i + 1),fun σ' H' p'=>⟨xs.length - (i + 1),by omega,rfl,hlt,p'⟩,fun x H' y=>?_⟩
    obtain ⟨e,y⟩:=y
    subst e
    exact hs i x σ _ (y xs q) p
  · have e:i=xs.length:=by omega
    subst e
    exact .inl ⟨⟨xs,q,Nat.le_refl _⟩,hd σ H p⟩
theorem for_range {lo:Int} {n:Nat} {g:TG} {tb:TS} {D:Ends} {σ:St} {H:Hp} (Pv:Nat→St→Hp→Prop) (h0:Pv 0 σ H)
    (hs:∀ i σ H,i < n→Pv i σ H→g (.int (lo + i)) σ H fun σ2 H2=>tb { D with nx:=Pv (i + 1),ct:=Pv (i + 1),bk:=D.nx } σ2 H2) (hd:∀ σ H,Pv n σ H→D.nx σ H) :
    ∃ W:Nat→Nat→St→Hp→Prop,(∃ m,W 0 m σ H)∧∀ i m σ H,W i m σ H →
      ((Itr lo n).stop i H∧D.nx σ H) ∨ ((Itr lo n).go i H∧∃ N:St→Hp→Prop,(∀ σ' H',N σ' H'→∃ m',m' < m∧W (i + 1) m' σ' H')∧∀ x H',(Itr lo n).yld i H x H'→g x σ H' fun σ2 H2=>tb { D with nx:=N,ct:=N,bk:=D.nx } σ2 H2):=by
  refine ⟨fun i m σ H=>m=n - i∧i ≤ n∧Pv i σ H,⟨n,by simp,Nat.zero_le _,h0⟩,?_⟩
  rintro i m σ H ⟨rfl,hi,p⟩
  by_cases hlt:i < n
  · refine .inr ⟨hlt,Pv (i + 1),fun σ' H' p'=>⟨n - (i + 1),by omega,rfl,hlt,p'⟩,fun x H' y=>?_⟩
    obtain ⟨e,y⟩:=y
    subst e y
    exact hs i σ _ hlt p
  · have e:i=n:=by omega
    subst e
    exact .inl ⟨Nat.le_refl _,hd σ H p⟩
end L2
namespace L2
open PySem PySem.Spec PyProof.Rows
abbrev R2:=V→V→Hp→VK→Prop
def OpR (X:Cx) (f:Value→Value→Sem Value) (r:R2):Prop :=
  ∀ (pins:List (Addr × Obj)) (s:Shared) (σ:St) (H:Hp) (x y:V) (v u:Value) (Q:VK),Inv X pins σ H s→RelV x v→RelV y u→r x y H Q →
    wpAny (model X.prog X.w) X.A (f v u) (EP X pins σ Q) X.xe s
def UnR (X:Cx) (f:Value→Sem Value) (r:V→Hp→VK→Prop):Prop :=
  ∀ (pins:List (Addr × Obj)) (s:Shared) (σ:St) (H:Hp) (x:V) (v:Value) (Q:VK),Inv X pins σ H s→RelV x v→r x H Q →
    wpAny (model X.prog X.w) X.A (f v) (EP X pins σ Q) X.xe s
def CallR (X:Cx) (f:Value) (r:List V→Hp→VK→Prop):Prop :=
  ∀ (pins:List (Addr × Obj)) (s:Shared) (σ:St) (H:Hp) (xs:List V) (us:List Value) (Q:VK),Inv X pins σ H s→Vals xs us→r xs H Q →
    wpAny (model X.prog X.w) X.A (call f us) (EP X pins σ Q) X.xe s
def tOp (r:R2) (ta tb:TE):TE:=fun σ H Q=>ta σ H fun x H1=>tb σ H1 fun y H2=>r x y H2 Q
def tUn (r:V→Hp→VK→Prop) (ta:TE):TE:=fun σ H Q=>ta σ H fun x H1=>r x H1 Q
def rI (C:Int→Int→Prop) (g:Int→Int→V):R2:=fun x y H Q=>∃ i j,x=.int i∧y=.int j∧C i j∧Q (g i j) H
def rI0 (g:Int→Int→V):R2:=fun x y H Q=>∃ i j,x=.int i∧y=.int j∧Q (g i j) H
def rU (g:Int→V):V→Hp→VK→Prop:=fun x H Q=>∃ i,x=.int i∧Q (g i) H
section
variable {X:Cx} {a b c:Expr} {ta tb tc:TE} {pos:Pos}
theorem binT (ha:PE X a ta) (hb:PE X b tb) {pins:List (Addr × Obj)} {s:Shared} {σ:St} {H:Hp} {R:V→V→Hp→Prop} (I:Inv X pins σ H s)
    (h:ta σ H fun x H1=>tb σ H1 fun y H2=>R x y H2) {Q:Value→Shared→Prop} {f:Value→Value→Sem Value}
    (hf:∀ v u s2 x y H2,Inv X pins σ H2 s2→RelV x v→RelV y u→R x y H2→wpAny (model X.prog X.w) X.A (f v u) Q X.xe s2) :
    wpAny (model X.prog X.w) X.A (eval a X.env) (fun v s₁=>wpAny (model X.prog X.w) X.A (eval b X.env) (fun u s₂=>wpAny (model X.prog X.w) X.A (f v u) Q X.xe s₂) X.xe s₁) X.xe s:=by
  refine thn (ha pins s σ H _ I h) fun v s1 ⟨x,H1,I1,r1,q1⟩=>?_
  refine thn (hb pins s1 σ H1 _ I1 q1) fun u s2 ⟨y,H2,I2,r2,q2⟩=>?_
  exact hf v u s2 x y H2 I2 r1 r2 q2
theorem pe_op {op:Operator} {r:R2} (ho:OpR X (binaryOp op) r) (ha:PE X a ta) (hb:PE X b tb):PE X (.BinOp a op b pos) (tOp r ta tb):=by
  intro pins s σ H Q I h
  exact wpAny_BinOp (binT ha hb I h fun v u s2 x y H2 I2 rx ry q=>ho pins s2 σ H2 x y v u Q I2 rx ry q)
theorem pe_un {op:UnaryOp} {r:V→Hp→VK→Prop} (ho:UnR X (unaryOp op) r) (ha:PE X a ta):PE X (.UnaryOp op a pos) (tUn r ta):=by
  intro pins s σ H Q I h
  exact UnaryOp_ (thn (ha pins s σ H _ I h) fun v s1 ⟨x,H1,I1,r1,q1⟩=>ho pins s1 σ H1 x v Q I1 r1 q1)
theorem opI {f:Value→Value→Sem Value} {C:Int→Int→Prop} {g:Int→Int→Int}
    (rule:∀ (i j:Int) (t u:Tok) (s:Shared) (Q:Value→Shared→Prop) (E:Value→Shared→Prop),C i j→Q (.int (g i j) s.toks) { s with toks:=s.toks + 1 }→wpAny (model X.prog X.w) X.A (f (.int i t) (.int j u)) Q E s) :
    OpR X f (rI C fun i j=>.int (g i j)):=by
  intro pins s σ H x y v u Q I rx ry h
  obtain ⟨i,j,rfl,rfl,hc,q⟩:=h
  obtain ⟨t,rfl⟩:=rx
  obtain ⟨t',rfl⟩:=ry
  exact rule i j t t' s _ _ hc ⟨.int (g i j),H,I.tok _,⟨_,rfl⟩,q⟩
theorem opI0 {f:Value→Value→Sem Value} {g:Int→Int→Int}
    (rule:∀ (i j:Int) (t u:Tok) (s:Shared) (Q:Value→Shared→Prop) (E:Value→Shared→Prop),Q (.int (g i j) s.toks) { s with toks:=s.toks + 1 }→wpAny (model X.prog X.w) X.A (f (.int i t) (.int j u)) Q E s) :
    OpR X f (rI0 fun i j=>.int (g i j)):=by
  intro pins s σ H x y v u Q I rx ry h
  obtain ⟨i,j,rfl,rfl,q⟩:=h
  obtain ⟨t,rfl⟩:=rx
  obtain ⟨t',rfl⟩:=ry
  exact rule i j t t' s _ _ ⟨.int (g i j),H,I.tok _,⟨_,rfl⟩,q⟩
theorem opB0 {f:Value→Value→Sem Value} {g:Int→Int→Bool}
    (rule:∀ (i j:Int) (t u:Tok) (s:Shared) (Q:Value→Shared→Prop) (E:Value→Shared→Prop),Q (.bool (g i j)) s→wpAny (model X.prog X.w) X.A (f (.int i t) (.int j u)) Q E s) :
    OpR X f (rI0 fun i j=>.bl (g i j)):=by
  intro pins s σ H x y v u Q I rx ry h
  obtain ⟨i,j,rfl,rfl,q⟩:=h
  obtain ⟨t,rfl⟩:=rx
  obtain ⟨t',rfl⟩:=ry
  exact rule i j t t' s _ _ ⟨.bl (g i j),H,I,rfl,q⟩
def CDiv (i j:Int):Prop:=0 < j∧j < 1073741824
def CPow (i j:Int):Prop:=0 ≤ j∧j ≤ 1000000∧i.natAbs < 2 ^ 64
def CMul (i j:Int):Prop:=(-(2 ^ 64) < i∧i < 2 ^ 64) ∨ (-(2 ^ 64) < j∧j < 2 ^ 64)
theorem CMul.ok {i j:Int} (h:CMul i j):IntMulOk i j:=by
  rcases h with ⟨h1,h2⟩ | ⟨h1,h2⟩
  · exact .of_left (intBits_le_64 h1 h2)
  · exact .of_right (intBits_le_64 h1 h2)
theorem op_add:OpR X (binaryOp .Add) (rI0 fun i j=>.int (i + j)):=opI0 fun _ _ _ _ _ _ _ q=>add_int q
theorem op_sub:OpR X (binaryOp .Sub) (rI0 fun i j=>.int (i - j)):=opI0 fun _ _ _ _ _ _ _ q=>sub_int q
theorem op_mul:OpR X (binaryOp .Mult) (rI CMul fun i j=>.int (i * j)):=opI fun _ _ _ _ _ _ _ hc q=>mul_int q hc.ok
theorem op_fdiv:OpR X (binaryOp .FloorDiv) (rI CDiv fun i j=>.int (i / j)):=opI fun i j _ _ _ _ _ hc q=>by
  have h1:(0:Int) < j:=hc.1
  have h2:j < 1073741824:=hc.2
  exact floordiv_int (by omega) (by rw [Int.fdiv_eq_ediv_of_nonneg i (by omega)]; exact q) (.inl (PyProof.noPylong_small (by omega)))
theorem op_mod:OpR X (binaryOp .Mod) (rI (fun _ j=>0 < j) fun i j=>.int (i % j)):=opI fun i j _ _ _ _ _ hc q=>by
  have h1:(0:Int) < j:=hc
  exact mod_int' (by omega) (by rw [Int.fmod_eq_emod_of_nonneg i (by omega)]; exact q)
theorem op_pow:OpR X (binaryOp .Pow) (rI CPow fun i j=>.int (i ^ j.toNat)):=opI fun _ _ _ _ _ _ _ hc q=>pow_int_small hc.1 hc.2.1 hc.2.2 q
theorem unI {f:Value→Sem Value} {g:Int→Int}
    (rule:∀ (i:Int) (t:Tok) (s:Shared) (Q:Value→Shared→Prop) (E:Value→Shared→Prop),Q (.int (g i) s.toks) { s with toks:=s.toks + 1 }→wpAny (model X.prog X.w) X.A (f (.int i t)) Q E s) :
    UnR X f (rU fun i=>.int (g i)):=by
  intro pins s σ H x v Q I rx h
  obtain ⟨i,rfl,q⟩:=h
  obtain ⟨t,rfl⟩:=rx
  exact rule i t s _ _ ⟨.int (g i),H,I.tok _,⟨_,rfl⟩,q⟩
theorem un_neg:UnR X (unaryOp .USub) (rU fun i=>.int (-i)):=unI fun _ _ _ _ _ q=>neg_int q
end
def scal:V→V→Bool
  | .non,.non=>true | .non,.int _=>true | .int _,.non=>true | .non,.bl _=>true | .bl _,.non=>true | .non,.str _=>true | .str _,.non=>true
  | .int _,.int _=>true | .bl _,.bl _=>true | .str _,.str _=>true | .byt _,.byt _=>true
  | .int _,.str _=>true | .str _,.int _=>true | .bl _,.str _=>true | .str _,.bl _=>true
  | _,_=>false
def rEq:R2:=fun x y H Q=>scal x y=true∧Q (.bl (decide (x=y))) H
def rNe:R2:=fun x y H Q=>scal x y=true∧Q (.bl (!decide (x=y))) H
theorem dec_int {i j:Int}:decide (V.int i=V.int j)=(i == j):=by
  rw [Bool.eq_iff_iff]
  simp
theorem dec_bl {i j:Bool}:decide (V.bl i=V.bl j)=(i == j):=by
  rw [Bool.eq_iff_iff]
  simp
theorem dec_str {i j:Str}:decide (V.str i=V.str j)=(i == j):=by
  rw [Bool.eq_iff_iff]
  simp
theorem dec_byt {i j:Array UInt8}:decide (V.byt i=V.byt j)=(i.toList == j.toList):=by
  rw [Bool.eq_iff_iff]
  cases i
  cases j
  simp
section
variable {X:Cx} {a b c:Expr} {ta tb tc:TE} {pos:Pos}
theorem fin_bl {pins:List (Addr × Obj)} {σ:St} {H:Hp} {s:Shared} {Q:VK} {k k':Bool} (I:Inv X pins σ H s) (q:Q (.bl k) H) (e:k=k'):EP X pins σ Q (.bool k') s:=by
  subst e
  exact ⟨.bl k,H,I,rfl,q⟩
theorem op_eq:OpR X (compareOp .Eq) rEq:=by
  intro pins s σ H x y v u Q I rx ry h
  obtain ⟨hs,q⟩:=h
  cases x with
  | non =>
    cases rx
    cases y with
    | non=>cases ry; exact PySem.EqNone.eq_none_none (fin_bl I q (by simp))
    | bl j=>cases ry; exact PySem.EqNone.eq_none_bool (fin_bl I q (by simp))
    | int j=>obtain ⟨t',rfl⟩:=ry; exact PySem.EqNone.eq_none_int (fin_bl I q (by simp))
    | str j=>obtain ⟨t',rfl⟩:=ry; exact PySem.EqNone.eq_none_str (fin_bl I q (by simp))
    | _=>exact absurd (show false=true from hs) Bool.false_ne_true
  | bl i =>
    cases rx
    cases y with
    | non=>cases ry; exact PySem.EqNone.eq_bool_none (fin_bl I q (by simp))
    | bl j=>cases ry; exact eq_bool (fin_bl I q dec_bl)
    | str j=>obtain ⟨t',rfl⟩:=ry; exact PySem.EqMixed.eq_bool_str (fin_bl I q (by simp))
    | _=>exact absurd (show false=true from hs) Bool.false_ne_true
  | int i =>
    obtain ⟨t,rfl⟩:=rx
    cases y with
    | non=>cases ry; exact PySem.EqNone.eq_int_none (fin_bl I q (by simp))
    | int j=>obtain ⟨t',rfl⟩:=ry; exact eq_int (fin_bl I q dec_int)
    | str j=>obtain ⟨t',rfl⟩:=ry; exact PySem.EqMixed.eq_int_str (fin_bl I q (by simp))
    | _=>exact absurd (show false=true from hs) Bool.false_ne_true
  | str i =>
    obtain ⟨t,rfl⟩:=rx
    cases y with
    | non=>cases ry; exact PySem.EqNone.eq_str_none (fin_bl I q (by simp))
    | bl j=>cases ry; exact PySem.EqMixed.eq_str_bool (fin_bl I q (by simp))
    | int j=>obtain ⟨t',rfl⟩:=ry; exact PySem.EqMixed.eq_str_int (fin_bl I q (by simp))
    | str j=>obtain ⟨t',rfl⟩:=ry; exact eq_str (fin_bl I q dec_str)
    | _=>exact absurd (show false=true from hs) Bool.false_ne_true
  | byt i =>
    obtain ⟨t,rfl⟩:=rx
    cases y with
    | byt j=>obtain ⟨t',rfl⟩:=ry; exact PySem.W.eq_bytes (fin_bl I q dec_byt)
    | _=>exact absurd (show false=true from hs) Bool.false_ne_true
  | _=>cases y <;> exact absurd (show false=true from hs) Bool.false_ne_true
theorem op_ne:OpR X (compareOp .NotEq) rNe:=by
  intro pins s σ H x y v u Q I rx ry h
  obtain ⟨hs,q⟩:=h
  cases x with
  | non =>
    cases rx
    cases y with
    | non=>cases ry; exact PySem.EqNone.ne_none_none (fin_bl I q (by simp))
    | bl j=>cases ry; exact PySem.EqNone.ne_none_bool (fin_bl I q (by simp))
    | int j=>obtain ⟨t',rfl⟩:=ry; exact PySem.EqNone.ne_none_int (fin_bl I q (by simp))
    | str j=>obtain ⟨t',rfl⟩:=ry; exact PySem.EqNone.ne_none_str (fin_bl I q (by simp))
    | _=>exact absurd (show false=true from hs) Bool.false_ne_true
  | bl i =>
    cases rx
    cases y with
    | non=>cases ry; exact PySem.EqNone.ne_bool_none (fin_bl I q (by simp))
    | bl j=>cases ry; exact ne_bool (fin_bl I q (congrArg not dec_bl))
    | str j=>obtain ⟨t',rfl⟩:=ry; exact PySem.EqMixed.ne_bool_str (fin_bl I q (by simp))
    | _=>exact absurd (show false=true from hs) Bool.false_ne_true
  | int i =>
    obtain ⟨t,rfl⟩:=rx
    cases y with
    | non=>cases ry; exact PySem.EqNone.ne_int_none (fin_bl I q (by simp))
    | int j=>obtain ⟨t',rfl⟩:=ry; exact ne_int (fin_bl I q (congrArg not dec_int))
    | str j=>obtain ⟨t',rfl⟩:=ry; exact PySem.EqMixed.ne_int_str (fin_bl I q (by simp))
    | _=>exact absurd (show false=true from hs) Bool.false_ne_true
  | str i =>
    obtain ⟨t,rfl⟩:=rx
    cases y with
    | non=>cases ry; exact PySem.EqNone.ne_str_none (fin_bl I q (by simp))
    | bl j=>cases ry; exact PySem.EqMixed.ne_str_bool (fin_bl I q (by simp))
    | int j=>obtain ⟨t',rfl⟩:=ry; exact PySem.EqMixed.ne_str_int (fin_bl I q (by simp))
    | str j=>obtain ⟨t',rfl⟩:=ry; exact ne_str (fin_bl I q (congrArg not dec_str))
    | _=>exact absurd (show false=true from hs) Bool.false_ne_true
  | byt i =>
    obtain ⟨t,rfl⟩:=rx
    cases y with
    | byt j=>obtain ⟨t',rfl⟩:=ry; exact PySem.W.ne_bytes (fin_bl I q (congrArg not dec_byt))
    | _=>exact absurd (show false=true from hs) Bool.false_ne_true
  | _=>cases y <;> exact absurd (show false=true from hs) Bool.false_ne_true
theorem op_lt:OpR X (compareOp .Lt) (rI0 fun i j=>.bl (decide (i < j))):=opB0 fun _ _ _ _ _ _ _ q=>lt_int q
theorem op_le:OpR X (compareOp .LtE) (rI0 fun i j=>.bl (decide (i ≤ j))):=opB0 fun _ _ _ _ _ _ _ q=>le_int q
theorem op_gt:OpR X (compareOp .Gt) (rI0 fun i j=>.bl (decide (j < i))):=opB0 fun _ _ _ _ _ _ _ q=>gt_int q
theorem op_ge:OpR X (compareOp .GtE) (rI0 fun i j=>.bl (decide (j ≤ i))):=opB0 fun _ _ _ _ _ _ _ q=>ge_int q
theorem op_isN:OpR X (compareOp .Is) (fun x y H Q=>y=.non∧Q (.bl (decide (x=.non))) H):=by
  intro pins s σ H x y v u Q I rx ry h
  obtain ⟨rfl,q⟩:=h
  cases ry
  refine is_none_gen (fin_bl I q ?_)
  cases x <;> first
    | (cases rx; rfl)
    | (obtain ⟨t,rfl⟩:=rx; rfl)
theorem nomark (b:Expr) {op:CmpOp} (h:op ≠ .In:=by decide) (h2:op ≠ .NotIn:=by decide):behindInMarks op b=false:=by
  have e1:(op == CmpOp.In)=false:=by cases op <;> first | rfl | exact absurd rfl h
  have e2:(op == CmpOp.NotIn)=false:=by cases op <;> first | rfl | exact absurd rfl h2
  cases b <;> simp [behindInMarks,e1,e2]
theorem pe_cmpR {op:CmpOp} {r:R2} (ho:OpR X (compareOp op) r) (ha:PE X a ta) (hb:PE X b tb) (hm:behindInMarks op b=false):PE X (.Compare a [op] [b] pos) (tOp r ta tb):=by
  intro pins s σ H Q I h
  exact wpAny_Compare1 (binT ha hb I h fun v u s2 x y H2 I2 rx ry q=>ho pins s2 σ H2 x y v u Q I2 rx ry q) hm
def tTest (t:TE):TT:=fun σ H Q=>t σ H fun x H'=>∃ k,x=.bl k∧Q k H'
theorem pt_cmpR {op:CmpOp} {r:R2} (ho:OpR X (compareOp op) r) (ha:PE X a ta) (hb:PE X b tb) (hm:behindInMarks op b=false):PT X (.Compare a [op] [b] pos) (tTest (tOp r ta tb)):=by
  intro pins s σ H Q I h
  refine wpAny_isTrue_Compare1 (thn (ha pins s σ H _ I h) fun v s1 ⟨x,H1,I1,r1,q1⟩=>thn (hb pins s1 σ H1 _ I1 q1) fun u s2 ⟨y,H2,I2,r2,q2⟩ =>
    thn (ho pins s2 σ H2 x y v u _ I2 r1 r2 q2) fun c s3 ⟨z,H3,I3,r3,k,e,q3⟩=>?_) hm
  subst e
  cases r3
  exact wpAny_truthy_bool ⟨H3,I3,q3⟩
theorem line63:(sizeLine:Nat) < 2 ^ 63:=by rw [sizeLine_eq]; decide
theorem op_add_str:OpR X (binaryOp .Add) (fun x y H Q=>∃ i j,x=.str i∧y=.str j∧i.length + j.length ≤ sizeLine∧Q (.str (i ++ j)) H):=by
  intro pins s σ H x y v u Q I rx ry h
  obtain ⟨i,j,rfl,rfl,hz,q⟩:=h
  obtain ⟨t,rfl⟩:=rx
  obtain ⟨t',rfl⟩:=ry
  exact add_str (fun t' tk=>⟨.str (i ++ j),H,I.tok _,⟨_,rfl⟩,q⟩) hz
theorem vals1 {x:V} {us:List Value} (r:Vals [x] us):∃ u,us=[u]∧RelV x u:=by
  cases r with
  | cons r1 r2=>cases r2; exact ⟨_,rfl,r1⟩
theorem vals2 {x y:V} {us:List Value} (r:Vals [x,y] us):∃ u w',us=[u,w']∧RelV x u∧RelV y w':=by
  cases r with
  | cons r1 r2 =>
    cases r2 with
    | cons r3 r4=>cases r4; exact ⟨_,_,rfl,r1,r3⟩
theorem call_max2 (hc:X.calm=true):CallR X (.builtin "max") (fun xs H Q=>∃ i j,xs=[.int i,.int j]∧Q (.int (if j > i then j else i)) H):=by
  intro pins s σ H xs us Q I r h
  obtain ⟨i,j,rfl,q⟩:=h
  obtain ⟨u,w',rfl,⟨t,rfl⟩,⟨t',rfl⟩⟩:=vals2 r
  refine max_two_ints (I.ok.hd hc) fun h' tk k=>⟨_,H,I.kept k,?_,q⟩
  by_cases hj:j > i
  · rw [if_pos hj,if_pos hj]; exact ⟨_,rfl⟩
  · rw [if_neg hj,if_neg hj]; exact ⟨_,rfl⟩
theorem call_min2 (hc:X.calm=true):CallR X (.builtin "min") (fun xs H Q=>∃ i j,xs=[.int i,.int j]∧Q (.int (if j < i then j else i)) H):=by
  intro pins s σ H xs us Q I r h
  obtain ⟨i,j,rfl,q⟩:=h
  obtain ⟨u,w',rfl,⟨t,rfl⟩,⟨t',rfl⟩⟩:=vals2 r
  refine min_two_ints (I.ok.hd hc) fun h' tk k=>⟨_,H,I.kept k,?_,q⟩
  by_cases hj:j < i
  · rw [if_pos hj,if_pos hj]; exact ⟨_,rfl⟩
  · rw [if_neg hj,if_neg hj]; exact ⟨_,rfl⟩
theorem call_int1:CallR X (.type "int") (fun xs H Q=>(∃ i,xs=[.int i]∧Q (.int i) H) ∨ ∃ k,xs=[.bl k]∧Q (.int (if k then 1 else 0)) H):=by
  intro pins s σ H xs us Q I r h
  rcases h with ⟨i,rfl,q⟩ | ⟨k,rfl,q⟩
  · obtain ⟨u,rfl,t,rfl⟩:=vals1 r
    exact call_int_int ⟨.int i,H,I,⟨_,rfl⟩,q⟩
  · obtain ⟨u,rfl,r1⟩:=vals1 r
    cases r1
    exact call_int_bool ⟨.int (if k then 1 else 0),H,I.tok _,⟨_,rfl⟩,q⟩
end
end L2
namespace L2
open PySem PySem.Spec PyProof.Rows
structure ObjM (h:Heap) (x dx C:Addr) (mA:Str→Option Value):Prop where
  obj:h.get? x=some (PySem.W.instObj C dx)
  ns:h.Ns1 dx mA
  ne:dx ≠ x
theorem lookIn_ns {h:Heap} {dx:Addr} {mA:Str→Option Value} (n:h.Ns1 dx mA):∃ od,h.get? dx=some od∧∀ name,PySem.W.lookIn name od=some (mA name):=by
  obtain ⟨o,es,ep,ho,hd,hk,_,hm⟩:=n
  refine ⟨o,ho,fun name=>?_⟩
  have e:=hm name
  unfold nsFind findBy at e
  rw [← Array.find?_toList] at e
  unfold PySem.W.lookIn
  rw [hd]
  dsimp only
  split
  · rename_i y q
    rw [q] at e
    exact congrArg some e
  · rename_i q
    rw [q] at e
    have a:es.toList.any (·.refKey)=false:=by
      rw [List.any_eq_false]
      intro y hy
      obtain ⟨z,t,hkey⟩:=hk y (Array.mem_toList_iff.mp hy)
      simp [DictEntry.refKey,hkey]
    have a':¬ es.toList.any (·.refKey)=true:=by rw [a]; exact Bool.false_ne_true
    rw [if_neg a']
    exact congrArg some e
theorem ObjM.look {h:Heap} {x dx C:Addr} {mA:Str→Option Value} (I:ObjM h x dx C mA):∃ od,PySem.W.InstAt h x (PySem.W.instObj C dx) C (some od)∧∀ name,PySem.W.lookIn name od=some (mA name) :=
  let ⟨od,ho,hl⟩:=lookIn_ns I.ns
  ⟨od,⟨I.obj,rfl,rfl,ho⟩,hl⟩
section
variable {prog:Program} {w:World} {A:Around} {E:Value→Shared→Prop} {s:Shared} {K:PySem.W.Frag} {x dx C f:Addr} {mA:Str→Option Value} {name:Str} {v:Value}
end
theorem RelO.some_of {v:V} {o:Option Value} (r:RelO (some v) o):∃ u,o=some u∧RelV v u:=by
  cases o with
  | none=>exact (show False from r).elim
  | some u=>exact ⟨u,rfl,r⟩
section
variable {P:Program} {w:World} {H H':Hp} {h h':Heap} {a C dx:Addr} {fs fs':List (Str × V)}
theorem ins_get (hok:HOk P w H h) (e:H a=some (.ins C dx fs)):∃ mA,ObjM h a dx C mA∧(∀ f,RelO (fs.lookup f) (mA f))∧PySem.Within mA (fs.map (·.1))∧fs.length ≤ 1000∧H dx=some (.own a):=by
  obtain ⟨d,z,ne,ob,mA,n,r,q⟩:=(show ObjOk P w H h a (.ins C dx fs) from hok a _ e)
  exact ⟨mA,⟨ob,n,ne⟩,r,q,z,d⟩
end
structure Cls (K:PySem.W.Frag) (C:Addr):Prop where
  pg:PySem.W.plainGet K C Str.empty=true
  hd:PySem.W.hasDictIn K C=true
  po:PySem.W.plainOver K C=true
  sa:PySem.W.findIn K (.ref C) "__setattr__"=some (some (.builtin "object.__setattr__"))
theorem Cls.get {K:PySem.W.Frag} {C:Addr} (c:Cls K C) (f:Str):PySem.W.plainGet K C f=true:=c.pg
section
variable {X:Cx} {pins:List (Addr × Obj)} {σ:St} {H:Hp} {s:Shared} {a C dx:Addr} {fs:List (Str × V)} {f:Str} {v:V} {A:Around} {E:Value→Shared→Prop}
end
section
variable {X:Cx} {o e value:Expr} {f:Str} {pos pos' tpos:Pos} {ta tv:TE}
end
section
variable {X:Cx} {pins:List (Addr × Obj)} {σ:St} {H:Hp} {s:Shared} {A:Around} {E:Value→Shared→Prop} {Q:Value→Shared→Prop} {c:Value} {b:Bool}
inductive TyOf (K:PySem.W.Frag) (H:Hp):V→Value→Prop where
  | non:TyOf K H .non (.type "NoneType")
  | bl (x:Bool):TyOf K H (.bl x) (.type "bool")
  | int (i:Int):TyOf K H (.int i) (.type "int")
  | str (x:Str):TyOf K H (.str x) (.type "str")
  | flt (x:UInt64):TyOf K H (.flt x) (.type "float")
  | lst {a:Addr} {xs:List V} (e:H a=some (.lst xs)):TyOf K H (.ref a) (.type "list")
  | frz {a:Addr} {o:Obj} {xs:List V} (e:H a=some (.frz o (.lst xs))):TyOf K H (.ref a) (.type "list")
  | tup {a:Addr} {xs:List V} (e:H a=some (.tup xs)):TyOf K H (.ref a) (.type "tuple")
  | dK {a:Addr} {kvs:List (Key × V)} (e:H a=some (.dK kvs)):TyOf K H (.ref a) (.type "dict")
  | dT {a:Addr} {kvs:List (List Key × V)} (e:H a=some (.dT kvs)):TyOf K H (.ref a) (.type "dict")
  | ins {a C dx:Addr} {fs:List (Str × V)} (e:H a=some (.ins C dx fs)) (cl:Cls K C) (ha:PySem.W.findIn K (.ref C) "__class__"=some (some (.builtin "object.__class__")))
      (hn:PySem.W.specialIn K (.builtin "object.__class__") "__get__"=some (some (.builtin "getset_descriptor.__get__"))) (htk:PySem.W.takesIn K (.builtin "object.__class__")=some true)
      (hm:PySem.W.mroIn K C (.type "object")=some true):TyOf K H (.ref a) (.ref C)
theorem isinst_ok {x:V} {u t:Value} (I:Inv X pins σ H s) (rx:RelV x u) (ty:TyOf X.K H x t) (e:PySem.W.kitOne X.K t c=some b) (h:∀ tk,Q (.bool b) { s with toks:=tk }) :
    wpAny (model X.prog X.w) A (call (.builtin "isinstance") [u,c]) Q E s:=by
  cases ty with
  | non=>cases (show u=Value.none from rx); exact PySem.W.kia_one PySem.W.kitx_none I.kIn True.intro e (fun z=>nomatch z) h
  | bl y=>cases (show u=Value.bool y from rx); exact PySem.W.kia_one PySem.W.kitx_bool I.kIn True.intro e (fun z=>nomatch z) h
  | int i=>obtain ⟨t,q⟩:=(show ∃ t,u=Value.int i t from rx); cases q; exact PySem.W.kia_one PySem.W.kitx_int I.kIn True.intro e (fun z=>nomatch z) h
  | str y=>obtain ⟨t,q⟩:=(show ∃ t,u=Value.str y t from rx); cases q; exact PySem.W.kia_one PySem.W.kitx_str I.kIn True.intro e (fun z=>nomatch z) h
  | flt y=>obtain ⟨t,q⟩:=(show ∃ t,u=Value.float y t from rx); cases q; exact PySem.W.kia_one PySem.W.kitx_float I.kIn True.intro e (fun z=>nomatch z) h
  | @lst a xs ea =>
    cases (show u=Value.ref a from rx)
    obtain ⟨_,_,n,_,h1⟩:=(show ObjOk X.prog X.w H s.heap a (.lst xs) from I.hok a _ ea)
    exact PySem.W.kia_one PySem.W.kitx_list I.kIn ⟨_,h1,rfl⟩ e (fun z=>nomatch z) h
  | @frz a ob xs ea =>
    cases (show u=Value.ref a from rx)
    obtain ⟨_,_,_,n,_,h1⟩:=(show ObjOk X.prog X.w H s.heap a (.frz ob (.lst xs)) from I.hok a _ ea)
    exact PySem.W.kia_one PySem.W.kitx_list I.kIn ⟨_,h1,rfl⟩ e (fun z=>nomatch z) h
  | @tup a xs ea =>
    cases (show u=Value.ref a from rx)
    obtain ⟨_,_,_,p⟩:=(show ObjOk X.prog X.w H s.heap a (.tup xs) from I.hok a _ ea)
    obtain ⟨o,h1,h2,_⟩:=p
    exact PySem.W.kia_one PySem.W.kitx_tuple I.kIn ⟨o,h1,h2⟩ e (fun z=>nomatch z) h
  | @dK a kvs ea =>
    cases (show u=Value.ref a from rx)
    obtain ⟨_,_,vs,_,p⟩:=(show ObjOk X.prog X.w H s.heap a (.dK kvs) from I.hok a _ ea)
    obtain ⟨o,es,ep,h1,h2,_⟩:=p
    exact PySem.W.kia_one PySem.W.kitx_dict I.kIn ⟨o,h1,h2.1⟩ e (fun z=>nomatch z) h
  | @dT a kvs ea =>
    cases (show u=Value.ref a from rx)
    obtain ⟨_,_,xs,_,o,es,ep,h1,h2,_⟩:=(show ObjOk X.prog X.w H s.heap a (.dT kvs) from I.hok a _ ea)
    exact PySem.W.kia_one PySem.W.kitx_dict I.kIn ⟨o,h1,h2.1⟩ e (fun z=>nomatch z) h
  | @ins a C dx fs ea cl ha hn htk hm =>
    cases (show u=Value.ref a from rx)
    obtain ⟨mA,O,_⟩:=ins_get I.hok ea
    obtain ⟨od,J,_⟩:=O.look
    exact PySem.W.kia_one (PySem.W.kitx_own (cl.get _) cl.hd ha hn htk hm) I.kIn J e (fun z=>nomatch z) h
end
end L2
namespace L2
open PySem PySem.Spec PyProof.Rows
structure Room (k:Nat) (A:Around):Prop where
  hd:A.handled=none
  dp:A.depth + 3 * k + 5 < recursionLimit
  un:A.units + 16 * k + 200 < cLine
theorem Room.mono {j k:Nat} {A:Around} (r:Room k A) (h:j ≤ k):Room j A:=⟨r.hd,by have:=r.dp; omega,by have:=r.un; omega⟩
theorem Room.deeper {k:Nat} {A:Around} (r:Room (k + 1) A) (env:Env):Room k (A.deeper env) :=
  ⟨r.hd,by have:=r.dp; show A.depth + 1 + 3 * k + 5 < _; omega,by have:=r.un; show A.units + 3 + 16 * k + 200 < _; omega⟩
theorem Room.in1 {k:Nat} {A:Around} (r:Room (k + 1) A):Room k A.in1 :=
  ⟨r.hd,by have:=r.dp; show A.depth + 3 * k + 5 < _; omega,by have:=r.un; show A.units + 1 + 16 * k + 200 < _; omega⟩
theorem Room.depth {k:Nat} {A:Around} (r:Room k A):A.depth < recursionLimit:=by have:=r.dp; omega
theorem Room.units {k:Nat} {A:Around} (r:Room k A):A.units + 64 < cLine:=by have:=r.un; omega
def tNil:TA:=fun _ H Q=>Q [] H
def tCons (ta:TE) (tr:TA):TA:=fun σ H Q=>ta σ H fun x H1=>tr σ H1 fun xs H2=>Q (x :: xs) H2
section
variable {X:Cx} {e:Expr} {es:List Expr} {te:TE} {t:TA} {pos:Pos}
theorem pa_nil:PA X [] tNil:=fun _ _ _ _ H Q I h=>Calls.spliced_nil ⟨[],H,I,.nil,h⟩
theorem pa_cons (ha:PE X e te) (hr:PA X es t) (hs:starEach (e :: es) X.env=(false,eval e X.env) :: starEach es X.env:=by rfl):PA X (e :: es) (tCons te t):=by
  intro pos pins s σ H Q I h
  rw [hs]
  show wpAny _ _ (spliced ((false,eval e X.env) :: backTo pos (starEach es X.env))) _ _ s
  refine Calls.spliced_cons (thn (ha pins s σ H _ I h) fun u s1 ⟨x,H1,I1,r1,q1⟩=>?_)
  exact thn (hr pos pins s1 σ H1 _ I1 q1) fun us s2 ⟨xs,H2,I2,r2,q2⟩=>⟨x :: xs,H2,I2,.cons r1 r2,q2⟩
def tTup (t:TA):TE:=fun σ H Q=>t σ H fun xs H1=>xs.length ≤ sizeLine∧∀ p,H1 p=none→Q (.ref p) (upd H1 p (.tup xs))
def tLst (t:TA):TE:=fun σ H Q=>t σ H fun xs H1=>xs.length ≤ sizeLine∧∀ p,H1 p=none→Q (.ref p) (upd H1 p (.lst xs))
theorem pe_tup {x1} (h:PA X es t):PE X (.Tuple es x1 pos) (tTup t):=by
  intro pins s σ H Q I hq
  refine wpAny_Tuple_spliced (thn (h pos pins s σ H _ I hq) fun us s1 ⟨xs,H1,I1,r,z,q⟩=>⟨by rw [← r.length]; exact z,?_⟩)
  have hf:H1 s1.heap.objs.size=none:=I1.hok.fresh (Nat.le_refl _)
  refine ⟨.ref s1.heap.objs.size,upd H1 s1.heap.objs.size (.tup xs),I1.laid (t':=s1.toks) (fun b u e=>Heap.get?_push_of_some _ e) (Nat.le_refl _) ?_,rfl,q _ hf⟩
  exact ⟨z,us,r,⟨_,Heap.get?_push_size _ rfl,rfl,_,rfl⟩⟩
theorem pe_lst (h:PA X es t):PE X (.List es pos) (tLst t):=by
  intro pins s σ H Q I hq
  refine wpAny_List_spliced (thn (h pos pins s σ H _ I hq) fun us s1 ⟨xs,H1,I1,r,z,q⟩=>⟨by rw [← r.length]; exact z,?_⟩)
  have hf:H1 s1.heap.objs.size=none:=I1.hok.fresh (Nat.le_refl _)
  refine ⟨.ref s1.heap.objs.size,upd H1 s1.heap.objs.size (.lst xs),I1.laid (t':=s1.toks) (fun b u e=>Heap.get?_push_of_some _ e) (Nat.le_refl _) ?_,rfl,q _ hf⟩
  exact ⟨z,us,0,r,Heap.get?_push_size _ rfl⟩
end
abbrev Sp:=List V→Hp→VK→XK→Prop
abbrev CXT:=List Env→Hp→Shared→XK→Value→Shared→Prop
structure Env0 (P:Program) (w:World) (K:PySem.W.Frag) (mg:Str→Option Value) (base:Heap) (A:Around) (outer:List Env) (s:Shared) (H:Hp):Prop where
  frames:A.frames=some outer
  mod:Mod K mg base
  bs:∀ b o,base.get? b=some o→s.heap.get? b=some o∧H b=none
  bsz:base.objs.size ≤ s.heap.objs.size
  funs:s.heap.FunFrames base outer
  frf:∀ b ∈ frs outer,H b=none
  hok:HOk P w H s.heap
  bare:AllBare s.gens
def CE (outer:List Env) (P:Program) (w:World) (H:Hp) (s:Shared) (Q:VK) (u:Value) (s':Shared):Prop :=
  ∃ v H',s'.os=s.os∧AllBare s'.gens∧Un (frs outer) [] H H' s.heap s'.heap∧HOk P w H' s'.heap∧RelV v u∧Q v H'
def CR (CX:CXT) (outer:List Env) (P:Program) (w:World) (H:Hp) (s:Shared) (Q:VK) (E:XK) (r:Result) (s':Shared):Prop :=
  match r with
  | .ok (.ret u)=>CE outer P w H s Q u s'
  | .ok _=>False
  | .error e=>CX outer H s E e s'
structure FnOk (P:Program) (w:World) (K:PySem.W.Frag) (mg:Str→Option Value) (base:Heap) (CX:CXT) (k:Nat) (f:Addr) (fd:FuncData) (ps:List Str) (sp:Sp):Prop where
  len:∀ vs H Q E,sp vs H Q E→vs.length=ps.length
  run:∀ (A:Around) (outer:List Env) (s:Shared) (H:Hp) (args:Args) (us:List Value) (vs:List V) (Q:VK) (E:XK),Room k A→Env0 P w K mg base A outer s H→BindsTo s fd args (ps.zip us)→Vals vs us→sp vs H Q E →
    codeAny (model P w) A (.call (.ref f) args) (CR CX outer P w H s Q E) s
section
variable {X:Cx} {pins:List (Addr × Obj)} {σ:St} {H:Hp} {s s':Shared}
theorem Inv.env0 (I:Inv X pins σ H s):Env0 X.prog X.w X.K X.mg X.base X.A X.stack s H :=
  ⟨I.ok.frames,I.ok.mod,I.bs,Nat.le_trans I.ok.bsz I.sz,I.stack,I.stkFree,I.hok,I.bare⟩
theorem Inv.after {Q:VK} {u:Value} (I:Inv X pins σ H s) (h:CE X.stack X.prog X.w H s Q u s'):EP X pins σ Q u s':=by
  obtain ⟨v,H',os,bare,un,hok,r,q⟩:=h
  obtain ⟨hh,g,d,t,os'⟩:=s'
  obtain rfl:os'=s.os:=os
  exact ⟨v,H',I.call (h':=hh) (g':=g) (d':=d) (t':=t) (ch:=[]) un hok bare (fun b z=>absurd z (by simp)),r,q⟩
end
def tCall (sp:Sp) (dvs:List V) (E:XK) (t:TA):TE:=fun σ H Q=>t σ H fun vs H1=>sp (vs ++ dvs) H1 Q E
def Binds (K:PySem.W.Frag) (fd:FuncData) (ps:List Str) (ds:List Value):Prop :=
  ∀ (s:Shared) (us:List Value),K.In s.heap→(us ++ ds).length=ps.length→BindsTo s fd ⟨us,[]⟩ (ps.zip (us ++ ds))
theorem Binds.all {K:PySem.W.Frag} {fd:FuncData} {ps:List Str} (h:∀ us:List Value,us.length=ps.length→bindArgs fd ⟨us,[]⟩=pure (ps.zip us)):Binds K fd ps []:=fun s us _ hl=>by
  rw [List.append_nil] at hl ⊢
  exact .of_eq (h us hl)
def Passes (CX:CXT) (X:Cx) (E:XK):Prop:=∀ (pins:List (Addr × Obj)) (σ:St) (H:Hp) (s:Shared) (e:Value) (s':Shared),Inv X pins σ H s→CX X.stack H s E e s'→X.xe e s'
section
variable {X:Cx} {CX:CXT} {k:Nat} {f C:Addr} {fd:FuncData} {ps:List Str} {sp:Sp} {dvs:List V} {ds:List Value} {E:XK} {x m:Str} {p pos apos:Pos} {e o:Expr} {es:List Expr} {ta:TE} {t:TA}
theorem run_fn {pins:List (Addr × Obj)} {σ:St} {H:Hp} {s:Shared} {Q:VK} {us:List Value} {vs:List V} (F:FnOk X.prog X.w X.K X.mg X.base CX k f fd ps sp) (hr:Room k X.A) (hb:Binds X.K fd ps ds) (hd:Vals dvs ds) (hx:Passes CX X E)
    (I:Inv X pins σ H s) (r:Vals vs us) (h:sp (vs ++ dvs) H Q E):wpAny (model X.prog X.w) X.A (call (.ref f) us) (EP X pins σ Q) X.xe s:=by
  have r2:Vals (vs ++ dvs) (us ++ ds):=r.append hd
  have hl:(us ++ ds).length=ps.length:=by rw [← r2.length]; exact F.len _ _ _ _ h
  refine wpAny_call (codeAny_mono (F.run X.A X.stack s H ⟨us,[]⟩ (us ++ ds) (vs ++ dvs) Q E hr I.env0 (hb s us I.kIn hl) r2 h) fun r s' hq=>?_)
  cases r with
  | error e=>exact hx pins σ H s e s' I hq
  | ok fl =>
    cases fl with
    | ret u=>exact I.after hq
    | next=>exact False.elim hq
    | brk=>exact False.elim hq
    | cont=>exact False.elim hq
theorem pe_call (F:FnOk X.prog X.w X.K X.mg X.base CX k f fd ps sp) (hr:Room k X.A) (hg:Gl X x) (hm:X.mg x=some (.ref f)) (hk:PySem.W.keepIn X.K (.ref f)=true) (hb:Binds X.K fd ps ds) (hd:Vals dvs ds) (hx:Passes CX X E)
    (ha:PA X (e :: es) t) (hdb:(x == ("__debug__":Str))=false:=by decide) (he:starEach (e :: es) X.env=(false,eval e X.env) :: starEach es X.env:=by rfl) (hpl:(backTo pos (starEach es X.env)).any (·.1)=false:=by rfl) :
    PE X (.Call (.Name x p) (e :: es) [] pos) (tCall sp dvs E t):=by
  intro pins s σ H Q I h
  refine wpAny_Call_Name_kw (ld_glob I hg hm ?_ hdb)
  refine PySem.W.callWith_K (h₀:=X.base) I.ok.mod.kin hk (thn (ha pos pins s σ H _ I h) fun us s1 ⟨vs,H1,I1,r,q⟩=>⟨I1.kIn,?_⟩) he hpl
  exact run_fn F hr hb hd hx I1 r q
end
def PK (X:Cx) (kws:List Keyword) (t:TA):Prop :=
  ∀ (pos:Pos) (pins:List (Addr × Obj)) (s:Shared) (σ:St) (H:Hp) (Q:List V→Hp→Prop),Inv X pins σ H s→t σ H Q→wpAny (model X.prog X.w) X.A (evalAll ((backToKw pos (keywordEach kws X.env)).map (·.2))) (AP X pins σ Q) X.xe s
section
variable {X:Cx} {CX:CXT} {k:Nat} {f C:Addr} {fd:FuncData} {ps ks:List Str} {sp:Sp} {E:XK} {x m:Str} {p pos apos kpos:Pos} {e o:Expr} {es:List Expr} {kws:List Keyword} {te ta:TE} {t tk:TA} {nm:Option Str}
theorem pk_nil:PK X [] tNil:=fun _ _ _ _ H Q I h=>wpAny_evalAll_nil ⟨[],H,I,.nil,h⟩
theorem pk_cons (ha:PE X e te) (hr:PK X kws t):PK X (⟨nm,e,kpos⟩ :: kws) (tCons te t):=by
  intro pos pins s σ H Q I h
  show wpAny _ _ (evalAll ((do let v ← eval e X.env; standAt pos; pure v) :: (backToKw pos (keywordEach kws X.env)).map (·.2))) _ _ s
  refine wpAny_evalAll_cons (wpAny_bind (thn (ha pins s σ H _ I h) fun u s1 ⟨x,H1,I1,r1,q1⟩=>wpAny_bind (wpAny_standAt (wpAny_pure ?_))))
  exact thn (hr pos pins s1 σ H1 _ I1 q1) fun us s2 ⟨xs,H2,I2,r2,q2⟩=>⟨x :: xs,H2,I2,.cons r1 r2,q2⟩
variable {g:List Value→List Value→List Value} {gV:List V→List V→List V}
end
structure FnScope (N P:List Str) (sc:Scope):Prop where
  kind:sc.kind=.function
  co:sc.isCoroutine=false
  gen:sc.isGenerator=false
  nd:N.Nodup
  pre:N.take P.length=P
  par:∀ x ∈ P,sc.names.lookup x=some .local ∨ sc.names.lookup x=some .cell
  nofree:∀ y ∈ sc.names,y.2 ≠ .free
theorem bindL_out {kindOf:Str→Option NameKind} {x:Str}:∀ {binds:List (Str × Value)} {m:Str→Option Value},(∀ v,(x,v) ∉ binds)→bindL kindOf binds m x=m x
  | [],_,_=>rfl
  | (n,v) :: r,m,h=>by
    unfold bindL
    rw [bindL_out fun w hw=>h w (List.mem_cons_of_mem _ hw)]
    split
    · have:x ≠ n:=by rintro rfl; exact h v List.mem_cons_self
      simp [this]
    · rfl
theorem bindC_out {kindOf:Str→Option NameKind} {x:Str}:∀ {binds:List (Str × Value)} {m:Str→Option Value},(∀ v,(x,v) ∉ binds)→bindC kindOf binds m x=m x
  | [],_,_=>rfl
  | (n,v) :: r,m,h=>by
    unfold bindC
    rw [bindC_out fun w hw=>h w (List.mem_cons_of_mem _ hw)]
    split
    · rfl
    · have:x ≠ n:=by rintro rfl; exact h v List.mem_cons_self
      simp [this]
theorem bindL_get {kindOf:Str→Option NameKind} {x:Str} {v:Value}:∀ {P:List Str} {vs:List Value} {i:Nat} {m:Str→Option Value},P.Nodup→P[i]?=some x→vs[i]?=some v→kindOf x=some .local →
    bindL kindOf (P.zip vs) m x=some v
  | [],_,_,_,_,h,_,_=>by simp at h
  | _ :: _,[],_,_,_,_,h,_=>by simp at h
  | p :: P,w :: vs,0,m,nd,h1,h2,hk=>by
    simp at h1 h2; subst h1; subst h2
    show bindL kindOf ((p,w) :: P.zip vs) m p=_
    unfold bindL
    rw [bindL_out fun v hv=>(List.nodup_cons.mp nd).1 (List.of_mem_zip hv).1,if_pos hk]
    simp
  | p :: P,w :: vs,i + 1,m,nd,h1,h2,hk=>by
    show bindL kindOf ((p,w) :: P.zip vs) m x=_
    unfold bindL
    exact bindL_get (i:=i) (List.nodup_cons.mp nd).2 (by simpa using h1) (by simpa using h2) hk
theorem bindC_get {kindOf:Str→Option NameKind} {x:Str} {v:Value}:∀ {P:List Str} {vs:List Value} {i:Nat} {m:Str→Option Value},P.Nodup→P[i]?=some x→vs[i]?=some v→kindOf x ≠ some .local →
    bindC kindOf (P.zip vs) m x=some v
  | [],_,_,_,_,h,_,_=>by simp at h
  | _ :: _,[],_,_,_,_,h,_=>by simp at h
  | p :: P,w :: vs,0,m,nd,h1,h2,hk=>by
    simp at h1 h2; subst h1; subst h2
    show bindC kindOf ((p,w) :: P.zip vs) m p=_
    unfold bindC
    rw [bindC_out fun v hv=>(List.nodup_cons.mp nd).1 (List.of_mem_zip hv).1,if_neg hk]
    simp
  | p :: P,w :: vs,i + 1,m,nd,h1,h2,hk=>by
    show bindC kindOf ((p,w) :: P.zip vs) m x=_
    unfold bindC
    exact bindC_get (i:=i) (List.nodup_cons.mp nd).2 (by simpa using h1) (by simpa using h2) hk
def start (N:List Str) (vs:List V):St:=vs.map some ++ List.replicate (N.length - vs.length) none
def cxOf (CX:CXT) (P:Program) (w:World) (K:PySem.W.Frag) (mg:Str→Option Value) (base:Heap) (N:List Str) (qual:Str) (scope:Scope) (f:Addr) (cd:Value) (A:Around) (outer:List Env) (s:Shared) (H:Hp) (E:XK):Cx where
  prog:=P
  w:=w
  K:=K
  mg:=mg
  base:=base
  A:=A.deeper (envOfC qual scope s.heap.objs.size f cd)
  N:=N
  s₀:=s
  H₀:=H
  env:=envOfC qual scope s.heap.objs.size f cd
  outer:=outer
  stack:=envOfC qual scope s.heap.objs.size f cd :: outer
  ex:=[]
  calm:=true
  fn:=fun _=>true
  pn:=[]
  xe:=fun e s'=>wpAny (model P w) (A.deeper (envOfC qual scope s.heap.objs.size f cd)) (leaving (envOfC qual scope s.heap.objs.size f cd) e) (fun _ s''=>CX outer H s E e s'') (fun e' s''=>CX outer H s E e' s'') s'
theorem cell_has {sc:Scope} {n:Nat} {x:Str} (h:sc.names.lookup x=some .cell):∃ c,(cellsFrom n sc.names []).lookup x=some c:=by
  have q:=PySem.W.cellsFrom_some sc.names n [] (.inl h)
  exact Option.isSome_iff_exists.mp q
theorem inv_start {CX:CXT} {P:Program} {w:World} {K:PySem.W.Frag} {mg:Str→Option Value} {base:Heap} {N ps:List Str} {qual:Str} {scope:Scope} {f:Addr} {cd:Value} {A:Around} {outer:List Env} {s s1:Shared} {H:Hp} {E:XK} {us:List Value} {vs:List V}
    (S:FnScope N ps scope) (hd:A.handled=none) (e0:Env0 P w K mg base A outer s H) (hl:vs.length=ps.length) (r:Vals vs us)
    (x:InCallC s s.heap.objs.size (bindL (envOfC qual scope s.heap.objs.size f cd).kindOf (ps.zip us) fun _=>none) (cellsFrom (s.heap.objs.size + 1) scope.names []) (bindC (envOfC qual scope s.heap.objs.size f cd).kindOf (ps.zip us) fun _=>none) s1) :
    Inv (cxOf CX P w K mg base N qual scope f cd A outer s H E) [] (start N vs) H s1:=by
  have hpl:ps.length ≤ N.length:=by have:=congrArg List.length S.pre; rw [List.length_take] at this; omega
  obtain ⟨h1,tk,rfl,hk⟩:=x.done
  have noA:∀ b:Addr,b ∉ (cxOf CX P w K mg base N qual scope f cd A outer s H E).ex:=fun b z=>absurd (show b ∈ ([]:List Addr) from z) (by simp)
  refine ⟨⟨e0.mod,S.kind,rfl,rfl,Nat.le_refl _,fun y z c h1 h2=>?_,fun y hy=>?_,fun y c _ h=>?_,fun _=>hd,Around.frames_deeper e0.frames,.inr ⟨rfl,rfl⟩,fun b z=>absurd z (noA b),e0.bs,e0.bsz,fun b _ _=>noA b,fun b z=>absurd z (noA b),e0.funs,e0.frf⟩,
    rfl,e0.bare,Un.kept hk,⟨_,x.toInCall.ns,fun i y v h1 h2 h3=>?_⟩,fun y c h=>⟨_,x.cell y c h⟩,e0.hok.fresh (Nat.le_refl _),fun y c h=>?_,fun p hp=>absurd (show p ∈ ([]:List (Addr × Obj)) from hp) (by simp),e0.hok.kept hk,?_⟩
  · exact name_of_addr x.apart (PySem.mem_of_lookup h1) (PySem.mem_of_lookup h2)
  · have hy:scope.names.lookup y=some .cell ∨ scope.names.lookup y=some .free:=hy
    rcases hy with hy | hy
    · exact cell_has hy
    · exact absurd rfl (S.nofree _ (PySem.mem_of_lookup hy))
  · exact Nat.le_of_lt (x.above y c (PySem.mem_of_lookup h))
  · have hi:i < vs.length:=by
      unfold start at h2
      by_cases hi:i < vs.length
      · exact hi
      · rw [List.getElem?_append_right (by simpa using hi)] at h2
        rw [List.getElem?_replicate] at h2
        split at h2 <;> cases h2
    have ha:vs[i]?=some v:=by
      unfold start at h2
      rw [List.getElem?_append_left (by simpa using hi),List.getElem?_map] at h2
      cases e:vs[i]? with
      | none=>rw [e] at h2; cases h2
      | some a=>rw [e] at h2; cases h2; rfl
    obtain ⟨u,hu,rv⟩:=r.get ha
    have hp:ps[i]?=some y:=by
      rw [← S.pre,List.getElem?_take_of_lt (by omega)]; exact h1
    have ndP:ps.Nodup:=by rw [← S.pre]; exact S.nd.sublist (List.take_sublist _ _)
    refine ⟨u,rv,?_⟩
    rcases S.par y (List.mem_of_getElem? hp) with k | k
    · exact .inl ⟨k,bindL_get ndP hp hu k⟩
    · obtain ⟨c,e⟩:=cell_has (n:=s.heap.objs.size + 1) k
      refine .inr ⟨.inl k,c,e,?_⟩
      have q:=x.cell y c e
      rw [bindC_get ndP hp hu (by show scope.names.lookup y ≠ _; rw [k]; decide)] at q
      exact q
  · exact e0.hok.fresh (Nat.le_of_lt (x.above y c (PySem.mem_of_lookup h)))
  · unfold start
    show _=N.length
    rw [List.length_append,List.length_map,List.length_replicate]
    omega
theorem fn_of {CX:CXT} {P:Program} {w:World} {K:PySem.W.Frag} {mg:Str→Option Value} {base:Heap} {k:Nat} {f:Addr} {name qual:Str} {params:Arguments} {body:List Stmt} {scope:Scope} {dV kV doc pm cdv ct oc:Value} {an od:Option Addr}
    {osl:Array (Option Value)} {N ps:List Str} {sp:Sp} (lk:K.lookup f=some ⟨oc,od,.func (PySem.W.fnOf name qual params body scope dV kV doc pm an cdv ct),osl⟩) (hcd:PySem.W.codeIn K cdv qual=true) (S:FnScope N ps scope)
    (len:∀ vs H Q E,sp vs H Q E→vs.length=ps.length)
    (hbody:∀ (A:Around) (outer:List Env) (s:Shared) (H:Hp) (vs:List V) (Q:VK) (E:XK),Room k (A.deeper (envOfC qual scope s.heap.objs.size f cdv))→sp vs H Q E →
      ∃ t,PSs (cxOf CX P w K mg base N qual scope f cdv A outer s H E) body t∧t { nx:=fun _ H'=>Q .non H',rt:=Q } (start N vs) H) :
    FnOk P w K mg base CX (k + 1) f (PySem.W.fnOf name qual params body scope dV kV doc pm an cdv ct) ps sp:=by
  refine ⟨len,fun A outer s H args us vs Q E hr e0 hb r hsp=>?_⟩
  have hl:=len _ _ _ _ hsp
  have KX:K.In s.heap:=e0.mod.kin.keeps fun b o e=>(e0.bs b o e).1
  have lim:s.heap.NoLimit:=e0.mod.nolimit.keeps fun b o e=>(e0.bs b o e).1
  have hkind:∀ y ∈ ps.zip us,scope.names.lookup y.1=some .local ∨ (scope.names.lookup y.1=some .cell∧((cellsFrom (s.heap.objs.size + 1) scope.names []).lookup y.1).isSome=true):=fun ⟨n,v⟩ hy=>by
    rcases S.par n (List.of_mem_zip hy).1 with q | q
    · exact .inl q
    · exact .inr ⟨q,PySem.W.cellsFrom_some _ _ _ (.inl q)⟩
  refine codeAny_call_function hr.depth (KX _ _ lk) rfl S.co S.gen rfl (PySem.W.codeRec_of KX hcd) (hb _ _ _ _ ?_)
  refine wpAny_newFunctionEnv_cells S.kind hkind fun env he s1 x=>?_
  subst he
  refine ⟨lim.keeps x.toInCall.keep,codeAny_func ?_⟩
  obtain ⟨t,ht,hq⟩:=hbody A outer s H vs Q E (hr.deeper _) hsp
  have I:Inv (cxOf CX P w K mg base N qual scope f cdv A outer s H E) [] (start N vs) H s1:=inv_start S hr.hd e0 hl r x
  refine wpAny_mono (ht [] s1 (start N vs) H _ I hq) (fun fl s' hs=>?_) fun e s' hs=>hs
  have fin:∀ {σ':St} {H':Hp} {v:V} {u:Value},Inv (cxOf CX P w K mg base N qual scope f cdv A outer s H E) [] σ' H' s'→RelV v u→Q v H'→CE outer P w H s Q u s' :=
    fun {σ' H' v u} J rv q=>⟨v,H',J.os,J.bare,J.base,J.hok,rv,q⟩
  cases fl with
  | ret u =>
    obtain ⟨v,σ',H',J,rv,q⟩:=hs
    exact fin J rv q
  | next =>
    obtain ⟨σ',H',J,q⟩:=hs
    exact fin (v:=V.non) (u:=Value.none) J rfl q
  | brk =>
    obtain ⟨_,_,_,q⟩:=hs
    exact False.elim q
  | cont =>
    obtain ⟨_,_,_,q⟩:=hs
    exact False.elim q
end L2
namespace L2
open PySem PySem.Spec PyProof.Rows
section
variable {X:Cx} {x:Str} {p pos:Pos} {e:Expr} {es:List Expr} {t:TA} {id T:String} {r:List V→Hp→VK→Prop}
def tCB (r:List V→Hp→VK→Prop) (t:TA):TE:=fun σ H Q=>t σ H fun vs H1=>r vs H1 Q
theorem pe_callB (hc:CallR X (.builtin id) r) (hg:Gl X x) (hm:X.mg x=none) (hv:bootBuiltins x=some (.builtin id)) (ha:PA X (e :: es) t) (hn:x ≠ "__name__":=by decide) (hdb:(x == ("__debug__":Str))=false:=by decide)
    (he:starEach (e :: es) X.env=(false,eval e X.env) :: starEach es X.env:=by rfl) (hpl:(backTo pos (starEach es X.env)).any (·.1)=false:=by rfl):PE X (.Call (.Name x p) (e :: es) [] pos) (tCB r t):=by
  intro pins s σ H Q I h
  refine wpAny_Call_Name_kw (ld_blt I hg hm hv ?_ hn hdb)
  exact PyProof.Rows.callWith_builtin1 (thn (ha pos pins s σ H _ I h) fun us s1 ⟨vs,H1,I1,r1,q1⟩=>hc pins s1 σ H1 vs us Q I1 r1 q1) he hpl
theorem pe_callTy (hc:CallR X (.type T) r) (hg:Gl X x) (hm:X.mg x=none) (hv:bootBuiltins x=some (.type T)) (ha:PA X (e :: es) t) (hn:x ≠ "__name__":=by decide) (hdb:(x == ("__debug__":Str))=false:=by decide)
    (he:starEach (e :: es) X.env=(false,eval e X.env) :: starEach es X.env:=by rfl) (hpl:(backTo pos (starEach es X.env)).any (·.1)=false:=by rfl):PE X (.Call (.Name x p) (e :: es) [] pos) (tCB r t):=by
  intro pins s σ H Q I h
  refine wpAny_Call_Name_kw (ld_blt I hg hm hv ?_ hn hdb)
  exact PyProof.Rows.callWith_type1 (thn (ha pos pins s σ H _ I h) fun us s1 ⟨vs,H1,I1,r1,q1⟩=>hc pins s1 σ H1 vs us Q I1 r1 q1) he hpl
end
end L2
namespace HT
open PySem PyProof.Rows
section
open PySem.SeqAt
open PySem.AutoSeq1 (wpAny_loadPart')
open PySem.MeetsSeq PySem.MeetsSeq2 PySem.MeetsSeq3
end
section
variable {prog:Program} {w:World} {A:Around} {E:Value→Shared→Prop} {s:Shared}
theorem cat_tup {t b:Addr} {vs ws:List Value} {Q:Value→Shared→Prop} (ht:IsTup s.heap t vs.toArray) (hb:IsTup s.heap b ws.toArray) (hv:vs ≠ [])
    (h1:ws=[]→Q (.ref t) s) (h2:ws ≠ []→Q (.ref s.heap.objs.size) { s with heap:=s.heap.push { cls:=.type "tuple",data:=.seq (vs ++ ws).toArray } })
    (hsz:vs.length + ws.length ≤ sizeLine):wpAny (model prog w) A (binaryOp .Add (.ref t) (.ref b)) Q E s:=by
  obtain ⟨⟨cls,dd,data,sl⟩,ho,hc,n,hd⟩:=id ht
  obtain ⟨⟨cls2,dd2,data2,sl2⟩,ho2,hc2,n2,hd2⟩:=id hb
  simp only at hc hd hc2 hd2
  subst hc hd hc2 hd2
  have e:vs.toArray ++ ws.toArray=(vs ++ ws).toArray:=by simp
  by_cases hw:ws=[]
  · exact concat_meets ⟨_,ho,rfl⟩ ⟨_,ho2,rfl⟩ noFill_tuple_add seq_tuple_add PySem.F.slot_tuple_add PySem.F.entry_tuple_add (PySem.F.args_tuple_add_2 _ _)
      (tuple_addW1 t b vs.toArray ws.toArray n n2 dd dd2 sl sl2 (by simpa using hv) (by simp [hw])) ⟨ho,ho2,h1 hw⟩
  · refine concat_meets ⟨_,ho,rfl⟩ ⟨_,ho2,rfl⟩ noFill_tuple_add seq_tuple_add PySem.F.slot_tuple_add PySem.F.entry_tuple_add (PySem.F.args_tuple_add_2 _ _)
      (tuple_addW2 t b vs.toArray ws.toArray n n2 dd dd2 sl sl2 (by simpa using hv) (by simpa using hw) (by rw [List.size_toArray,List.size_toArray]; exact hsz)) ⟨ho,ho2,?_⟩
    rw [e]
    exact h2 hw
def sIx (n d:Nat):Option Int→Nat
  | none=>d
  | some v=>if v < 0 then (v + (n:Int)).toNat else min v.toNat n
theorem sIx_none (n d:Nat):sIx n d none=d:=rfl
theorem sIx_nat (n d k:Nat):sIx n d (some (k:Int))=min k n:=by
  show (if (k:Int) < 0 then ((k:Int) + (n:Int)).toNat else min (k:Int).toNat n)=min k n
  rw [if_neg (by omega),Int.toNat_natCast]
theorem sIx_le (n d:Nat) (hd:d ≤ n) (o:Option Int):sIx n d o ≤ n:=by
  cases o with
  | none=>exact hd
  | some v =>
    show (if v < 0 then (v + (n:Int)).toNat else min v.toNat n) ≤ n
    by_cases hv:v < 0
    · rw [if_pos hv]; omega
    · rw [if_neg hv]; exact Nat.min_le_right _ _
theorem clip_eq (v:Int) (n d:Nat):(if v < 0 then max (v + (n:Int)) 0 else min v (n:Int))=((sIx n d (some v):Nat):Int):=by
  show (if v < 0 then max (v + (n:Int)) 0 else min v (n:Int))=(((if v < 0 then (v + (n:Int)).toNat else min v.toNat n):Nat):Int)
  by_cases hv:v < 0
  · simp only [if_pos hv]; omega
  · simp only [if_neg hv]; omega
theorem adjust_gen (lo hi:Option Int) (n:Nat):Builtin.Slice.sliceAdjust lo hi 1 (n:Int)=(((sIx n 0 lo:Nat):Int),((sIx n n hi:Nat):Int)):=by
  have h1:¬ ((1:Int) < 0):=by omega
  unfold Builtin.Slice.sliceAdjust
  simp only [h1,if_false]
  refine Prod.ext ?_ ?_
  · cases lo with
    | none=>rfl
    | some v=>exact clip_eq v n 0
  · cases hi with
    | none=>rfl
    | some v=>exact clip_eq v n n
theorem places_gen (i j:Nat):Builtin.Slice.slicePlaces (i:Int) (j:Int) 1=j - i:=by
  unfold Builtin.Slice.slicePlaces
  have h1:(1:Int) > 0:=by omega
  simp only [h1,if_true,Int.ediv_one]
  split <;> omega
theorem slicePart_ {v:Value} {o:Option Int} {Q:Option Int→Shared→Prop} (p:IsPart v o) (h:Q o s):wpAny (model prog w) A (Builtin.Slice.slicePartIndex v) Q E s:=by
  cases p with
  | none=>exact slicePart_none h
  | int i t=>exact slicePart_int h
theorem sliceApplied_gen {sl:Addr} {vl vu:Value} {lo hi:Option Int} {n:Nat} {Q:Int × Int × Nat→Shared→Prop} (hs:s.heap.IsSliceOf sl vl vu .none) (pl:IsPart vl lo) (pu:IsPart vu hi)
    (h:Q (((sIx n 0 lo:Nat):Int),1,sIx n n hi - sIx n 0 lo) s):wpAny (model prog w) A (Builtin.Slice.sliceApplied (.ref sl) (pure (n:Int))) Q E s:=by
  obtain ⟨os,hos,hcs,hds⟩:=id hs
  unfold Builtin.Slice.sliceApplied Builtin.Slice.sliceFields
  refine wpAny_bind (wpAny_bind (wpAny_field hos hds (x:=vl) rfl (wpAny_bind (wpAny_field hos hds (x:=vu) rfl (wpAny_bind (wpAny_field hos hds (x:=.none) rfl (wpAny_pure ?_)))))))
  refine wpAny_bind (slicePart_none ?_)
  show wpAny _ _ (if ((1:Int) == 0)=true then _ else _) _ _ s
  rw [if_neg (by decide)]
  refine wpAny_bind (slicePart_ pl (wpAny_bind (slicePart_ pu (wpAny_bind (wpAny_pure ?_)))))
  show wpAny _ _ (match Builtin.Slice.sliceAdjust lo hi 1 (n:Int) with | (lo,hi)=>pure (lo,(1:Int),Builtin.Slice.slicePlaces lo hi 1)) _ _ s
  rw [adjust_gen lo hi n]
  show wpAny _ _ (pure (((sIx n 0 lo:Nat):Int),(1:Int),Builtin.Slice.slicePlaces ((sIx n 0 lo:Nat):Int) ((sIx n n hi:Nat):Int) 1)) _ _ s
  rw [places_gen]
  exact wpAny_pure h
theorem pick_gen (xs:Array Value) (i k:Nat):((List.range k).filterMap fun (m:Nat)=>xs[((i:Int) + (m:Int) * 1).toNat]?).toArray=((xs.toList.drop i).take k).toArray:=by
  have e:(fun (m:Nat)=>xs[((i:Int) + (m:Int) * 1).toNat]?)=fun m=>xs[i + m]?:=by
    funext m
    have:((i:Int) + (m:Int) * 1).toNat=i + m:=by omega
    rw [this]
  rw [e]
  have:=pick_run xs i k
  rw [List.filterMap_map] at this
  have e2:((fun x=>xs[x]?) ∘ fun x=>i + x)=fun m=>xs[i + m]?:=rfl
  rw [e2] at this
  rw [this]
theorem getItem_tuple_cut {t sl:Addr} {items:Array Value} {vl vu:Value} {lo hi:Option Int} {Q:Value→Shared→Prop} (ht:IsTup s.heap t items) (hs:s.heap.IsSliceOf sl vl vu .none) (pl:IsPart vl lo) (pu:IsPart vu hi)
    (hw:¬ (sIx items.size 0 lo=0∧sIx items.size items.size hi=items.size))
    (h:Q (.ref s.heap.objs.size) { s with heap:=s.heap.push { cls:=.type "tuple",data:=.seq ((items.toList.drop (sIx items.size 0 lo)).take (sIx items.size items.size hi - sIx items.size 0 lo)).toArray } })
    (hsz:items.size ≤ sizeLine):wpAny (model prog w) A (getItem (.ref t) (.ref sl)) Q E s:=by
  have htake:sizeOk (.seq ((items.toList.drop (sIx items.size 0 lo)).take (sIx items.size items.size hi - sIx items.size 0 lo)).toArray):=by
    show ((items.toList.drop (sIx items.size 0 lo)).take (sIx items.size items.size hi - sIx items.size 0 lo)).toArray.size ≤ sizeLine
    rw [List.size_toArray,List.length_take,List.length_drop,Array.length_toList]
    omega
  have hj:sIx items.size items.size hi ≤ items.size:=sIx_le _ _ (Nat.le_refl _) hi
  obtain ⟨os,hos,hcs,hds⟩:=id hs
  have hTs:s.TypeIs (.ref sl) "slice":=⟨os,hos,hcs⟩
  unfold getItem
  try with_reducible refine wpAny_holding ?_
  first | refine wpAny_bind (wpAny_pure ?_) | skip
  refine wpAny_bind (wpAny_sequenceKey ht.typeIs (by decide) ?_)
  refine wpAny_bind (wpAny_callSpecial?_slot (name:=Str.ofString "__getitem__") ht.typeIs PyProof.Rows.slot_tuple_getitem
    (wpAny_call_entry PyProof.Rows.slot_tuple_getitem ht.typeIs entry_tuple_getitem ?_ (args_tuple_getitem _ _)))
  show wpAny _ _ (Builtin.Tuple.tupleItemsOf (.ref t) >>= _) _ _ s
  refine wpAny_bind (tupleItemsOf_ ht ?_)
  refine wpAny_bind (wpAny_typeOf hTs ?_)
  rw [if_pos (by decide)]
  refine wpAny_bind (sliceApplied_gen hs pl pu ?_)
  have hno:¬ ((((sIx items.size 0 lo:Nat):Int) == 0 && (1:Int) == 1 && (sIx items.size items.size hi - sIx items.size 0 lo) == items.size)=true):=by
    intro q
    rw [Bool.and_eq_true,Bool.and_eq_true] at q
    have q1:((sIx items.size 0 lo:Nat):Int)=0:=eq_of_beq q.1.1
    have q2:sIx items.size items.size hi - sIx items.size 0 lo=items.size:=eq_of_beq q.2
    exact hw ⟨by omega,by omega⟩
  show wpAny _ _ (if (((sIx items.size 0 lo:Nat):Int) == 0 && (1:Int) == 1 && (sIx items.size items.size hi - sIx items.size 0 lo) == items.size)=true then _ else _) _ _ s
  rw [if_neg hno,pick_gen]
  first
    | exact wpAny_bind (m:=Builtin.Tuple.tupleExact _) (wpAny_newObj_type (wpAny_pure ⟨_,rfl,wpAny_pure h⟩) htake)
    | exact wpAny_bind (m:=Builtin.Tuple.tupleExact _) (wpAny_newObj_type (wpAny_bind (wpAny_pure (wpAny_pure ⟨_,rfl,wpAny_pure h⟩))) htake)
    | exact wpAny_bind (wpAny_bind (m:=Builtin.Tuple.tupleExact _) (wpAny_newObj_type (wpAny_pure (wpAny_pure ⟨_,rfl,wpAny_pure h⟩)) htake))
    | exact wpAny_bind (wpAny_bind (m:=Builtin.Tuple.tupleExact _) (wpAny_newObj_type (wpAny_pure ⟨_,rfl,wpAny_pure h⟩) htake))
end
end HT
namespace L2
open PySem PySem.Spec PyProof.Rows
abbrev TO:=St→Hp→(Option Int→Hp→Prop)→Prop
def PO (X:Cx) (e:Option Expr) (t:TO):Prop :=
  ∀ (pins:List (Addr × Obj)) (s:Shared) (σ:St) (H:Hp) (Q:Option Int→Hp→Prop),Inv X pins σ H s→t σ H Q →
    wpAny (model X.prog X.w) X.A (evalPart e X.env) (fun u s'=>∃ o H',Inv X pins σ H' s'∧IsPart u o∧Q o H') X.xe s
def tNoPart:TO:=fun _ H Q=>Q none H
def tPart (t:TE):TO:=fun σ H Q=>t σ H fun x H1=>∃ i,x=.int i∧Q (some i) H1
theorem intsAre_of {ns:List Int}:∀ {us:List Value},Vals (ns.map V.int) us→IntsAre us ns:=by
  induction ns with
  | nil=>intro us r; rw [List.map_nil] at r; cases r; exact .nil
  | cons n ns ih =>
    intro us r
    rw [List.map_cons] at r
    cases r with
    | cons r1 r2 =>
      obtain ⟨t,e⟩:=r1
      subst e
      exact .cons n t (ih r2)
section
variable {X:Cx} {e:Expr} {te:TE} {lo hi:Option Expr} {tl th:TO} {pos p2:Pos}
theorem po_none:PO X none tNoPart:=by
  intro pins s σ H Q I h
  rw [evalPart_none]
  exact wpAny_pure ⟨none,H,I,.none,h⟩
theorem po_some (h:PE X e te):PO X (some e) (tPart te):=by
  intro pins s σ H Q I hw
  rw [evalPart_some]
  refine thn (h pins s σ H _ I hw) fun u s1 ⟨x,H1,I1,r1,q1⟩=>?_
  obtain ⟨i,rfl,q⟩:=q1
  obtain ⟨t,rfl⟩:=r1
  exact ⟨some i,H1,I1,.int i t,q⟩
def SlR (X:Cx) (r:V→Option Int→Option Int→Hp→VK→Prop):Prop :=
  ∀ (pins:List (Addr × Obj)) (s:Shared) (σ:St) (H:Hp) (x:V) (v vl vu:Value) (lo hi:Option Int) (sl:Addr) (Q:VK),Inv X pins σ H s→RelV x v→s.heap.IsSliceOf sl vl vu .none→IsPart vl lo→IsPart vu hi→r x lo hi H Q →
    ∃ T id,typeLookup (.type T) "__getitem__"=pure (some (.builtin id))∧s.TypeIs v T∧wpAny (model X.prog X.w) X.A (getItem v (.ref sl)) (EP X pins σ Q) X.xe s
def tSl (r:V→Option Int→Option Int→Hp→VK→Prop) (te:TE) (tl th:TO):TE:=fun σ H Q=>te σ H fun x H1=>tl σ H1 fun l H2=>th σ H2 fun u H3=>r x l u H3 Q
theorem pe_slice {r:V→Option Int→Option Int→Hp→VK→Prop} (hr:SlR X r) (he:PE X e te) (hl:PO X lo tl) (hu:PO X hi th):PE X (.Subscript e (.Slice lo hi none p2) pos) (tSl r te tl th):=by
  intro pins s σ H Q I h
  refine Subscript_ (thn (he pins s σ H _ I h) fun v s1 ⟨x,H1,I1,r1,q1⟩=>?_)
  refine wpAny_Slice (thn (hl pins s1 σ H1 _ I1 q1) fun vl s2 ⟨l,H2,I2,pl,q2⟩=>thn (hu pins s2 σ H2 _ I2 q2) fun vu s3 ⟨u,H3,I3,pu,q3⟩=>?_)
  rw [evalPart_none]
  refine wpAny_pure ?_
  have I4:Inv X pins σ H3 { s3 with heap:=s3.heap.push { cls:=.type "slice",data:=.fields #[vl,vu,.none] } }:=I3.kept (t':=s3.toks) fun b ob q=>Heap.get?_push_of_some _ q
  obtain ⟨T,id,hT,ht,hg⟩:=hr pins { s3 with heap:=s3.heap.push { cls:=.type "slice",data:=.fields #[vl,vu,.none] } } σ H3 x v vl vu l u s3.heap.objs.size Q I4 r1 (Heap.IsSliceOf.new ..) pl pu q3
  show wpAny (model X.prog X.w) X.A (subscriptTail e (.Slice lo hi none p2) v (.ref s3.heap.objs.size)) (EP X pins σ Q) X.xe { s3 with heap:=s3.heap.push { cls:=.type "slice",data:=.fields #[vl,vu,.none] } }
  exact tail_any (ops:=[.ref s3.heap.objs.size,v]) ht hT hg (by with_unfolding_all rfl)
def cutV (xs:List V) (lo hi:Option Int):List V:=(xs.drop (HT.sIx xs.length 0 lo)).take (HT.sIx xs.length xs.length hi - HT.sIx xs.length 0 lo)
theorem cutV_length (xs:List V) (lo hi:Option Int):(cutV xs lo hi).length ≤ xs.length:=by
  unfold cutV
  rw [List.length_take,List.length_drop]
  omega
def rSlT (K:PySem.W.Frag):V→Option Int→Option Int→Hp→VK→Prop:=fun x lo hi H Q=>∃ a xs,x=.ref a∧SqT K H a xs ∧
  ¬ (HT.sIx xs.length 0 lo=0∧HT.sIx xs.length xs.length hi=xs.length)∧∀ p,H p=none→Q (.ref p) (upd H p (.tup (cutV xs lo hi)))
theorem sl_tup:SlR X (rSlT X.K):=by
  intro pins s σ H x v vl vu lo hi sl Q I rx hs pl pu h
  obtain ⟨a,xs,rfl,hx,hw,q⟩:=h
  cases rx
  obtain ⟨its,r,ht,hz⟩:=I.tuple hx
  have hlen:its.toArray.size=xs.length:=by rw [List.size_toArray]; exact r.length.symm
  refine ⟨"tuple",_,PyProof.Rows.slot_tuple_getitem.lookup,ht.typeIs,?_⟩
  refine HT.getItem_tuple_cut ht hs pl pu (by rw [hlen]; exact hw) ?_ (by rw [hlen]; exact hz)
  rw [hlen]
  refine ⟨.ref s.heap.objs.size,_,I.laid (t':=s.toks) (o:=.tup (cutV xs lo hi)) (fun b ob q=>Heap.get?_push_of_some _ q) (Nat.le_refl _) ?_,rfl,q _ (I.hok.fresh (Nat.le_refl _))⟩
  exact ⟨Nat.le_trans (cutV_length xs lo hi) hz,_,(r.drop (HT.sIx xs.length 0 lo)).take (HT.sIx xs.length xs.length hi - HT.sIx xs.length 0 lo),IsTup.new _ _⟩
def rCatT (K:PySem.W.Frag):R2:=fun x y H Q=>∃ a b xs ys,x=.ref a∧y=.ref b∧SqT K H a xs∧SqT K H b ys∧xs ≠ []∧xs.length + ys.length ≤ sizeLine ∧
  (ys=[]→Q (.ref a) H)∧(ys ≠ []→∀ p,H p=none→Q (.ref p) (upd H p (.tup (xs ++ ys))))
theorem Vals.nil_iff {xs:List V} {us:List Value} (r:Vals xs us):us=[] ↔ xs=[]:=by
  cases r with
  | nil=>simp
  | cons _ _=>simp
theorem op_catT:OpR X (binaryOp .Add) (rCatT X.K):=by
  intro pins s σ H x y v u Q I rx ry h
  obtain ⟨a,b,xs,ys,rfl,rfl,ha,hb,hx,hz,q1,q2⟩:=h
  cases rx
  cases ry
  obtain ⟨its,r1,p1,_⟩:=I.tuple ha
  obtain ⟨its2,r2,p2,_⟩:=I.tuple hb
  refine HT.cat_tup p1 p2 (fun z=>hx (r1.nil_iff.mp z)) (fun z=>⟨.ref a,H,I,rfl,q1 (r2.nil_iff.mp z)⟩) (fun z=>?_) (by rw [← r1.length,← r2.length]; exact hz)
  refine ⟨.ref s.heap.objs.size,_,I.laid (t':=s.toks) (o:=.tup (xs ++ ys)) (fun b ob q=>Heap.get?_push_of_some _ q) (Nat.le_refl _) ?_,rfl,q2 (fun w=>z (r2.nil_iff.mpr w)) _ (I.hok.fresh (Nat.le_refl _))⟩
  exact ⟨by rw [List.length_append]; exact hz,_,r1.append r2,IsTup.new _ _⟩
end
end L2
namespace L2
open PySem PySem.Spec PyProof.Rows
def ixN (n:Nat) (i:Int):Option Nat:=if 0 ≤ i then (if i < n then some i.toNat else none) else if -(n:Int) ≤ i then some (i + n).toNat else none
def atI {α:Type} (xs:List α) (i:Int):Option α:=(ixN xs.length i).bind fun j=>xs[j]?
theorem ixN_seq {n:Nat} {i:Int} {j:Nat} (h:ixN n i=some j):seqIndex? i n=some j∧j < n∧-(n:Int) ≤ i∧i < n:=by
  unfold ixN at h
  by_cases h0:0 ≤ i
  · rw [if_pos h0] at h
    by_cases h1:i < n
    · rw [if_pos h1] at h
      have e:i.toNat=j:=Option.some.inj h
      exact ⟨by rw [seqIndex_of h0 h1,e],by omega,by omega,h1⟩
    · rw [if_neg h1] at h; cases h
  · rw [if_neg h0] at h
    by_cases h1:-(n:Int) ≤ i
    · rw [if_pos h1] at h
      have e:(i + n).toNat=j:=Option.some.inj h
      exact ⟨by rw [seqIndex_neg (by omega) h1,e],by omega,h1,by omega⟩
    · rw [if_neg h1] at h; cases h
theorem atI_get {α:Type} {xs:List α} {i:Int} {v:α} (h:atI xs i=some v):∃ j,seqIndex? i xs.length=some j∧xs[j]?=some v∧j < xs.length∧-(xs.length:Int) ≤ i∧i < xs.length:=by
  unfold atI at h
  cases e:ixN xs.length i with
  | none=>rw [e] at h; cases h
  | some j =>
    rw [e] at h
    obtain ⟨h1,h2,h3,h4⟩:=ixN_seq e
    exact ⟨j,h1,h,h2,h3,h4⟩
theorem atI_nat {α:Type} {xs:List α} {j:Nat} {v:α} (h:xs[j]?=some v):atI xs (j:Int)=some v:=by
  have hj:j < xs.length:=(List.getElem?_eq_some_iff.mp h).1
  have e:ixN xs.length (j:Int)=some j:=by
    unfold ixN
    rw [if_pos (by omega),if_pos (by omega)]; simp
  unfold atI; rw [e]; exact h
theorem atI_last {α:Type} (xs:List α) (v:α):atI (xs ++ [v]) (-1)=some v:=by
  have hl:(xs ++ [v]).length=xs.length + 1:=by simp
  have e:ixN (xs ++ [v]).length (-1)=some xs.length:=by
    unfold ixN
    rw [hl,if_neg (by decide),if_pos (by omega)]
    congr 1
    omega
  unfold atI
  rw [e]
  show (xs ++ [v])[xs.length]?=some v
  simp
def PlainIx (b:Expr):Prop:=∀ o i,subscripted b false o i=operate [o,i] (getItem o i)
def IxR (X:Cx) (r:R2):Prop :=
  ∀ (value slice:Expr) (pins:List (Addr × Obj)) (s:Shared) (σ:St) (H:Hp) (x y:V) (v u:Value) (Q:VK),Inv X pins σ H s→RelV x v→RelV y u→r x y H Q →
    subscripted slice false v u=operate [v,u] (getItem v u)→wpAny (model X.prog X.w) X.A (subscriptTail value slice v u) (EP X pins σ Q) X.xe s
def MtR (X:Cx) (id:String) (r:V→List V→Hp→VK→Prop):Prop :=
  ∀ (pins:List (Addr × Obj)) (s:Shared) (σ:St) (H:Hp) (x:V) (xs:List V) (v:Value) (us:List Value) (Q:VK),Inv X pins σ H s→RelV x v→Vals xs us→r x xs H Q →
    wpAny (model X.prog X.w) X.A (call (.builtin id) (v :: us)) (EP X pins σ Q) X.xe s
section
variable {X:Cx} {a b:Expr} {ta tb:TE} {pos:Pos}
theorem pe_ix {r:R2} (hr:IxR X r) (ha:PE X a ta) (hb:PE X b tb) (hs:PlainIx b):PE X (.Subscript a b pos) (tOp r ta tb):=by
  intro pins s σ H Q I h
  exact Subscript_ (binT ha hb I h fun v u s2 x y H2 I2 rx ry q=>hr a b pins s2 σ H2 x y v u Q I2 rx ry q (hs _ _))
def rIxL (K:PySem.W.Frag):R2:=fun x y H Q=>∃ p xs i v,x=.ref p∧y=.int i∧SqL K H p xs∧atI xs i=some v∧Q v H
def rIxT (K:PySem.W.Frag):R2:=fun x y H Q=>∃ p xs i v,x=.ref p∧y=.int i∧SqT K H p xs∧atI xs i=some v∧Q v H
def rIxS:R2:=fun x y H Q=>∃ z i c,x=.str z∧y=.int i∧z.length ≤ sizeLine∧atI z.cps.toList i=some c∧Q (.str ⟨#[c]⟩) H
theorem ix_list:IxR X (rIxL X.K):=by
  intro value slice pins s σ H x y v u Q I rx ry h hs
  obtain ⟨p,xs,i,z,rfl,rfl,hq,he,q⟩:=h
  cases rx
  obtain ⟨t,rfl⟩:=ry
  obtain ⟨its,r,pl,hz⟩:=I.list hq
  obtain ⟨j,h1,h2,h3,h4,h5⟩:=atI_get he
  obtain ⟨w,ew,rw'⟩:=r.get h2
  have hl:=r.length
  have hn:=line63
  have fin:EP X pins σ Q w s:=⟨z,H,I,rw',q⟩
  by_cases h0:0 ≤ i
  · have hj:i.toNat=j:=by
      rw [seqIndex_of h0 h5] at h1
      exact Option.some.inj h1
    exact item_listR pl.isList h0 (by omega) (by rw [hj]; simpa using ew) fin hs
  · have hj:(i + (its.toArray.size:Int)).toNat=j:=by
      rw [seqIndex_neg (by omega) h4] at h1
      rw [List.size_toArray,← hl]
      exact Option.some.inj h1
    exact subscriptTail_builtinR (x:=w) pl.isList.typeIs slot_list_getitem.lookup
      (wpAny_getItem_list_neg (Q:=fun r s'=>r=w∧EP X pins σ Q r s') pl.isList (by omega) (by rw [List.size_toArray] <;> omega) (by omega) (by rw [hj]; simpa using ew) ⟨rfl,fin⟩) hs
theorem ix_tup:IxR X (rIxT X.K):=by
  intro value slice pins s σ H x y v u Q I rx ry h hs
  obtain ⟨p,xs,i,z,rfl,rfl,hq,he,q⟩:=h
  cases rx
  obtain ⟨t,rfl⟩:=ry
  obtain ⟨its,r,pl,hz⟩:=I.tuple hq
  obtain ⟨j,h1,h2,h3,h4,h5⟩:=atI_get he
  obtain ⟨w,ew,rw'⟩:=r.get h2
  have hl:=r.length
  have hn:=line63
  have fin:EP X pins σ Q w s:=⟨z,H,I,rw',q⟩
  exact subscriptTail_builtinR (x:=w) pl.typeIs slot_tuple_getitem.lookup
    (getItem_tuple (j:=j) (Q:=fun r s'=>r=w∧EP X pins σ Q r s') pl (by omega) (by omega) (by rw [List.size_toArray,← hl]; exact h1) (by simpa using ew) ⟨rfl,fin⟩) hs
theorem ix_str:IxR X rIxS:=by
  intro value slice pins s σ H x y v u Q I rx ry h hs
  obtain ⟨z,i,c,rfl,rfl,hz,he,q⟩:=h
  obtain ⟨t,rfl⟩:=rx
  obtain ⟨t',rfl⟩:=ry
  obtain ⟨j,h1,h2,h3,h4,h5⟩:=atI_get he
  have hl:z.cps.toList.length=z.length:=by simp [Str.length]
  rw [hl] at h1 h4 h5
  have hn:=line63
  exact tail_any (typeIs_str s z t) slot_str_getitem.lookup (getItem_str (c:=c) (by
    have e1:decide (i < -(2 ^ 63:Int))=false:=decide_eq_false (by omega)
    have e2:decide (i ≥ 2 ^ 63)=false:=decide_eq_false (by omega)
    rw [e1,e2,Bool.or_false]) (by rw [h1]; simpa using h2) ⟨.str ⟨#[c]⟩,H,I.tok _,⟨_,rfl⟩,q⟩) hs
theorem mapSeq_set (its:List Value) (n j:Nat) (u:Value):Obj.mapSeq (·.setIfInBounds j u) { cls:=.type "list",data:=.seq its.toArray n }={ cls:=.type "list",data:=.seq (its.set j u).toArray n }:=by
  simp [Obj.mapSeq]
theorem Inv.lst {pins:List (Addr × Obj)} {σ:St} {H:Hp} {s:Shared} {p:Addr} {xs:List V} (I:Inv X pins σ H s) (h:H p=some (.lst xs)) :
    ∃ (its:List Value) (n:Nat),Vals xs its∧s.heap.get? p=some { cls:=.type "list",data:=.seq its.toArray n }∧xs.length ≤ sizeLine:=by
  obtain ⟨z,its,n,r,e⟩:=I.hok p _ h
  exact ⟨its,n,r,e,z⟩
theorem Inv.lstUpd {pins:List (Addr × Obj)} {σ:St} {H:Hp} {s:Shared} {p:Addr} {xs ys:List V} {its its':List Value} {n n':Nat} {f:Obj→Obj} (I:Inv X pins σ H s) (h:H p=some (.lst xs))
    (ho:s.heap.get? p=some { cls:=.type "list",data:=.seq its.toArray n }) (hf:f { cls:=.type "list",data:=.seq its.toArray n }={ cls:=.type "list",data:=.seq its'.toArray n' }) (r:Vals ys its') (hz:ys.length ≤ sizeLine) (t:Nat) :
    Inv X pins σ (upd H p (.lst ys)) { s with heap:=s.heap.update p f,toks:=t }:=by
  have e:(s.heap.update p f).get? p=some { cls:=.type "list",data:=.seq its'.toArray n' }:=by
    rw [Heap.get?_update_self f ho (by rw [hf] <;> rfl),hf]
  refine I.write (x:=p) (e:=p) (by rw [h]; trivial) (.inl rfl) (fun b u hb q=>(Heap.get?_update_other _ _ (Ne.symm hb)).trans q) ⟨_,e⟩ ?_
  exact ⟨hz,its',n',r,e⟩
def rSetL:V→V→V→Hp→(Hp→Prop)→Prop:=fun o i v H Q=>∃ p xs k j,o=.ref p∧i=.int k∧H p=some (.lst xs)∧ixN xs.length k=some j∧Q (upd H p (.lst (xs.set j v)))
theorem set_list:PSet X rSetL:=by
  intro pins s σ H o i v ov iv u Q I ro ri rv h
  obtain ⟨p,xs,k,j,rfl,rfl,hp,hj,q⟩:=h
  cases ro
  obtain ⟨t,rfl⟩:=ri
  obtain ⟨its,n,r,ho,hz⟩:=I.lst hp
  obtain ⟨h1,h2,h3,h4⟩:=ixN_seq hj
  have hl:=r.length
  have hn:=line63
  have I':Inv X pins σ (upd H p (.lst (xs.set j v))) { s with heap:=s.heap.update p (Obj.mapSeq (·.setIfInBounds j u)) } :=
    I.lstUpd hp ho (mapSeq_set its n j u) (r.set rv j) (by rw [List.length_set]; exact hz) s.toks
  by_cases h0:0 ≤ k
  · have hk:k.toNat=j:=by
      rw [seqIndex_of h0 h4] at h1
      exact Option.some.inj h1
    exact PySem.W.ki_setAt ho h0 (by omega) (by rw [List.size_toArray,← hl]; exact h4) (by rw [hk]; exact ⟨_,I',q⟩)
  · have hk:(k + (its.toArray.size:Int)).toNat=j:=by
      rw [seqIndex_neg (by omega) h3] at h1
      rw [List.size_toArray,← hl]
      exact Option.some.inj h1
    exact PySem.W.ki_setBack ho (by omega) (by rw [List.size_toArray,← hl]; exact h3) (by omega) (by rw [hk]; exact ⟨_,I',q⟩)
theorem slice_bounds (lo hi:Option Int) (n:Nat):(sliceBounds lo hi none n).1=((HT.sIx n 0 lo:Nat):Int)∧(sliceBounds lo hi none n).2.1=((HT.sIx n n hi:Nat):Int)∧(sliceBounds lo hi none n).2.2=1:=by
  refine ⟨?_,?_,rfl⟩
  · cases lo with
    | none=>simp [sliceBounds,HT.sIx]
    | some i =>
      simp only [sliceBounds,HT.sIx,Option.getD_none,show (1:Int) > 0 by decide,if_true]
      by_cases h:i < 0
      · simp only [h,if_true] <;> omega
      · simp only [h,if_false] <;> omega
  · cases hi with
    | none=>simp [sliceBounds,HT.sIx]
    | some i =>
      simp only [sliceBounds,HT.sIx,Option.getD_none,show (1:Int) > 0 by decide,if_true]
      by_cases h:i < 0
      · simp only [h,if_true] <;> omega
      · simp only [h,if_false] <;> omega
theorem slicePick_cut (its:List Value) (lo hi:Option Int):slicePick its.toArray lo hi none=((its.drop (HT.sIx its.length 0 lo)).take (HT.sIx its.length its.length hi - HT.sIx its.length 0 lo)).toArray:=by
  obtain ⟨h1,h2,h3⟩:=slice_bounds lo hi its.toArray.size
  unfold slicePick
  rw [h1,h2,h3]
  simp only [sliceRange_one,pick_run,List.size_toArray] <;> rfl
def rSlL (K:PySem.W.Frag):V→Option Int→Option Int→Hp→VK→Prop:=fun x lo hi H Q=>∃ a xs,x=.ref a∧SqL K H a xs∧∀ p,H p=none→Q (.ref p) (upd H p (.lst (cutV xs lo hi)))
theorem sl_list:SlR X (rSlL X.K):=by
  intro pins s σ H x v vl vu lo hi sl Q I rx hs pl pu h
  obtain ⟨a,xs,rfl,hx,q⟩:=h
  cases rx
  obtain ⟨its,r,ht,hz⟩:=I.list hx
  have hlen:=r.length
  refine ⟨"list",_,slot_list_getitem.lookup,ht.isList.typeIs,?_⟩
  refine wpAny_getItem_list_slice ht.isList hs pl pu .none (by simp) ?_ (by rw [List.size_toArray] <;> omega)
  rw [slicePick_cut,← hlen]
  refine ⟨.ref s.heap.objs.size,_,I.laid (t':=s.toks) (o:=.lst (cutV xs lo hi)) (fun b ob q=>Heap.get?_push_of_some _ q) (Nat.le_refl _) ?_,rfl,q _ (I.hok.fresh (Nat.le_refl _))⟩
  exact ⟨Nat.le_trans (cutV_length xs lo hi) hz,_,0,(r.drop (HT.sIx xs.length 0 lo)).take (HT.sIx xs.length xs.length hi - HT.sIx xs.length 0 lo),Heap.get?_push_size _ rfl⟩
def flatV:V→Bool
  | .non=>true
  | .bl _=>true
  | .int _=>true
  | .str _=>true
  | _=>false
def eqV:V→V→Bool
  | .non,.non=>true
  | .bl a,.bl b=>a == b
  | .bl a,.int b=>(if a then 1 else 0) == b
  | .int a,.bl b=>a == (if b then 1 else 0)
  | .int a,.int b=>a == b
  | .str a,.str b=>a == b
  | _,_=>false
theorem eqAt_V {A:Around} {s:Shared} {y x:V} {u v:Value} (ry:RelV y u) (rx:RelV x v) (fy:flatV y=true) (fx:flatV x=true):SeqAt.EqAt A s u v (eqV y x):=by
  cases y with
  | non =>
    cases ry
    cases x with
    | non=>cases rx; exact SeqAt.EqAt.same _
    | bl b=>cases rx; exact SeqAt.EqAt.none_bool b
    | int b=>obtain ⟨t,rfl⟩:=rx; exact SeqAt.EqAt.none_int b t
    | str b=>obtain ⟨t,rfl⟩:=rx; exact SeqAt.EqAt.none_str b t
    | _=>exact absurd (show false=true from fx) Bool.false_ne_true
  | bl a =>
    cases ry
    cases x with
    | non=>cases rx; exact SeqAt.EqAt.bool_none a
    | bl b=>cases rx; exact SeqAt.EqAt.bool_bool a b
    | int b=>obtain ⟨t,rfl⟩:=rx; exact SeqAt.EqAt.bool_int a b t
    | str b=>obtain ⟨t,rfl⟩:=rx; exact SeqAt.EqAt.bool_str a b t
    | _=>exact absurd (show false=true from fx) Bool.false_ne_true
  | int a =>
    obtain ⟨t',rfl⟩:=ry
    cases x with
    | non=>cases rx; exact SeqAt.EqAt.int_none a t'
    | bl b=>cases rx; exact SeqAt.EqAt.int_bool a t' b
    | int b=>obtain ⟨t,rfl⟩:=rx; exact SeqAt.EqAt.int_int a t' b t
    | str b=>obtain ⟨t,rfl⟩:=rx; exact SeqAt.EqAt.int_str a t' b t
    | _=>exact absurd (show false=true from fx) Bool.false_ne_true
  | str a =>
    obtain ⟨t',rfl⟩:=ry
    cases x with
    | non=>cases rx; exact SeqAt.EqAt.str_none a t'
    | bl b=>cases rx; exact SeqAt.EqAt.str_bool a t' b
    | int b=>obtain ⟨t,rfl⟩:=rx; exact SeqAt.EqAt.str_int a t' b t
    | str b=>obtain ⟨t,rfl⟩:=rx; exact SeqAt.EqAt.str_str a t' b t
    | _=>exact absurd (show false=true from fx) Bool.false_ne_true
  | _=>exact absurd (show false=true from fy) Bool.false_ne_true
def eqU (x:V) (u:Value):Bool:=match u with
  | .none=>eqV .non x
  | .bool b=>eqV (.bl b) x
  | .int i _=>eqV (.int i) x
  | .str z _=>eqV (.str z) x
  | _=>false
theorem eqU_of {x y:V} {u:Value} (r:RelV y u) (f:flatV y=true):eqU x u=eqV y x:=by
  cases y with
  | non=>cases r; rfl
  | bl b=>cases r; rfl
  | int i=>obtain ⟨t,rfl⟩:=r; rfl
  | str z=>obtain ⟨t,rfl⟩:=r; rfl
  | _=>exact absurd (show false=true from f) Bool.false_ne_true
theorem any_eqU {x:V}:∀ {xs:List V} {us:List Value},Vals xs us→xs.all flatV=true→us.any (eqU x)=xs.any fun y=>eqV y x
  | _,_,.nil,_=>rfl
  | y :: xs,u :: us,.cons r t,f=>by
    rw [List.all_cons,Bool.and_eq_true] at f
    rw [List.any_cons,List.any_cons,eqU_of r f.1,any_eqU t f.2]
theorem mem_eqAt {A:Around} {s:Shared} {x:V} {v:Value} (rx:RelV x v) (fx:flatV x=true):∀ {xs:List V} {us:List Value},Vals xs us→xs.all flatV=true→∀ u ∈ us,SeqAt.EqAt A s u v (eqU x u)
  | _,_,.nil,_=>fun u hu=>by cases hu
  | y :: xs,u :: us,.cons r t,f=>fun u' hu=>by
    rw [List.all_cons,Bool.and_eq_true] at f
    rcases List.mem_cons.mp hu with rfl | hu
    · rw [eqU_of r f.1]; exact eqAt_V r rx f.1 fx
    · exact mem_eqAt rx fx t f.2 u' hu
def inV (x:V) (xs:List V):Bool:=xs.any fun y=>eqV y x
def rIn (K:PySem.W.Frag) (neg:Bool):R2:=fun x y H Q=>∃ p xs,y=.ref p∧(SqL K H p xs ∨ SqT K H p xs)∧flatV x=true∧xs.all flatV=true∧Q (.bl (if neg then !inV x xs else inV x xs)) H
theorem op_in_seq:OpR X (compareOp .In) (rIn X.K false):=by
  intro pins s σ H x y v u Q I rx ry h
  obtain ⟨p,xs,rfl,hq,fx,fs,q⟩:=h
  cases ry
  rcases hq with hq | hq
  · obtain ⟨its,r,pl,hz⟩:=I.list hq
    refine SeqAt.in_listAt (eqU x) pl.isList (fun w hw=>mem_eqAt rx fx r fs w (by simpa using hw)) ⟨.bl _,H,I,rfl,?_⟩
    rw [show its.toArray.any (eqU x)=its.any (eqU x) by simp,any_eqU r fs]
    exact q
  · obtain ⟨its,r,pl,hz⟩:=I.tuple hq
    refine SeqAt.in_tupleAt (eqU x) pl (fun w hw=>mem_eqAt rx fx r fs w (by simpa using hw)) ⟨.bl _,H,I,rfl,?_⟩
    rw [show its.toArray.any (eqU x)=its.any (eqU x) by simp,any_eqU r fs]
    exact q
theorem call_len_seq:CallR X (.builtin "len") (fun xs H Q=>∃ p ys,xs=[.ref p]∧(SqL X.K H p ys ∨ SqT X.K H p ys)∧Q (.int ys.length) H):=by
  intro pins s σ H xs us Q I r h
  obtain ⟨p,ys,rfl,hq,q⟩:=h
  obtain ⟨u,rfl,rx⟩:=vals1 r
  cases rx
  have hn:=line63
  rcases hq with hq | hq
  · obtain ⟨its,r',pl,hz⟩:=I.list hq
    have hlen:=r'.length
    exact Calls.call_len_list pl.isList (by simp only [List.size_toArray] <;> omega) ⟨.int ys.length,H,I.tok _,⟨s.toks + 1,by rw [List.size_toArray,hlen]⟩,q⟩
  · obtain ⟨its,r',pl,hz⟩:=I.tuple hq
    have hlen:=r'.length
    exact len_tuple pl (by simp only [List.size_toArray] <;> omega) ⟨.int ys.length,H,I.tok _,⟨s.toks + 1,by rw [List.size_toArray,hlen]⟩,q⟩
theorem call_list_of:CallR X (.type "list") (fun xs H Q=>∃ p ys,xs=[.ref p]∧(SqL X.K H p ys ∨ SqT X.K H p ys)∧∀ l,H l=none→Q (.ref l) (upd H l (.lst ys))):=by
  intro pins s σ H xs us Q I r h
  obtain ⟨p,ys,rfl,hq,q⟩:=h
  obtain ⟨u,rfl,rx⟩:=vals1 r
  cases rx
  have fin:∀ (its:List Value),Vals ys its→ys.length ≤ sizeLine→∀ (h':Heap) (c':Nat),(∀ b o',s.heap.get? b=some o'→h'.get? b=some o') →
      h'.get? s.heap.objs.size=some { cls:=.type "list",dict:=none,data:=.seq its.toArray c',slots:=#[] }→EP X pins σ Q (.ref s.heap.objs.size) { s with heap:=h' }:=fun its r' hz h' c' kp e =>
    ⟨.ref s.heap.objs.size,_,I.laid (t':=s.toks) kp (Nat.le_refl _) (show ObjOk X.prog X.w _ h' _ (.lst ys) from ⟨hz,its,c',r',e⟩),rfl,q _ (I.hok.fresh (Nat.le_refl _))⟩
  rcases hq with hq | hq
  · obtain ⟨its,r',pl,hz⟩:=I.list hq
    have hlen:=r'.length
    obtain ⟨o,ho,hc,n,hd⟩:=pl.isList
    exact call_list_seq p (.inl rfl) ho hc hd (fun h' c' kp e=>fin its r' hz h' c' kp e) (by simp only [List.size_toArray] <;> omega)
  · obtain ⟨its,r',pl,hz⟩:=I.tuple hq
    have hlen:=r'.length
    obtain ⟨o,ho,hc,n,hd⟩:=pl
    exact call_list_seq p (.inr rfl) ho hc hd (fun h' c' kp e=>fin its r' hz h' c' kp e) (by simp only [List.size_toArray] <;> omega)
theorem call_tuple_of:CallR X (.type "tuple") (fun xs H Q=>∃ p ys,xs=[.ref p]∧((SqL X.K H p ys∧∀ l,H l=none→Q (.ref l) (upd H l (.tup ys))) ∨ (SqT X.K H p ys∧Q (.ref p) H))):=by
  intro pins s σ H xs us Q I r h
  obtain ⟨p,ys,rfl,h⟩:=h
  obtain ⟨u,rfl,rx⟩:=vals1 r
  cases rx
  rcases h with ⟨hq,q⟩ | ⟨hq,q⟩
  · obtain ⟨its,r',pl,hz⟩:=I.list hq
    have hlen:=r'.length
    refine call_tuple_list pl.isList (fun h' kp=>?_) (by simp only [List.size_toArray] <;> omega)
    have I1:Inv X pins σ H { s with heap:=h' }:=I.kept (t':=s.toks) kp
    have I2:Inv X pins σ (upd H h'.objs.size (.tup ys)) { s with heap:=h'.push { cls:=.type "tuple",data:=.seq its.toArray } } :=
      I1.laid (t':=s.toks) (fun b o e=>Heap.get?_push_of_some _ e) (Nat.le_refl _) (show ObjOk X.prog X.w _ _ _ (.tup ys) from ⟨hz,its,r',IsTup.new _ _⟩)
    exact ⟨.ref h'.objs.size,_,I2,rfl,q _ (I1.hok.fresh (Nat.le_refl _))⟩
  · obtain ⟨its,r',pl,hz⟩:=I.tuple hq
    exact call_tuple_same pl ⟨.ref p,H,I,rfl,q⟩
def tyV (K:PySem.W.Frag) (T:String) (x:V) (H:Hp):Prop:=match x with
  | .str _=>T="str"
  | .int _=>T="int"
  | .ref p=>(T="list"∧∃ xs,SqL K H p xs) ∨ (T="tuple"∧∃ o,K.lookup p=some o∧o.cls=.type "tuple"∧o.dict=none) ∨
      (T="dict"∧((∃ kvs,H p=some (.dK kvs)) ∨ ∃ kvs,H p=some (.dT kvs))) ∨ (T="set"∧∃ S n,H p=some (.set S n))
  | _=>False
theorem tyV_is {pins:List (Addr × Obj)} {σ:St} {H:Hp} {s:Shared} {T:String} {x:V} {v:Value} (I:Inv X pins σ H s) (r:RelV x v) (ty:tyV X.K T x H) :
    s.TypeIs v T∧∀ a,v=.ref a→∃ ob,s.heap.get? a=some ob∧ob.dict=none:=by
  cases x with
  | str z =>
    obtain ⟨t,rfl⟩:=r
    cases (show T="str" from ty)
    exact ⟨typeIs_str s z t,fun _ e=>nomatch e⟩
  | int i =>
    obtain ⟨t,rfl⟩:=r
    cases (show T="int" from ty)
    exact ⟨typeIs_int s i t,fun _ e=>nomatch e⟩
  | ref p =>
    cases r
    rcases ty with ⟨rfl,xs,hq⟩ | ⟨rfl,o,hk,hc,hd⟩ | ⟨rfl,hk⟩ | ⟨rfl,S,n,hk⟩
    · obtain ⟨its,_,pl,_⟩:=I.list hq
      refine ⟨pl.isList.typeIs,fun a e=>?_⟩
      cases e
      obtain ⟨o,n,e,c,hd,_⟩:=pl
      exact ⟨o,e,hd⟩
    · refine ⟨⟨o,I.kIn p o hk,hc⟩,fun a e=>?_⟩
      cases e
      exact ⟨o,I.kIn _ o hk,hd⟩
    · have z:∃ o,s.heap.get? p=some o∧o.ExactDict:=by
        rcases hk with ⟨kvs,hk⟩ | ⟨kvs,hk⟩
        · obtain ⟨_,_,_,_,o,_,_,e,ex,_⟩:=I.hok p _ hk
          exact ⟨o,e,ex⟩
        · obtain ⟨_,_,_,_,o,_,_,e,ex,_⟩:=I.hok p _ hk
          exact ⟨o,e,ex⟩
      obtain ⟨o,e,ex⟩:=z
      refine ⟨⟨o,e,ex.1⟩,fun a e2=>?_⟩
      cases e2
      exact ⟨o,e,ex.2.1⟩
    · obtain ⟨o,_,_,_,e,ex,_⟩:=I.hok p _ hk
      refine ⟨⟨o,e,ex.1⟩,fun a e2=>?_⟩
      cases e2
      exact ⟨o,e,ex.2.1⟩
  | _=>exact False.elim ty
def tBM (K:PySem.W.Frag) (T:String) (r:V→List V→Hp→VK→Prop) (to:TE) (t:TA):TE:=fun σ H Q=>to σ H fun x H1=>tyV K T x H1∧t σ H1 fun xs H2=>r x xs H2 Q
variable {o e:Expr} {es:List Expr} {to:TE} {t:TA} {name:Str} {apos cpos:Pos} {T id:String} {r:V→List V→Hp→VK→Prop}
theorem pe_bm (pa:PlainAttrs T) (slot:Slot T name id) (hty:typeOf (.builtin id)=pure (.type "method_descriptor")) (hm:MtR X id r) (ho:PE X o to) (ha:PA X (e :: es) t)
    (hbase:attributeBase o name X.env (eval o X.env)=eval o X.env:=by rfl)
    (hfew:((backTo cpos (starEach (e :: es) X.env)).all (fun x=>!x.1) && (backToKw cpos (keywordEach [] X.env)).all (fun x=>x.1.isSome)
      && decide ((e :: es).length + ([]:List Keyword).length + (if ([]:List Keyword).isEmpty then 0 else 1) < 30))=true:=by rfl)
    (hline:(apos.endLine == cpos.line)=true:=by rfl) (hs:starEach (e :: es) X.env=(false,eval e X.env) :: starEach es X.env:=by rfl) (hplain:(backTo cpos (starEach es X.env)).any (·.1)=false:=by rfl) :
    PE X (.Call (.Attribute o name apos) (e :: es) [] cpos) (tBM X.K T r to t):=by
  intro pins s σ H Q I h
  refine wpAny_Call_method_late hbase hfew hline rfl (thn (ho pins s σ H _ I h) fun v s1 ⟨x,H1,I1,r1,ty,q1⟩=>?_)
  obtain ⟨h1,h2⟩:=tyV_is I1 r1 ty
  refine ⟨T,id,pa,slot,hty,h1,h2,?_⟩
  have hA:=ha cpos pins s1 σ H1 _ I1 q1
  rw [hs] at hA ⊢
  refine Calls.callWith_builtin (by show (false || (backTo cpos (starEach es X.env)).any (·.1))=false; rw [hplain] <;> rfl) (Calls.evalArgs_plain ?_)
  exact thn hA fun us s2 ⟨vs,H2,I2,r2,q2⟩=>hm pins s2 σ H2 x vs v us Q I2 r1 r2 q2
end
end L2
namespace L2
open PySem PySem.Spec PyProof.Rows
def MtM (X:Cx) (id:String) (r:V→List V→Hp→VK→Prop):Prop :=
  ∀ (pins:List (Addr × Obj)) (s:Shared) (σ:St) (H:Hp) (x:V) (xs:List V) (v:Value) (us:List Value) (Q:VK),Inv X pins σ H s→RelV x v→Vals xs us→r x xs H Q →
    wpAny (model X.prog X.w) X.A (call (.builtin id) (v :: us)) (EP X pins σ Q) X.xe s
theorem Vals.one:∀ {x:V} {us:List Value},Vals [x] us→∃ u,us=[u]∧RelV x u
  | _,_,.cons r .nil=>⟨_,rfl,r⟩
section
variable {X:Cx} {pins:List (Addr × Obj)} {σ:St} {H:Hp} {s:Shared} {l b:Addr} {xs ys zs:List V}
theorem Inv.lset {its its':List Value} {n:Nat} {f:Array Value→Array Value} {t':Nat} (I:Inv X pins σ H s) (hH:H l=some (.lst xs))
    (e:s.heap.get? l=some { cls:=.type "list",data:=.seq its.toArray n }) (hf:f its.toArray=its'.toArray) (hv:Vals ys its') (hz:ys.length ≤ sizeLine) :
    Inv X pins σ (upd H l (.lst ys)) { s with heap:=s.heap.update l (Obj.mapSeq f),toks:=t' }:=by
  have q:=PySem.IsL.update e f
  rw [hf] at q
  refine I.write (x:=l) (e:=l) (by rw [hH]; exact trivial) (.inl rfl) (fun b' u hb hu=>(Heap.get?_update_other s.heap (Obj.mapSeq f) (Ne.symm hb)).trans hu) ⟨_,q⟩ ?_
  exact ⟨hz,its',_,hv,q⟩
theorem Inv.lnew {its:List Value} {t':Nat} (I:Inv X pins σ H s) (hv:Vals ys its) (hz:ys.length ≤ sizeLine) :
    Inv X pins σ (upd H s.heap.objs.size (.lst ys)) { s with heap:=s.heap.push { cls:=.type "list",data:=.seq its.toArray },toks:=t' } :=
  I.laid (fun _ _ q=>Heap.get?_push_of_some _ q) (Nat.le_refl _) ⟨hz,its,0,hv,Heap.get?_push_size _ rfl⟩
theorem Inv.fresh (I:Inv X pins σ H s):H s.heap.objs.size=none:=I.hok.fresh (Nat.le_refl _)
theorem Inv.lstM (I:Inv X pins σ H s) (hH:H l=some (.lst xs)):xs.length ≤ sizeLine∧∃ (its:List Value) (n:Nat),Vals xs its∧xs.length=its.length∧s.heap.get? l=some { cls:=.type "list",data:=.seq its.toArray n }:=by
  obtain ⟨z,its,n,r,e⟩:=I.hok l _ hH
  exact ⟨z,its,n,r,r.length,e⟩
end
section
variable {X:Cx}
def rAppend:V→List V→Hp→VK→Prop:=fun x vs H Q=>∃ l xs y,x=.ref l∧vs=[y]∧H l=some (.lst xs)∧xs.length < sizeLine∧Q .non (upd H l (.lst (xs ++ [y])))
theorem mt_append:MtM X "list.append" rAppend:=by
  intro pins s σ H x vs v us Q I rx rv h
  obtain ⟨l,xs,y,rfl,rfl,hH,hz,q⟩:=h
  cases rx
  obtain ⟨u,rfl,ru⟩:=rv.one
  obtain ⟨z,its,n,r,hl,e⟩:=I.lstM hH
  refine call_meets F.slot_list_append ⟨_,e,rfl⟩ F.entry_list_append (F.args_list_append_2 _ _) (PySem.list_append l its.toArray n u (by rw [List.size_toArray]; omega)) ⟨e,?_⟩
  refine ⟨.non,_,I.lset (its':=its ++ [u]) hH e (by simp) (r.append (.cons ru .nil)) ?_,rfl,q⟩
  rw [List.length_append,List.length_singleton]
  omega
def rCat:R2:=fun x y H Q=>∃ l b xs zs,x=.ref l∧y=.ref b∧H l=some (.lst xs)∧H b=some (.lst zs)∧xs.length + zs.length ≤ sizeLine∧∀ p,H p=none→Q (.ref p) (upd H p (.lst (xs ++ zs)))
theorem op_cat:OpR X (binaryOp .Add) rCat:=by
  intro pins s σ H x y v u Q I rx ry h
  obtain ⟨l,b,xs,zs,rfl,rfl,hH,hB,hz,q⟩:=h
  cases rx
  cases ry
  obtain ⟨z,its,n,r,hl,e⟩:=I.lstM hH
  obtain ⟨z2,its2,n2,r2,hl2,e2⟩:=I.lstM hB
  refine PySem.P.add_list e e2 ?_ (by rw [List.size_toArray,List.size_toArray]; omega)
  have ea:its.toArray ++ its2.toArray=(its ++ its2).toArray:=by simp
  rw [ea]
  exact ⟨.ref _,_,I.lnew (t':=s.toks) (r.append r2) (by rw [List.length_append]; omega),rfl,q _ I.fresh⟩
end
section
variable {prog:Program} {w:World} {A:Around} {E:Value→Shared→Prop} {s:Shared}
end
section
variable {X:Cx}
end
end L2
namespace Att
open PySem PySem.W PySem.Calls PyProof.Rows
theorem ints_of_wellAll {P:Params} {h:Heap}:∀ (ns:List Int) (vs:List Value),WellAll P h vs (ns.map WData.int)→IntsAre vs ns:=by
  intro ns
  induction ns with
  | nil =>
    intro vs w
    rw [List.map_nil] at w
    cases w
    exact .nil
  | cons n ns ih =>
    intro vs w
    rw [List.map_cons] at w
    cases w with
    | cons a b =>
      cases a
      exact .cons _ _ (ih _ b)
theorem script_of {l:OpenLaw} {n:Nat} (hn:l.most=some n) {P:Params} {h:Heap} {args:List WData} {vals:List Value}
    (hpre:l.row.toRowW.claim.pre args=true) (hwl:WellAll P h vals args) :
    ∃ a vs ns,vals=[Value.ref a]∧args=[WData.list (ns.map WData.int)]∧h.get? a=some { cls:=.type "list",data:=.seq vs.toArray }∧IntsAre vs ns∧ns.length ≤ n:=by
  have hsh:WShape.hasAll [] args [.list .int]=true:=(pre_splitW hpre).1
  have hc:l.pre.holds [] { args:=args }=true:=(pre_splitW hpre).2
  obtain ⟨d,r,rfl,h1,h2⟩:=hasAllW_cons hsh
  obtain rfl:=hasAllW_nil h2
  obtain ⟨xs,rfl,h3⟩:=hasW_list h1
  obtain ⟨ns,rfl⟩:=items_int h3
  have hlen:ns.length ≤ n:=by
    unfold OpenLaw.pre at hc
    have h4:(WTm.not (.lt (.lit (.int (n:Int))) (.len (.arg 0)))).holds [] { args:=[.list (ns.map .int)] }=true:=by
      have h4:=(holds_andW hc).1
      rw [hn] at h4
      exact h4
    have h5:=condW_of h4 (w_not (w_lt w_lit (w_len_list (w_arg rfl))))
    rw [List.length_map] at h5
    refine Nat.le_of_not_lt fun q=>?_
    have q':(n:Int) < ((ns.length:Nat):Int):=by omega
    first
      | (rw [decide_eq_true q'] at h5; exact absurd h5 (by decide))
      | (simp at h5; omega)
  cases hwl with
  | cons w1 w2 =>
    cases w2
    cases w1 with
    | list ho hall=>exact ⟨_,_,ns,rfl,rfl,ho,ints_of_wellAll ns _ hall,hlen⟩
theorem post_true (l:OpenLaw) (args:List WData):l.row.toRowW.claim.post args (.bool true) args=true :=
  postW_of (r:=l.row.toRowW) (X:=(true == true))
    (show WShape.has [] (.bool true) .bool=true by first | rfl | decide | simp [WShape.has,WShape.arms,WShape.armsAll])
    (show (WTm.eq .res (.lit (.bool true))).value [] { args:=args,res:=some (.bool true),after:=args }=some (.bool (true == true)) from w_eq_bool (w_res rfl) w_lit) rfl
theorem attach_call {l:OpenLaw} {n:Nat} {q:Program} {loose:List Str} {XP:(Str→Option Value)→Heap→Prop} {YP:World→Heap→Prop} {d:DefRec}
    (hn:l.most=some n) (hdf:d.params.defaults=[])
    (call:∀ (w:World) (s₀ s₁:Shared) (mg mb:Str→Option Value) (fa:Addr) (o:Obj) (pm cd doc:Value) (a:Addr) (vs:List Value) (ns:List Int),
      Ground q loose [] XP w s₀ mg mb s₁.heap→YP w s₁.heap →
      s₁.heap.get? fa=some o→o.data=.func (docDef d.name d.params d.body d.scope pm cd doc)→s₁.heap.CodeRec cd d.name→mg d.name=some (.ref fa) →
      s₁.heap.get? a=some { cls:=.type "list",data:=.seq vs.toArray }→IntsAre vs ns→ns.length ≤ n→s₁.gens=#[] →
      codeAny (model l.prog w) callerA (.call (.ref fa) ⟨[.ref a],[]⟩) (fun r s'=>r=.ok (.ret (.bool true))∧OldK s₁.heap s'.heap∧s'.os=s₁.os∧AllBare s'.gens) s₁) :
    WalkO q loose XP YP l.row.toRowW d [] (fun f vs=>PySem.call f vs):=by
  intro w s₀ s₁ mg mb G Y fa o pm cd doc dV kV ho hd hcd hD hmg hg args vals as hpre hlay hrd hwl hlo
  obtain rfl:dV=.none:=Dflts.none hD hdf
  obtain rfl:kV=.none:=Dflts.noKw hD
  obtain ⟨a,vs,ns,rfl,rfl,hobj,hints,hlen⟩:=script_of hn hpre hwl
  refine enter_call (codeAny_mono (call w s₀ s₁ mg mb fa o pm cd doc a vs ns G Y ho (fd_plain hd) hcd hmg hobj hints hlen hg) fun r s' hq=>?_)
  obtain ⟨rfl,h2,h3,h4⟩:=hq
  exact ⟨.inl ⟨.bool true,.bool true,[],rfl,fun _=>rfl,.bool true,post_true l _,fun _=>⟨List.Pairwise.nil,fun _ hm=>(nomatch hm)⟩⟩,h2,h3,h4⟩
section
variable {prog:Program} {w:World} {A:Around} {E:Value→Shared→Prop} {s:Shared} {K:Frag}
end
end Att
namespace L2
open PySem PySem.Spec PyProof.Rows
theorem vals_ints:∀ {vs:List Value} {ns:List Int},IntsAre vs ns→Vals (ns.map V.int) vs
  | _,_,.nil=>.nil
  | _,_,.cons n t h=>.cons ⟨t,rfl⟩ (vals_ints h)
def Only (H:Hp):Prop:=∀ b,H b=none ∨ ∃ o xs,H b=some (.frz o (.lst xs))
theorem law_call {P:Program} {w:World} {K:PySem.W.Frag} {mg mb:Str→Option Value} {CX:CXT} {k:Nat} {fa a:Addr} {fd:FuncData} {x:Str} {sp:Sp} {s₁:Shared} {vs:List Value} {ns:List Int}
    (KX:K.In s₁.heap) (hns:s₁.heap.Ns mainGlobals mg) (hb:s₁.heap.Ns builtinsNs mb) (hbb:∀ x:Str,x ≠ "__name__"→mb x=bootBuiltins x) (hlim:s₁.heap.NoLimit) (hg:s₁.gens=#[])
    (ha:s₁.heap.get? a=some { cls:=.type "list",data:=.seq vs.toArray }) (hi:IntsAre vs ns) (hl:ns.length ≤ sizeLine) (hr:Room k callerA)
    (F:∀ base:Heap,K.In base→base.Ns mainGlobals mg→FnOk P w K mg base CX k fa fd [x] sp) (hbind:∀ (s:Shared) (u:Value),BindsTo s fd ⟨[u],[]⟩ [(x,u)])
    (hsp:∀ H:Hp,Only H→SqL K H a (ns.map V.int)→sp [.ref a] H (fun v _=>v=.bl true) fun _ _ _=>False)
    (hCX:∀ H e s',CX [] H s₁ (fun _ _ _=>False) e s'→False) :
    codeAny (model P w) callerA (.call (.ref fa) ⟨[.ref a],[]⟩) (fun r s'=>r=.ok (.ret (.bool true))∧OldK s₁.heap s'.heap∧s'.os=s₁.os∧AllBare s'.gens) s₁:=by
  have rv:=vals_ints hi
  have lenV:=hi.length
  -- from an abstract heap in which nothing but the script may be tracked
  have core:∀ H:Hp,Only H→SqL K H a (ns.map V.int)→HOk P w H s₁.heap→(∀ b,H b ≠ none→b=a)→(H a ≠ none→K.lookup a=none) →
      codeAny (model P w) callerA (.call (.ref fa) ⟨[.ref a],[]⟩) (fun r s'=>r=.ok (.ret (.bool true))∧OldK s₁.heap s'.heap∧s'.os=s₁.os∧AllBare s'.gens) s₁:=by
    intro H hO hS hok hA hK
    have base_of:∀ {b:Addr} {o:Obj},s₁.heap.get? b=some o→H b=none→(hidT s₁.heap H).get? b=some o:=fun e n=>hidT_get e n
    have noA:∀ {b:Addr} {o:Obj} {es:Array DictEntry} {ep:Nat},s₁.heap.get? b=some o→o.data=.dict es ep→H b=none:=fun {b o es ep} e d=>by
      cases q:H b with
      | none=>rfl
      | some u =>
        have e':b=a:=hA b (by rw [q]; simp)
        subst e'
        rw [ha] at e; cases e
        have d':Data.seq vs.toArray _=Data.dict es ep:=d
        cases d'
    have nsK:∀ {b:Addr} {m:Str→Option Value},s₁.heap.Ns b m→(hidT s₁.heap H).Ns b m:=fun {b m} ⟨o,es,ep,e,d,r⟩=>⟨o,es,ep,base_of e (noA e d),d,r⟩
    have hKb:K.In (hidT s₁.heap H):=fun b o e=>base_of (KX b o e) (by
      cases q:H b with
      | none=>rfl
      | some u =>
        have e':b=a:=hA b (by rw [q]; simp)
        subst e'
        rw [hK (by rw [q]; simp)] at e; cases e)
    have hM:Mod K mg (hidT s₁.heap H):=⟨hKb,nsK hns,⟨mb,nsK hb,hbb⟩,let ⟨mc,h1,h2⟩:=hlim; ⟨mc,nsK h1,h2⟩⟩
    have e0:Env0 P w K mg (hidT s₁.heap H) callerA [] s₁ H:=⟨rfl,hM,fun b o e=>of_hidT e,Nat.le_of_eq (hidT_size _ _),trivial,fun b hb=>absurd (show b ∈ ([]:List Addr) from hb) (by simp),hok,.of_eq hg⟩
    refine codeAny_mono ((F _ hKb (nsK hns)).run callerA [] s₁ H ⟨[.ref a],[]⟩ [.ref a] [.ref a] _ _ hr e0 (hbind s₁ (.ref a)) (.cons rfl .nil) (hsp H hO hS)) fun r s' h=>?_
    cases r with
    | error e=>exact (hCX H e s' h).elim
    | ok fl =>
      cases fl with
      | next=>exact False.elim h
      | brk=>exact False.elim h
      | cont=>exact False.elim h
      | ret u =>
        obtain ⟨v,H',os,bare,un,hok',r',q⟩:=h
        have q':v=.bl true:=q
        subst q'
        obtain rfl:u=Value.bool true:=r'
        refine ⟨rfl,OldK.of_keep fun b o e=>?_,os,bare⟩
        cases q:H b with
        | none=>exact un.keep b o e q (by intro z; exact absurd (show b ∈ ([]:List Addr) from z) (by simp)) (by simp)
        | some u =>
          rcases hO b with z | ⟨ob,xs,z⟩
          · rw [q] at z; cases z
          · have z2:=un.frzs b ob _ z
            obtain ⟨e1,_⟩:=hok b _ z
            obtain ⟨e2,_⟩:=hok' b _ z2
            rw [e] at e1; cases e1
            exact e2
  cases hk:K.lookup a with
  | some o =>
    -- the script is one of the module's own objects
    have e:=KX a o hk
    rw [ha] at e
    cases e
    refine core (fun _=>none) (fun _=>.inl rfl) (.inr ⟨_,vs.toArray,_,hk,rfl,rfl,rfl,by rw [List.size_toArray,lenV]; exact hl,by simpa using rv⟩) (fun b u z=>by have z':(none:Option HO)=some u:=z; cases z') (fun b z=>absurd rfl z) fun z=>absurd rfl z
  | none =>
    refine core (fun b=>if b=a then some (.frz { cls:=.type "list",data:=.seq vs.toArray } (.lst (ns.map V.int))) else none) (fun b=>?_) (.inl (.inr ⟨{ cls:=.type "list",data:=.seq vs.toArray },if_pos rfl⟩)) (fun b u z=>?_) (fun b z=>?_) fun _=>hk
    · by_cases hb:b=a
      · exact .inr ⟨_,_,if_pos hb⟩
      · exact .inl (if_neg hb)
    · by_cases hb:b=a
      · have z':=(if_pos hb).symm.trans z
        cases z'
        subst hb
        exact ⟨ha,by rw [List.length_map]; exact hl,vs,_,rv,ha⟩
      · have z':=(if_neg hb).symm.trans z
        cases z'
    · by_cases hb:b=a
      · exact hb
      · exact absurd (if_neg hb) z
end L2
namespace L2
open PySem PySem.Spec PyProof.Rows
theorem walk_of {l:PySem.W.OpenLaw} {n k:Nat} {q:Program} {loose:List Str} {XP:(Str→Option Value)→Heap→Prop} {YP:World→Heap→Prop} {d:DefRec} {K:Params→PySem.W.Frag} {CX:World→CXT} {sp:World→Sp} {x:Str}
    (hn:l.most=some n) (hn2:n ≤ sizeLine) (hdf:d.params.defaults=[]) (hr:Room k callerA)
    (hY:∀ (w:World) (h:Heap),YP w h→(K w.params).In h)
    (F:∀ (w:World) (mg:Str→Option Value) (fa:Addr) (h:Heap),(K w.params).In h→h.Ns mainGlobals mg→mg d.name=some (.ref fa) →
      ∃ fd:FuncData,(∀ (s:Shared) (u:Value),BindsTo s fd ⟨[u],[]⟩ [(x,u)]) ∧
        ∀ base:Heap,(K w.params).In base→base.Ns mainGlobals mg→FnOk l.prog w (K w.params) mg base (CX w) k fa fd [x] (sp w))
    (hsp:∀ (w:World) (H:Hp) (a:Addr) (ns:List Int),ns.length ≤ n→Only H→SqL (K w.params) H a (ns.map V.int)→sp w [.ref a] H (fun v _=>v=.bl true) fun _ _ _=>False)
    (hCX:∀ (w:World) (H:Hp) (s:Shared) (e:Value) (s':Shared),CX w [] H s (fun _ _ _=>False) e s'→False) :
    PySem.W.WalkO q loose XP YP l.row.toRowW d [] (fun f vs=>PySem.call f vs):=by
  refine Att.attach_call hn hdf fun w s₀ s₁ mg mb fa o pm cd doc a vs ns G Y ho hd hcd hmg hobj hints hlen hg=>?_
  have KX:=hY w _ Y
  obtain ⟨fd,hb,hF⟩:=F w mg fa _ KX G.T.g hmg
  exact law_call KX G.T.g G.T.b G.T.builtins G.T.nolimit hg hobj hints (Nat.le_trans hlen hn2) hr hF hb (fun H hO hS=>hsp w H a ns hlen hO hS) fun H e s'=>hCX w H s₁ e s'
end L2
namespace L2
open PySem PySem.Spec PyProof.Rows
def defArgs (s:Stmt):Arguments:=match s with
  | .FunctionDef _ a _ _ _ _ _ _ _ _=>a
  | _=>{ posonlyargs:=[],args:=[],vararg:=none,kwonlyargs:=[],kw_defaults:=[],kwarg:=none,defaults:=[] }
def defBody (s:Stmt):List Stmt:=match s with
  | .FunctionDef _ _ b _ _ _ _ _ _ _=>b
  | _=>[]
def defScope (s:Stmt):Scope:=match s with
  | .FunctionDef _ _ _ _ _ _ sc _ _ _=>sc
  | _=>{ kind:=.function,names:=[],isGenerator:=false,isCoroutine:=false }
abbrev CX0:CXT:=fun _ _ _ _ _ _=>False
abbrev E0:XK:=fun _ _ _=>False
theorem pass0 {X:Cx}:Passes CX0 X E0:=fun _ _ _ _ _ _ _ h=>h.elim
structure Fun (K:PySem.W.Frag) (x qual:Str) (st:Stmt) (f:Addr) (fd:FuncData):Prop where
  ex:∃ (oc:Value) (od:Option Addr) (kV doc pm:Value) (an:Option Addr) (cdv ct:Value) (osl:Array (Option Value)),
    fd=PySem.W.fnOf x qual (defArgs st) (defBody st) (defScope st) .none kV doc pm an cdv ct∧K.lookup f=some ⟨oc,od,.func fd,osl⟩∧PySem.W.codeIn K cdv qual=true
  kp:PySem.W.keepIn K (.ref f)=true
section
variable {P:Program} {w:World} {K:PySem.W.Frag} {mg:Str→Option Value} {base:Heap}
theorem Fun.ok {x qual:Str} {st:Stmt} {f:Addr} {fd:FuncData} {N ps:List Str} {k:Nat} {sp:Sp} (F:Fun K x qual st f fd) (S:FnScope N ps (defScope st)) (len:∀ vs H Q E,sp vs H Q E→vs.length=ps.length)
    (hbody:∀ (cdv:Value) (A:Around) (outer:List Env) (s:Shared) (H:Hp) (vs:List V) (Q:VK) (E:XK),Room k (A.deeper (envOfC qual (defScope st) s.heap.objs.size f cdv))→sp vs H Q E →
      ∃ t,PSs (cxOf CX0 P w K mg base N qual (defScope st) f cdv A outer s H E).nox (defBody st) t∧t { nx:=fun _ H'=>Q .non H',rt:=Q } (start N vs) H):FnOk P w K mg base CX0 (k + 1) f fd ps sp:=by
  obtain ⟨oc,od,kV,doc,pm,an,cdv,ct,osl,rfl,lk,hcd⟩:=F.ex
  refine fn_of lk hcd S len fun A outer s H vs Q E hr hsp=>?_
  obtain ⟨t,h,q⟩:=hbody cdv A outer s H vs Q E hr hsp
  exact ⟨t,h.nox,q⟩
theorem Fun.binds {x qual:Str} {st:Stmt} {f:Addr} {fd:FuncData} {ps:List Str} (F:Fun K x qual st f fd)
    (h:∀ (kV doc pm:Value) (an:Option Addr) (cdv ct:Value) (us:List Value),us.length=ps.length→bindArgs (PySem.W.fnOf x qual (defArgs st) (defBody st) (defScope st) .none kV doc pm an cdv ct) ⟨us,[]⟩=pure (ps.zip us)):Binds K fd ps []:=by
  obtain ⟨oc,od,kV,doc,pm,an,cdv,ct,osl,rfl,lk,hcd⟩:=F.ex
  exact .all (h kV doc pm an cdv ct)
theorem fun_mk {x qual:Str} {st:Stmt} {f:Addr} {oc:Value} {od an:Option Addr} {osl:Array (Option Value)} {kV doc pm cdv ct:Value} (l:K.lookup f=some ⟨oc,od,.func (PySem.W.fnOf x qual (defArgs st) (defBody st) (defScope st) .none kV doc pm an cdv ct),osl⟩)
    (c:PySem.W.codeIn K cdv qual=true) (k:PySem.W.keepIn K (.ref f)=true):Fun K x qual st f (PySem.W.fnOf x qual (defArgs st) (defBody st) (defScope st) .none kV doc pm an cdv ct):=⟨⟨oc,od,kV,doc,pm,an,cdv,ct,osl,rfl,l,c⟩,k⟩
end
section
variable {X:Cx}
theorem pv (i:Nat) {x:Str} {pos:Pos} (hN:X.N[i]?=some x:=by rfl) (hv:Vis X.env.scope x:=by first | exact Or.inl rfl | exact Or.inr (Or.inl rfl) | exact Or.inr (Or.inr rfl)) (hd:(x == ("__debug__":Str))=false:=by decide)
    (hcd:(x == ("__classdict__":Str))=false:=by decide):PE X (.Name x pos) (tVar i):=pe_var hN hv hd hcd
end
theorem iteF {A B:Prop} (h:B):if false=true then A else B:=by
  rw [if_neg Bool.false_ne_true]
  exact h
theorem iteT {A B:Prop} (h:A):if true=true then A else B:=by
  rw [if_pos rfl]
  exact h
theorem ite2 {c A B:Prop} [Decidable c] (h1:c→A) (h2:¬ c→B):if c then A else B:=by
  by_cases h:c
  · rw [if_pos h]
    exact h1 h
  · rw [if_neg h]
    exact h2 h
def Same (H H':Hp):Prop:=∀ b o,H b=some o→H' b=some o
theorem Same.refl (H:Hp):Same H H:=fun _ _ h=>h
theorem Same.trans {H H1 H2:Hp} (a:Same H H1) (b:Same H1 H2):Same H H2:=fun c o h=>b c o (a c o h)
theorem Same.free {H H':Hp} (e:Same H H') {l:Addr} (h:H' l=Option.none):H l=Option.none:=by
  cases q:H l with
  | none=>rfl
  | some o =>
    rw [e l o q] at h
    cases h
theorem Same.seq {K:PySem.W.Frag} {H H':Hp} {a:Addr} {xs:List V} (e:Same H H') (h:SqL K H a xs):SqL K H' a xs:=by
  rcases h with (h | ⟨o,h⟩) | h
  · exact .inl (.inl (e _ _ h))
  · exact .inl (.inr ⟨o,e _ _ h⟩)
  · exact .inr h
end L2
namespace L2
open PySem PySem.Spec PyProof.Rows
theorem rel_look {env:Env} {y:Str} {k:NameKind}:∀ {names:List (Str × NameKind)},
    (names.map fun (n,k)=>if (k == NameKind.free && env.scope.kind == .function && env.kindOf n == some .cell) then (n,NameKind.cell) else (n,k)).lookup y=some k →
      ∃ k0,names.lookup y=some k0∧(k=k0 ∨ (k0=.free∧k=.cell))
  | [],h=>by simp at h
  | (n,q) :: r,h=>by
    have ih:=@rel_look env y k r
    rw [List.map_cons] at h
    dsimp only at h
    cases hx:y == n with
    | true =>
      refine ⟨q,by simp [List.lookup_cons,hx],?_⟩
      by_cases hc:(q == NameKind.free && env.scope.kind == .function && env.kindOf n == some .cell)=true
      · rw [if_pos hc] at h
        simp only [List.lookup_cons,hx] at h
        cases h
        have hq:(q == NameKind.free)=true:=by
          cases e:q == NameKind.free with
          | true=>rfl
          | false=>rw [e] at hc; simp at hc
        exact .inr ⟨by simpa using hq,rfl⟩
      · rw [if_neg hc] at h
        simp only [List.lookup_cons,hx] at h
        cases h
        exact .inl rfl
    | false =>
      have h2:(r.map fun (n,k)=>if (k == NameKind.free && env.scope.kind == .function && env.kindOf n == some .cell) then (n,NameKind.cell) else (n,k)).lookup y=some k:=by
        by_cases hc:(q == NameKind.free && env.scope.kind == .function && env.kindOf n == some .cell)=true
        · rw [if_pos hc] at h
          simpa only [List.lookup_cons,hx] using h
        · rw [if_neg hc] at h
          simpa only [List.lookup_cons,hx] using h
      obtain ⟨k0,e,r'⟩:=ih h2
      exact ⟨k0,by simpa only [List.lookup_cons,hx] using e,r'⟩
theorem clos_go {env:Env}:∀ (names:List (Str × NameKind)) (acc:List (Str × Addr)),(∀ y ∈ names,y.2=.free→∃ c,env.cells.lookup y.1=some c)→(∀ y c,acc.lookup y=some c→env.cells.lookup y=some c) →
    ∃ cl,(forIn names acc fun (x:Str × NameKind) (r:List (Str × Addr))=>(if (x.2 == NameKind.free)=true then (do let c ← cellOf env x.1; pure (ForInStep.yield ((x.1,c) :: r))) else pure (ForInStep.yield r):Sem (ForInStep (List (Str × Addr)))))=(pure cl:Sem (List (Str × Addr))) ∧
      (∀ y c,cl.lookup y=some c→env.cells.lookup y=some c)∧(∀ y ∈ names,y.2=.free→∃ c,cl.lookup y.1=some c)∧∀ y c,acc.lookup y=some c→∃ c',cl.lookup y=some c'
  | [],acc,_,ha=>⟨acc,rfl,ha,(fun y hy=>absurd hy (by simp)),fun y c h=>⟨c,h⟩⟩
  | (n,k) :: r,acc,hn,ha=>by
    by_cases hk:k=NameKind.free
    · obtain ⟨c,hc⟩:=hn (n,k) List.mem_cons_self hk
      have hacc:∀ y d,((n,c) :: acc).lookup y=some d→env.cells.lookup y=some d:=fun y d e=>by
        cases hx:y == n with
        | true =>
          simp only [List.lookup_cons,hx] at e
          cases e
          have:y=n:=by simpa using hx
          rw [this]
          exact hc
        | false =>
          simp only [List.lookup_cons,hx] at e
          exact ha y d e
      obtain ⟨cl,e,h1,h2,h3⟩:=clos_go r ((n,c) :: acc) (fun y hy=>hn y (List.mem_cons_of_mem _ hy)) hacc
      have hn3:∃ c',cl.lookup n=some c':=h3 n c (by simp)
      refine ⟨cl,?_,h1,fun y hy hf=>?_,fun y d hd=>?_⟩
      · rw [List.forIn_cons]
        dsimp only
        rw [if_pos (by simp [hk])]
        have ec:cellOf env n=pure c:=by
          unfold cellOf
          rw [hc]
        rw [ec]
        simp only [pure_bind]
        exact e
      · rcases List.mem_cons.mp hy with z | z
        · subst z
          exact hn3
        · exact h2 y z hf
      · cases hx:y == n with
        | true =>
          have:y=n:=by simpa using hx
          rw [this]
          exact hn3
        | false=>exact h3 y d (by simpa only [List.lookup_cons,hx] using hd)
    · obtain ⟨cl,e,h1,h2,h3⟩:=clos_go r acc (fun y hy=>hn y (List.mem_cons_of_mem _ hy)) ha
      refine ⟨cl,?_,h1,fun y hy hf=>?_,h3⟩
      · rw [List.forIn_cons]
        dsimp only
        rw [if_neg (by simpa using hk),pure_bind]
        exact e
      · rcases List.mem_cons.mp hy with z | z
        · subst z
          exact absurd hf hk
        · exact h2 y z hf
theorem clos_ok {env:Env} {scope:Scope} (hn:∀ y ∈ scope.names,y.2=.free→∃ c,env.cells.lookup y.1=some c) :
    ∃ cl,closureFor scope env=pure cl∧(∀ y c,cl.lookup y=some c→env.cells.lookup y=some c)∧∀ y ∈ scope.names,y.2=.free→∃ c,cl.lookup y.1=some c:=by
  obtain ⟨cl,e,h1,h2,_⟩:=clos_go (env:=env) scope.names [] hn (fun y c h=>by simp at h)
  refine ⟨cl,?_,h1,h2⟩
  unfold closureFor
  dsimp only
  have e2:∀ (f g:Str × NameKind→List (Str × Addr)→Sem (ForInStep (List (Str × Addr)))),(∀ x r,f x r=g x r)→(forIn scope.names [] f:Sem (List (Str × Addr)))=forIn scope.names [] g:=fun f g h=>by
    have:f=g:=by funext x r; exact h x r
    rw [this]
  rw [e2 _ _ (fun x r=>?_),e]
  · rfl
  · obtain ⟨n,k⟩:=x
    dsimp only
theorem comp_loop_go {prog:Program} {w:World} {A:Around} {R:Result→Shared→Prop} {s:Shared} {elt target iter:Expr} {ifs:List Expr} {scope:Scope} {pos:Pos} {it acc:Value} {env:Env} (J:Nat→Shared→Prop)
    (turn:∀ n s,J n s→wpAny (model prog w) A (pyNext it) (fun r s1=>match r with
      | none=>R (.ok .next) s1
      | some v=>wpAny (model prog w) A (letOwnedTupleGo target it v) (fun _ s1'=>wpAny (model prog w) A (assign target env v) (fun _ s2 =>
          wpAny (model prog w) A (forIn ifs true fun c r=>if r=true then do let ok ← isTrue c env (eval c env); pure (ForInStep.yield ok) else pure (ForInStep.yield r)) (fun ok s3 =>
            if ok=true then wpAny (model prog w) A (eval elt env) (fun x s4 =>
              wpAny (model prog w) A (call (.builtin "list.append") [acc,x]) (fun _ s5=>∃ m,m < n∧J m s5) (fun _ _=>False) s4) (fun _ _=>False) s3
            else ∃ m,m < n∧J m s3) (fun _ _=>False) s2) (fun _ _=>False) s1') (fun _ _=>False) s1) (fun _ _=>False) s)
    (n:Nat) (h:J n s):codeAny (model prog w) A (.compLoop (.ListComp elt [⟨target,iter,ifs,0⟩] scope pos) 0 it acc env) R s:=by
  have no:∀ {E:Value→Shared→Prop} (e:Value) (s:Shared),(fun (_:Value) (_:Shared)=>False) e s→E e s:=fun _ _ f=>f.elim
  refine codeAny_loop rfl J (fun n s hJ=>?_) n h
  show wpAny _ A ((compTurn (.ListComp elt [⟨target,iter,ifs,0⟩] scope pos) 0 it acc env).onRaise _) _ _ s
  refine wpAny_noted ?_
  rw [compTurn_list]
  refine wpAny_bind (wpAny_standAt (wpAny_bind (wpAny_mono (turn n s hJ) (fun r s1 h1=>?_) no)))
  cases r with
  | none=>exact wpAny_pure h1
  | some v =>
    refine wpAny_bind (wpAny_mono h1 (fun _ s1' h1'=>wpAny_bind (wpAny_mono h1' (fun _ s2 h2=>wpAny_bind (wpAny_mono h2 (fun ok s3 h3=>?_) no)) no)) no)
    cases ok with
    | false=>exact wpAny_pure ⟨rfl,h3⟩
    | true=>exact wpAny_bind (wpAny_bind (wpAny_mono h3 (fun x s4 h4=>wpAny_bind (wpAny_mono h4 (fun _ s5 h5=>wpAny_pure (wpAny_pure ⟨rfl,h5⟩)) no)) no))
abbrev Cx.comp (X:Cx) (x:Str) (scope:Scope) (cl:List (Str × Addr)) (C:Addr) (fp:List Addr) (s:Shared) (H:Hp):Cx :=
  { X with N:=x :: X.N,s₀:=s,H₀:=H,env:=compEnvC scope cl C X.env,outer:=X.stack,ex:=fp,fn:=fun _=>false,pn:=[],xe:=fun _ _=>False }
def capOk (scope:Scope) (env:Env) (y:Str):Bool:=match scope.names.lookup y with
  | none=>true
  | some .free=>env.kindOf y == some .cell || env.kindOf y == some .free
  | some _=>false
structure CompSc (X:Cx) (x:Str) (scope:Scope):Prop where
  kind:scope.kind=.function
  cell:∀ y ∈ scope.names,y.2 ≠ .cell
  names:∀ y ∈ scope.names,y.2=.local→scope.names.lookup y.1=some .local
  hx:scope.names.lookup x=some .local
  free:∀ y ∈ scope.names,y.2=.free→X.env.kindOf y.1=some .cell ∨ X.env.kindOf y.1=some .free
  cap:∀ y ∈ X.N,capOk scope X.env y=true
  nd:(x :: X.N).Nodup
theorem free_mem {scope:Scope} {y:Str} (h:scope.names.lookup y=some .free):(y,NameKind.free) ∈ scope.names:=PySem.mem_of_lookup h
theorem comp_inv {X:Cx} {x:Str} {scope:Scope} {cl:List (Str × Addr)} {fp:List Addr} {pins:List (Addr × Obj)} {σ:St} {H:Hp} {s:Shared} {h':Heap} {tk:Nat} {m:Str→Option Value} (S:CompSc X x scope) (I:Inv X pins σ H s)
    (hns:h'.Ns s.heap.objs.size m) (hk:∀ b o,s.heap.get? b=some o→h'.get? b=some o) (hf:∀ b ∈ fp,FpOk X pins H b) (ho:∀ b ∈ fp,∃ o,s.heap.get? b=some o)
    (hsub:∀ y c,cl.lookup y=some c→X.env.cells.lookup y=some c) (hall:∀ y ∈ scope.names,y.2=.free→∃ c,cl.lookup y.1=some c) :
    Inv (X.comp x scope cl s.heap.objs.size fp s H) (X.pn ++ pins) (none :: σ) H { s with heap:=h',toks:=tk }:=by
  refine ⟨⟨I.ok.mod,S.kind,I.ok.glob,I.ok.blt,Nat.le_refl _,fun y z c h1 h2=>I.ok.inj y z c (hsub y c h1) (hsub z c h2),fun y hy=>?_,fun y c hfn=>absurd hfn Bool.false_ne_true,I.ok.hd,I.ok.frames,.inl rfl,fun b hb=>⟨?_,fun y c e=>(hf b hb).2.2.2.2.1 y c (hsub y c e)⟩,
    I.bs,Nat.le_trans I.ok.bsz I.sz,fun b o e hb=>?_,fun b hb hs=>?_,I.stack,I.stkFree⟩,rfl,I.bare,Un.kept hk,⟨m,hns,fun i y v e1 e2 e3=>?_⟩,fun y c e=>?_,I.fresh,fun y c e=>I.freeC y c (hsub y c e),fun p hp=>?_,I.hok.kept hk,?_⟩
  · have hy':∃ k,(k=NameKind.cell ∨ k=NameKind.free)∧(relabel scope X.env).names.lookup y=some k:=by
      rcases hy with z | z
      · exact ⟨_,.inl rfl,z⟩
      · exact ⟨_,.inr rfl,z⟩
    obtain ⟨k,hk',e⟩:=hy'
    obtain ⟨k0,e0,r⟩:=rel_look e
    have kf:k0=.free:=by
      rcases r with r | r
      · subst r
        rcases hk' with z | z
        · subst z
          exact absurd rfl (S.cell _ (PySem.mem_of_lookup e0))
        · exact z
      · exact r.1
    subst kf
    exact hall (y,.free) (free_mem e0) rfl
  · obtain ⟨o,e⟩:=ho b hb
    exact Nat.ne_of_lt (Heap.lt_size e)
  · rcases (hf b hb).2.2.2.1 with z | z
    · exact I.ok.noex b o e z
    · exact absurd (Nat.lt_of_lt_of_le (Heap.lt_size e) (Nat.le_trans I.ok.bsz z)) (Nat.lt_irrefl _)
  · rcases List.mem_cons.mp (I.stkSub b hs) with z | z
    · exact (hf b hb).2.1 z
    · exact (hf b hb).2.2.1 z
  · cases i with
    | zero=>simp at e2
    | succ i =>
      have e1':X.N[i]?=some y:=by simpa using e1
      have e2':σ[i]?=some (some v):=by simpa using e2
      have hc:=S.cap y (List.mem_of_getElem? e1')
      have hvis:∃ k,(relabel scope X.env).names.lookup y=some k:=by
        rcases e3 with z | z | z
        · exact ⟨_,z⟩
        · exact ⟨_,z⟩
        · exact ⟨_,z⟩
      obtain ⟨k,ek⟩:=hvis
      obtain ⟨k0,e0,r⟩:=rel_look ek
      unfold capOk at hc
      rw [e0] at hc
      have kf:k0=.free:=by cases k0 <;> simp_all
      subst kf
      have hkk:X.env.kindOf y=some .cell ∨ X.env.kindOf y=some .free:=by simpa using hc
      obtain ⟨m0,hn0,hl0⟩:=I.loc
      obtain ⟨u,ru,l⟩:=hl0 i y v e1' e2' (.inr hkk)
      refine ⟨u,ru,.inr ?_⟩
      obtain ⟨c',hc'⟩:=hall (y,.free) (free_mem e0) rfl
      rcases l with ⟨z,_⟩ | ⟨_,c,ec,⟨o,ho',hd'⟩⟩
      · rcases hkk with q | q <;> rw [z] at q <;> cases q
      · have e4:=hsub y c' hc'
        rw [ec] at e4
        have e5:c=c':=Option.some.inj e4
        subst e5
        refine ⟨?_,c,hc',o,hk _ _ ho',hd'⟩
        rcases r with r | r
        · subst r
          exact .inr ek
        · obtain ⟨_,r⟩:=r
          subst r
          exact .inl ek
  · obtain ⟨v,o,ho',hd'⟩:=I.cell y c (hsub y c e)
    exact ⟨v,o,hk _ _ ho',hd'⟩
  · have hp':p ∈ X.pn ++ pins:=by simpa using hp
    obtain ⟨e,n,ne,nf,d⟩:=I.pin p hp'
    refine ⟨hk _ _ e,n,Nat.ne_of_lt (Heap.lt_size e),fun z=>?_,d⟩
    rcases List.mem_cons.mp (I.stkSub p.1 z) with q | q
    · exact ne q
    · exact nf q
  · show σ.length + 1=X.N.length + 1
    rw [I.len]
def PTs (X:Cx) (ifs:List Expr) (t:TT):Prop :=
  ∀ (pins:List (Addr × Obj)) (s:Shared) (σ:St) (H:Hp) (Q:Bool→Hp→Prop),Inv X pins σ H s→t σ H Q →
    wpAny (model X.prog X.w) X.A (forIn ifs true fun c r=>if r=true then do let ok ← isTrue c X.env (eval c X.env); pure (ForInStep.yield ok) else pure (ForInStep.yield r)) (TP X pins σ Q) X.xe s
def ttAll:TT:=fun _ H Q=>Q true H
theorem pts_nil {X:Cx}:PTs X [] ttAll:=fun pins s σ H Q I h=>by
  rw [List.forIn_nil]
  exact wpAny_pure ⟨H,I,h⟩
theorem pts_one {X:Cx} {c:Expr} {t:TT} (hc:PT X c t):PTs X [c] t:=fun pins s σ H Q I h=>by
  rw [List.forIn_cons,if_pos rfl]
  refine wpAny_bind (wpAny_bind (thn (hc pins s σ H Q I h) fun ok s1 q=>wpAny_pure ?_))
  try dsimp only
  rw [List.forIn_nil]
  exact wpAny_pure q
def CompGo (J:It) (H1:Hp) (σ:St) (tt:TT) (te:TE) (Q:VK):Prop:=∀ D,H1 D=none→∃ W:Nat→Nat→Hp→Prop,(∃ m,W 0 m (upd H1 D (.lst [])))∧∀ i m H,W i m H →
  (J.stop i H∧Q (.ref D) H) ∨ (J.go i H∧∀ x H',J.yld i H x H'→tt (some x :: σ) H' fun b H2=>if b=true then te (some x :: σ) H2 fun y H3=>∃ ys,H3 D=some (.lst ys)∧ys.length < sizeLine∧∃ m',m' < m∧W (i + 1) m' (upd H3 D (.lst (ys ++ [y])))
    else ∃ m',m' < m∧W (i + 1) m' H2)
def tComp (wi:TI) (tt:TT) (te:TE):TE:=fun σ H Q=>wi σ H fun J H1=>CompGo J H1 σ tt te Q
section
variable {X:Cx} {x:Str} {px pos:Pos} {elt iter:Expr} {ifs:List Expr} {scope:Scope} {wi:TI} {tt:TT} {te:TE}
theorem comp_core {pins:List (Addr × Obj)} {σ:St} {H2:Hp} {s2:Shared} {it:Addr} {fp:List Addr} {tn:Nat→Heap→Prop} {J:It} {Q:VK} {cl:List (Str × Addr)} {E:Value→Shared→Prop} {RR:Value→Addr→Result→Shared→Prop}
    (S:CompSc X x scope) (hcal:X.calm=true) (hclos:(∀ y c,cl.lookup y=some c→X.env.cells.lookup y=some c)∧∀ y ∈ scope.names,y.2=.free→∃ c,cl.lookup y.1=some c)
    (ht:∀ cl C fp s H,PTs (X.comp x scope cl C fp s H) ifs tt) (he:∀ cl C fp s H,PE (X.comp x scope cl C fp s H) elt te)
    (I2:Inv X pins σ H2 s2) (T:Turn X.prog X.w X.K (.Name x px) J fp it tn) (st2:tn 0 s2.heap) (f2:∀ b ∈ fp,FpOk X pins H2 b)
    (q:CompGo J H2 σ tt te Q)
    (hRR:∀ D C s' H' m',Inv X pins σ H' s'→s'.heap.Ns C m'→FpOk X pins H' C→Q (.ref D) H'→RR (.ref D) C (.ok .next) s') :
    wpAny (model X.prog X.w) X.A (newList []) (fun acc s3=>wpAny (model X.prog X.w) X.A (newFunctionEnv scope X.env.globals cl [] X.env.qual none .none (some X.env)) (fun cenv s4 =>
      codeAny (model X.prog X.w) X.A (.compStart (.ListComp elt [⟨.Name x px,iter,ifs,0⟩] scope pos) 0 (.ref it) acc { cenv with scope:=relabel scope X.env }) (RR acc cenv.locals) s4) E s3) E s2:=by
  obtain ⟨hsub,hall⟩:=hclos
  refine wpAny_newObj_type (wpAny_newFunctionEnv S.cell (by intro y hy; simp at hy) (fun h1 hns hsb=>?_) S.kind)
  have I3:Inv X pins σ (upd H2 s2.heap.objs.size (.lst [])) { s2 with heap:=s2.heap.push { cls:=.type "list",data:=.seq ([]:List Value).toArray } }:=I2.lnew (t':=s2.toks) .nil (by simp)
  have hD:H2 s2.heap.objs.size=none:=I2.fresh
  obtain ⟨W,⟨m0,w0⟩,turn⟩:=q _ hD
  generalize hs3:({ s2 with heap:=s2.heap.push { cls:=.type "list",data:=.seq ([]:List Value).toArray } }:Shared)=s3 at I3
  have hs3':({ s2 with heap:=s2.heap.push { cls:=.type "list",dict:=none,data:=.seq ([]:List Value).toArray } }:Shared)=s3:=hs3
  dsimp only at hns hsb ⊢
  generalize hDD:s2.heap.objs.size=D at *
  have eh:s2.heap.push { cls:=.type "list",dict:=none,data:=.seq ([]:List Value).toArray }=s3.heap:=by rw [← hs3]
  rw [eh] at hns hsb
  have keep:∀ b o,s3.heap.get? b=some o→h1.get? b=some o:=fun b o e=>hsb.extBut b o (Nat.ne_of_lt (Heap.lt_size e)) (Heap.get?_push_of_some _ e)
  have objs:∀ b ∈ fp,∃ o,s3.heap.get? b=some o:=fun b hb=>by
    obtain ⟨o,e,_⟩:=T.obj _ _ st2 b hb
    rw [← eh]
    exact ⟨o,Heap.get?_push_of_some _ e⟩
  have f3:∀ b ∈ fp,FpOk X pins (upd H2 D (.lst [])) b:=fun b hb=>by
    obtain ⟨o,e,_⟩:=T.obj _ _ st2 b hb
    have ne:b ≠ D:=by rw [← hDD]; exact Nat.ne_of_lt (Heap.lt_size e)
    exact ⟨by rw [upd_ne ne]; exact (f2 b hb).1,(f2 b hb).2⟩
  have I4:Inv (X.comp x scope cl s3.heap.objs.size fp s3 (upd H2 D (.lst []))) (X.pn ++ pins) (none :: σ) (upd H2 D (.lst [])) { s3 with heap:=h1,toks:=s3.toks + ([]:List (Str × Value)).length }:=comp_inv S I3 hns keep f3 objs hsub hall
  have st4:tn 0 h1:=T.keep _ _ _ st2 fun b hb o e=>keep b o (by rw [← eh]; exact Heap.get?_push_of_some _ e)
  -- what stays true of the iterator's objects
  have stat:∀ {H':Hp},(∀ b ∈ fp,H' b=none)→∀ b ∈ fp,FpOk (X.comp x scope cl s3.heap.objs.size fp s3 (upd H2 D (.lst []))) (X.pn ++ pins) H' b:=fun hn b hb=>by
    refine ⟨hn b hb,(I4.ok.exf b hb).1,I4.ok.exfs b hb,.inl hb,(I4.ok.exf b hb).2,fun p hp=>(f3 b hb).2.2.2.2.2 p (by simpa using hp)⟩
  have loop:codeAny (model X.prog X.w) X.A (.compLoop (.ListComp elt [⟨.Name x px,iter,ifs,0⟩] scope pos) 0 (.ref it) (.ref D) (compEnvC scope cl s3.heap.objs.size X.env)) (RR (.ref D) s3.heap.objs.size) { s3 with heap:=h1,toks:=s3.toks + ([]:List (Str × Value)).length }:=by
    refine comp_loop_go (fun n s'=>∃ i o H',Inv (X.comp x scope cl s3.heap.objs.size fp s3 (upd H2 D (.lst []))) (X.pn ++ pins) (o :: σ) H' s'∧tn i s'.heap∧(∀ b ∈ fp,H' b=none)∧W i n H') ?_ m0
      ⟨0,none,_,I4,st4,fun b hb=>(f3 b hb).1,w0⟩
    rintro n s5 ⟨i,o,H5,I5,st5,fr5,w5⟩
    rcases turn i n H5 w5 with ⟨stop,qn⟩ | ⟨go,step⟩
    · refine thn (T.done (X.comp x scope cl s3.heap.objs.size fp s3 (upd H2 D (.lst []))) rfl rfl rfl hcal i _ s5 _ H5 _ I5 (stat fr5) st5 stop) fun r s6 ⟨hr,I6⟩=>?_
      subst hr
      obtain ⟨m6,hn6,_⟩:=I6.loc
      have I7:Inv X pins σ H5 s6:=I3.call' (ch:=fp) I6.os I6.base I6.hok I6.bare fun b hb=>⟨(f3 b hb).2.2.2.1,(f3 b hb).2.1,(f3 b hb).2.2.2.2.1,(f3 b hb).2.2.2.2.2⟩
      exact hRR D s3.heap.objs.size s6 H5 m6 I7 hn6 (I3.fpOk (Nat.le_refl _) I6.free) qn
    · refine thn (T.item (X.comp x scope cl s3.heap.objs.size fp s3 (upd H2 D (.lst []))) rfl rfl rfl hcal i _ s5 _ H5 _ I5 (stat fr5) st5 go) fun r s6 ⟨u,hr,h6⟩=>?_
      subst hr
      refine thn h6 fun _ s7 ⟨y,H7,I7,r7,y7,st7,fr7⟩=>?_
      have I7':=I7.pinned (stat fr7) (T.obj _ _ st7)
      have hxl:(relabel scope X.env).names.lookup x=some .local:=lookup_relabel_local S.hx
      refine thn (pg_name (X:=X.comp x scope cl s3.heap.objs.size fp s3 (upd H2 D (.lst []))) (i:=0) S.nd rfl (.inl hxl) (.inr hxl) _ s7 (o :: σ) H7 y u (fun σ' H'=>σ'=some y :: σ∧H'=H7) I7' r7 ⟨rfl,rfl⟩) fun _ s8 ⟨σ8,H8,I8,e8,e8'⟩=>?_
      subst e8 e8'
      refine thn (ht _ _ _ _ _ _ s8 _ H8 _ I8 (step y H8 y7)) fun ok s9 ⟨H9,I9,q9⟩=>?_
      have back:∀ {H':Hp} {s':Shared} {m':Nat},Inv (X.comp x scope cl s3.heap.objs.size fp s3 (upd H2 D (.lst []))) (X.pn ++ pins ++ pinsAt fp s7.heap) (some y :: σ) H' s'→m' < n→W (i + 1) m' H' →
          ∃ m,m < n∧∃ i o H',Inv (X.comp x scope cl s3.heap.objs.size fp s3 (upd H2 D (.lst []))) (X.pn ++ pins) (o :: σ) H' s'∧tn i s'.heap∧(∀ b ∈ fp,H' b=none)∧W i m H':=fun {H' s' m'} I' hm w'=>by
        have pin:∀ b o,b ∈ fp→s7.heap.get? b=some o→s'.heap.get? b=some o∧H' b=none:=fun b o hb e=>by
          have z:=I'.pin (b,o) (List.mem_append_right _ (List.mem_append_right _ (mem_pinsAt hb e)))
          exact ⟨z.1,z.2.1⟩
        refine ⟨m',hm,i + 1,some y,H',I'.unpinned,T.keep _ _ _ st7 fun b hb o e=>(pin b o hb e).1,fun b hb=>?_,w'⟩
        obtain ⟨o',e,_⟩:=T.obj _ _ st7 b hb
        exact (pin b o' hb e).2
      cases ok with
      | false =>
        rw [if_neg Bool.false_ne_true] at q9 ⊢
        obtain ⟨m',hm,w'⟩:=q9
        exact back I9 hm w'
      | true =>
        rw [if_pos rfl] at q9 ⊢
        refine thn (he _ _ _ _ _ _ s9 _ H9 _ I9 q9) fun v s10 ⟨z,H10,I10,r10,q10⟩=>?_
        obtain ⟨ys,e10,l10,m',hm,w'⟩:=q10
        refine thn (mt_append _ s10 _ H10 (.ref D) [z] (.ref D) [v] (fun _ H'=>H'=upd H10 D (.lst (ys ++ [z]))) I10 rfl (.cons r10 .nil) ⟨D,ys,z,rfl,rfl,e10,l10,rfl⟩) fun _ s11 ⟨_,H11,I11,_,e11⟩=>?_
        subst e11
        exact back I11 hm w'
  exact codeAny_compStart_list loop (T.self _ 0 _ _ _ st4 loop)
theorem pe_comp (S:CompSc X x scope) (hcal:X.calm=true) (hi:PI X (.Name x px) iter wi) (ht:∀ cl C fp s H,PTs (X.comp x scope cl C fp s H) ifs tt) (he:∀ cl C fp s H,PE (X.comp x scope cl C fp s H) elt te)
    (hs:∀ x,foldedSetIterable iter X.env x=pure x:=by intro _; rfl):PE X (.ListComp elt [⟨.Name x px,iter,ifs,0⟩] scope pos) (tComp wi tt te):=by
  intro pins s σ H Q I h
  obtain ⟨cl,hcl,hc⟩:=clos_ok (env:=X.env) (scope:=scope) fun y hy hf=>I.ok.has y.1 (S.free y hy hf)
  rw [eval_ListComp]
  refine wpAny_comprehension_free (use:=none) rfl hs hcl S.kind S.names (thn (hi pins s σ H _ I h) fun xv s1 h1=>thn h1 fun itv s2 h2=>?_)
  obtain ⟨it,fp,tn,J,H2,e,I2,T,st2,f2,q⟩:=h2
  subst e
  refine comp_core (RR:=fun acc C=>compPost (model X.prog X.w) X.A X.xe none (EP X pins σ Q) acc C) S hcal hc ht he I2 T st2 f2 q ?_
  intro D C s' H' m' I' hn F' hq
  exact ⟨m',hn,fun h' sb=>⟨.ref D,H',I'.turned (t':=s'.toks) (fun b o hb e=>(sb.2 b hb).trans e) F'.1 F'.2.1 F'.2.2.2.1 F'.2.2.2.2.1 F'.2.2.2.2.2,rfl,hq⟩⟩
theorem ps_setComp {i:Nat} {y:Str} {py spos:Pos} (S:CompSc X x scope) (hcal:X.calm=true) (hN:X.N.Nodup) (hiN:X.N[i]?=some y) (hy:Loc X.env.scope y) (hi:PI X (.Name x px) iter wi) (ht:∀ cl C fp s H,PTs (X.comp x scope cl C fp s H) ifs tt)
    (he:∀ cl C fp s H,PE (X.comp x scope cl C fp s H) elt te) (hsw:swapsWith (.ListComp elt [⟨.Name x px,iter,ifs,0⟩] scope pos) (some (.Name y py)) spos.line X.env=pure true)
    (hs:∀ x,foldedSetIterable iter X.env x=pure x:=by intro _; rfl) (hf:X.fn y=true ∨ X.env.scope.names.lookup y=some .local:=by first | exact .inl rfl | exact .inr rfl | assumption) :
    PS X (.Assign [.Name y py] (.ListComp elt [⟨.Name x px,iter,ifs,0⟩] scope pos) spos) (tAsg (tComp wi tt te) (gName i)):=by
  intro pins s σ H D0 I h
  obtain ⟨cl,hcl,hc⟩:=clos_ok (env:=X.env) (scope:=scope) fun y hy hf=>I.ok.has y.1 (S.free y hy hf)
  rw [exec_Assign_Name_used _ _ _ _ hsw]
  refine wpAny_bind (wpAny_standAt (wpAny_bind ?_))
  show wpAny _ _ (do let _ ← comprehension (.ListComp elt [⟨.Name x px,iter,ifs,0⟩] scope pos) scope X.env _ (newList []) false (eval iter X.env) (some (assign (.Name y py) X.env))) _ _ s
  refine wpAny_bind (thn (wpAny_comprehension_free (use:=some (assign (.Name y py) X.env)) (Q:=fun _ s'=>SP X pins D0 .next s') rfl hs hcl S.kind S.names (thn (hi pins s σ H _ I h) fun xv s1 h1=>thn h1 fun itv s2 h2=>?_)) fun _ s' hq=>wpAny_pure (wpAny_pure hq))
  obtain ⟨it,fp,tn,J,H2,e,I2,T,st2,f2,q⟩:=h2
  subst e
  refine comp_core (Q:=fun v H=>D0.nx (σ.set i (some v)) H) (RR:=fun acc C=>compPost (model X.prog X.w) X.A X.xe (some (assign (.Name y py) X.env)) (fun _ s'=>SP X pins D0 .next s') acc C) S hcal hc ht he I2 T st2 f2 q ?_
  intro D C s' H' m' I' hn F' hq
  show wpAny _ _ (assign (.Name y py) X.env (.ref D)) _ _ s'
  refine wpAny_assign_Name (store_ok2 (v:=.ref D) I' hN hiN hy rfl (fun s'' I'' ch=>?_) hf)
  obtain ⟨a,sb,ha⟩:=ch
  have ne:C ≠ a:=by
    rcases ha with z | z
    · rw [z]; exact F'.2.1
    · exact Ne.symm (F'.2.2.2.2.1 y a z)
  refine ⟨m',hn.sameBut sb ne,fun h' sb'=>⟨_,H',I''.turned (t':=s''.toks) (fun b o hb e=>(sb'.2 b hb).trans e) F'.1 F'.2.1 F'.2.2.2.1 F'.2.2.2.2.1 F'.2.2.2.2.2,hq⟩⟩
end
end L2
namespace L2
open PySem PySem.Spec PyProof.Rows
open AutoSeq1 (wpAny_loadPart')
section
variable {prog:Program} {w:World} {A:Around} {E:Value→Shared→Prop} {s:Shared}
end
section
variable {prog:Program} {w:World} {A:Around} {E:Value→Shared→Prop} {s:Shared}
theorem en_item {e it:Addr} {fp:List Addr} {n i:Nat} {k:Int} {P:Nat→Value→Prop} {St:Nat→Heap→Prop} {old:Value} {Q:Value→Shared→Prop}
    (D:Draws prog w A it fp n P St) (he:IsEnum s.heap e it k old) (hst:St i s.heap) (hlt:i < n) (hne:e ≠ it) (hef:e ∉ fp)
    (hQ:∀ x h' tk,P i x→IsEnumOut h' e it (k + 1) x s.heap.objs.size→St (i + 1) h'→h'.get? s.heap.objs.size=some { cls:=.type "tuple",data:=.seq #[.int k tk,x] } →
      (∀ b o,b ≠ e→b ≠ it→s.heap.get? b=some o→h'.get? b=some o)→Q (.ref s.heap.objs.size) { s with heap:=h',toks:=tk + 1 }) :
    wpAny (model prog w) A (Builtin.«enumerate.__next__» ⟨[.ref e],[]⟩) (fun fin s'=>∃ v,fin=.done (.ret v)∧Q v s') E s:=by
  obtain ⟨hp,g,d,t0,os⟩:=s
  (show wpAny _ _ (field (.ref e) 2 >>= _) _ _ _); refine wpAny_bind (wpAny_field he rfl (x:=.ref it) rfl ?_)
  refine wpAny_bind (D.item i _ _ _ hlt hst fun x g1 tk px c1 b1=>?_)
  have b1:Heap.SameBut it hp g1:=b1
  have e1:IsEnum g1 e it k old:=(b1.2 e hne).trans he
  (show wpAny _ _ (field (.ref e) 3 >>= _) _ _ ⟨g1,g,d,tk,os⟩); refine wpAny_bind (wpAny_field e1 rfl (x:=rawInt k) rfl ?_)
  (show wpAny _ _ (field (.ref e) 4 >>= _) _ _ ⟨g1,g,d,tk,os⟩); refine wpAny_bind (wpAny_field e1 rfl (x:=.none) rfl ?_)
  (show wpAny _ _ (mkInt k >>= _) _ _ ⟨g1,g,d,tk,os⟩); refine wpAny_bind (wpAny_mkInt ?_)
  (show wpAny _ _ (setField (.ref e) 3 (rawInt (k + 1)) >>= _) _ _ ⟨g1,g,d,tk + 1,os⟩); refine wpAny_bind (wpAny_setField_rec e1 (by simp) fun g2 e2 b2=>?_)
  have b2:Heap.SameBut e g1 g2:=b2
  have e2:IsEnum g2 e it (k + 1) old:=e2
  (show wpAny _ _ (setField (.ref e) 4 .none >>= _) _ _ ⟨g2,g,d,tk + 1,os⟩); refine wpAny_bind (wpAny_setField_rec e2 (by simp) fun g3 e3 b3=>?_)
  have b3:Heap.SameBut e g2 g3:=b3
  have e3:IsEnum g3 e it (k + 1) old:=e3
  (show wpAny _ _ (newTuple [.int k tk,x] >>= _) _ _ ⟨g3,g,d,tk + 1,os⟩); refine wpAny_bind (wpAny_newTuple ?_)
  have e4:IsEnum (g3.push { cls:=.type "tuple",data:=.seq #[.int k tk,x] }) e it (k + 1) old:=Heap.get?_push_of_some _ e3
  generalize hg4:g3.push { cls:=.type "tuple",data:=.seq #[.int k tk,x] }=g4 at e4
  have z3:g3.objs.size=hp.objs.size:=by rw [b3.1,b2.1,b1.1]
  have le:e < hp.objs.size:=Heap.lt_size he
  have t4:g4.get? hp.objs.size=some { cls:=.type "tuple",data:=.seq #[.int k tk,x] }:=by rw [← hg4,← z3]; exact Heap.get?_push_size _ rfl
  have k4:∀ b o,b ≠ e→b ≠ it→hp.get? b=some o→g4.get? b=some o:=fun b o hbe hbi hb=>by
    rw [← hg4]
    exact Heap.get?_push_of_some _ (b3.extBut b o hbe (b2.extBut b o hbe (b1.extBut b o hbi hb)))
  have c4:St (i + 1) g4:=D.frame _ _ _ c1 fun b hb o y=>by
    have hbe:b ≠ e:=fun q=>hef (q ▸ hb)
    rw [← hg4]
    exact Heap.get?_push_of_some _ (b3.extBut b o hbe (b2.extBut b o hbe y))
  show wpAny _ _ (Builtin.SmallTypes.ownedTupleIsFree (.ref e) >>= _) _ _ ⟨g4,g,d,tk + 1,os⟩
  rw [z3]
  refine wpAny_bind ?_
  unfold Builtin.SmallTypes.ownedTupleIsFree
  refine wpAny_bind (wpAny_field e4 rfl (x:=.none) rfl (wpAny_pure ?_))
  simp only [if_true]
  refine wpAny_bind (wpAny_rule (wpAny_bind (wpAny_field e4 rfl (x:=old) rfl (wpAny_bind (wpAny_setField_rec e4 (by simp) fun g5 e5 b5=>?_)))))
  have b5:Heap.SameBut e g4 g5:=b5
  have e5:IsEnum g5 e it (k + 1) x:=e5
  (show wpAny _ _ (Builtin.SmallTypes.ownedTupleHandOut (.ref e) (.ref hp.objs.size) >>= _) _ _ ⟨g5,g,d,tk + 1,os⟩); refine wpAny_bind ?_
  unfold Builtin.SmallTypes.ownedTupleHandOut
  refine wpAny_bind (wpAny_setField_rec e5 (by simp) fun g6 e6 b6=>?_)
  have b6:Heap.SameBut e g5 g6:=b6
  have e6:IsEnumOut g6 e it (k + 1) x hp.objs.size:=e6
  refine wpAny_setField_rec e6 (by simp) fun g7 e7 b7=>?_
  have b7:Heap.SameBut e g6 g7:=b7
  have e7:IsEnumOut g7 e it (k + 1) x hp.objs.size:=e7
  have k7:∀ b o,b ≠ e→g4.get? b=some o→g7.get? b=some o:=fun b o hb y=>b7.extBut b o hb (b6.extBut b o hb (b5.extBut b o hb y))
  refine wpAny_bind (wpAny_letGo (wpAny_pure ⟨_,rfl,hQ x g7 tk px e7 (D.frame _ _ _ c4 fun b hb o y=>k7 b o (fun q=>hef (q ▸ hb)) y) (k7 _ _ (Nat.ne_of_gt le) t4) fun b o hbe hbi hb=>k7 b o hbe (k4 b o hbe hbi hb)⟩))
theorem en_next {e it:Addr} {fp:List Addr} {n i:Nat} {k:Int} {P:Nat→Value→Prop} {St:Nat→Heap→Prop} {old:Value} {Q:Option Value→Shared→Prop}
    (D:Draws prog w A.in1 it fp n P St) (he:IsEnum s.heap e it k old) (hst:St i s.heap) (hlt:i < n) (hne:e ≠ it) (hef:e ∉ fp)
    (hQ:∀ x h' tk,P i x→IsEnumOut h' e it (k + 1) x s.heap.objs.size→St (i + 1) h'→h'.get? s.heap.objs.size=some { cls:=.type "tuple",data:=.seq #[.int k tk,x] } →
      (∀ b o,b ≠ e→b ≠ it→s.heap.get? b=some o→h'.get? b=some o)→Q (some (.ref s.heap.objs.size)) { s with heap:=h',toks:=tk + 1 }) :
    wpAny (model prog w) A (pyNext (.ref e)) Q E s:=by
  have hT:s.TypeIs (.ref e) "enumerate":=⟨_,he,rfl⟩
  unfold pyNext
  exact wpAny_bind (wpAny_attempt (wpAny_callSpecial?_slot (name:=Str.ofString "__next__") hT F.slot_enumerate_next (wpAny_call_entry F.slot_enumerate_next hT F.entry_enumerate_next
    (en_item D he hst hlt hne hef fun x h' tk a b c d k=>wpAny_pure (hQ x h' tk a b c d k)) (F.args_enumerate_next_1 _))))
end
end L2
namespace L2
open PySem PySem.Spec PyProof.Rows
section
variable {prog:Program} {w:World} {A:Around} {E:Value→Shared→Prop} {s:Shared}
end
end L2
namespace L2
open PySem PySem.Spec PyProof.Rows
section
variable {X:Cx} {pins:List (Addr × Obj)} {σ:St} {H:Hp} {s:Shared} {h':Heap}
theorem Inv.turnedNew {t':Nat} {ch:List Addr} {a:Addr} {o:HO} (I:Inv X pins σ H s) (k:∀ b u,b ∉ ch→s.heap.get? b=some u→h'.get? b=some u) (hch:∀ b ∈ ch,FpOk X pins H b)
    (hp:s.heap.objs.size ≤ a) (new:ObjOk X.prog X.w (upd H a o) h' a o):Inv X pins σ (upd H a o) { s with heap:=h',toks:=t' }:=by
  have hn:H a=none:=I.hok.fresh hp
  have nch:∀ b u,H b=some u→b ∉ ch:=fun b u e z=>by rw [(hch b z).1] at e; cases e
  refine I.step (g':=s.gens) (d':=s.drawn) (ch:=ch) (fun b hb=>⟨(hch b hb).2.2.2.1,(hch b hb).2.1,(hch b hb).2.2.2.2.1,(hch b hb).2.2.2.2.2⟩) (fun b o _ _ hc e _=>k b o hc e) (fun b o _ _ hc e _=>⟨o.slots,k b o hc e⟩)
    (fun b u hc e n=>by rw [upd_ne (Nat.ne_of_lt (Nat.lt_of_lt_of_le (Heap.lt_size e) hp))]; exact n) (fun b o hc e=>⟨o,k b o hc e⟩) (fun b xs e=>by rw [upd_ne (ne_of_none e hn)]; exact e) (fun b u xs e=>by rw [upd_ne (ne_of_none e hn)]; exact e)
    (fun b ps e=>⟨#[],by rw [upd_ne (ne_of_none e hn),e]; simp⟩) (fun m hm=>?_) (fun b u e=>?_) I.bare
  · obtain ⟨ob,es,ep,ho,r⟩:=hm
    exact ⟨ob,es,ep,k _ ob (fun z=>(hch _ z).2.1 rfl) ho,r⟩
  · by_cases hb:b=a
    · subst hb
      rw [upd_same] at e
      cases e
      exact new
    · rw [upd_ne hb] at e
      refine (I.hok b u e).stay (fun c v hc q=>k c v ?_ q) (fun c q=>by rw [upd_ne (ne_of_none q hn)]; exact q) fun c xs q=>by rw [upd_ne (ne_of_none q hn)]; exact q
      rcases hc with z | z
      · rw [z]
        exact nch b u e
      · exact nch c _ z
end
def Ite (Sq:Hp→List V→Prop) (k:Int):It :=
  ⟨fun i H=>∃ xs x,Sq H xs∧xs[i]?=some x,fun i H x H'=>∃ p y,x=.ref p∧H p=none∧H'=upd H p (.tup [.int (k + i),y])∧∀ xs,Sq H xs→xs[i]?=some y,fun i H=>∃ xs,Sq H xs∧xs.length=i⟩
theorem turn_enL {P:Program} {w:World} {K:PySem.W.Frag} {es:List Expr} {kk:Nat} {pt:Pos} (a e it:Addr) (k:Int) (hei:e ≠ it) :
    Turn P w K (.Tuple es kk pt) (Ite (fun H xs=>SqL K H a xs) k) [e,it] e (fun i h=>(∃ old,IsEnum h e it (k + (i:Int)) old)∧h.IsListIter it a i) where
  mem:=by simp
  obj:=fun i h st b hb=>by
    obtain ⟨⟨old,he⟩,o,ho,hc,hd⟩:=st
    rcases List.mem_cons.mp hb with z | z
    · subst z
      exact ⟨_,he,fun v q=>by cases q⟩
    · have z:b=it:=by simpa using z
      subst z
      exact ⟨o,ho,fun v q=>by rw [hd] at q; cases q⟩
  keep:=fun i h h' st kk=>by
    obtain ⟨⟨old,he⟩,o,ho,r⟩:=st
    exact ⟨⟨old,kk e (by simp) _ he⟩,o,kk it (by simp) o ho,r⟩
  item:=by
    intro X hP hw hK hc i pins s σ H E I hf st hg
    subst hP hw hK
    obtain ⟨xs,x,hq,hx⟩:=hg
    obtain ⟨its,rv,p,hz⟩:=I.list hq
    obtain ⟨u,hu,ru⟩:=rv.get hx
    obtain ⟨⟨old,he⟩,hit⟩:=st
    have pl:s.heap.IsList a its.toArray:=p.isList
    have nai:a ≠ it:=fun z=>by
      obtain ⟨o,ho,hc,_⟩:=pl
      obtain ⟨o',ho',hc',_⟩:=hit
      rw [z,ho'] at ho
      cases ho
      rw [hc'] at hc
      injection hc with q
      exact absurd q (by decide)
    have nae:e ≠ a:=fun z=>by
      obtain ⟨o,ho,hc,_⟩:=pl
      rw [← z,he] at ho
      cases ho
      injection hc with q
      exact absurd q (by decide)
    have D:=Draws.list (prog:=X.prog) (w:=X.w) (A:=X.A.in1) (I.ok.hd hc) it a nai its.toArray
    have lt:i < its.toArray.size:=by
      rw [List.size_toArray]
      exact (List.getElem?_eq_some_iff.mp hu).1
    refine en_next D he ⟨hit,pl⟩ lt hei (fun z=>?_) fun y g tk py eo st' tt kp=>?_
    · rcases List.mem_cons.mp z with z | z
      · exact hei z
      · exact nae (by simpa using z)
    · have ey:y=u:=by
        have q:its.toArray[i]?=some y:=py
        have q2:its.toArray[i]?=some u:=by simpa using hu
        rw [q2] at q
        exact (Option.some.inj q).symm
      subst ey
      refine ⟨_,rfl,wpAny_letOwnedTupleGo_enum eo fun g2 eo2 sb=>?_⟩
      have le:e < s.heap.objs.size:=Heap.lt_size he
      have li:it < s.heap.objs.size:=by
        obtain ⟨o,ho,_⟩:=hit
        exact Heap.lt_size ho
      have tt2:g2.get? s.heap.objs.size=some { cls:=.type "tuple",data:=.seq #[.int (k + i) tk,y] }:=(sb.2 _ (Nat.ne_of_gt le)).trans tt
      have nT:H s.heap.objs.size=none:=I.fresh
      have I1:Inv X pins σ (upd H s.heap.objs.size (.tup [.int (k + i),x])) { s with heap:=g2,toks:=tk + 1 }:=by
        refine I.turnedNew (t':=tk + 1) (ch:=[e,it]) (fun b o hb q=>?_) hf (Nat.le_refl _) ⟨?_,[.int (k + i) tk,y],.cons ⟨tk,rfl⟩ (.cons ru .nil),⟨_,tt2,rfl,0,rfl⟩⟩
        · have hbe:b ≠ e:=fun z=>hb (by simp [z])
          have hbi:b ≠ it:=fun z=>hb (by simp [z])
          exact (sb.2 b hbe).trans (kp b o hbe hbi q)
        · show 2 ≤ sizeLine
          decide
      have e1:k + ((i + 1:Nat):Int)=k + (i:Int) + 1:=by omega
      refine ⟨.ref s.heap.objs.size,_,I1,rfl,⟨_,x,rfl,nT,rfl,fun ys hy=>?_⟩,⟨⟨y,by rw [e1]; exact eo2⟩,?_⟩,fun b hb=>?_⟩
      · rw [I.list_inj hy hq]
        exact hx
      · obtain ⟨⟨o,ho,r⟩,_⟩:=st'
        exact ⟨o,(sb.2 it hei.symm).trans ho,r⟩
      · rcases List.mem_cons.mp hb with z | z
        · subst z
          rw [upd_ne (Nat.ne_of_lt le)]
          exact (hf b (by simp)).1
        · have z:b=it:=by simpa using z
          subst z
          rw [upd_ne (Nat.ne_of_lt li)]
          exact (hf b (by simp)).1
  done:=by
    intro X hP hw hK hc i pins s σ H E I hf st hg
    subst hP hw hK
    obtain ⟨xs,hq,hx⟩:=hg
    obtain ⟨its,rv,p,hz⟩:=I.list hq
    obtain ⟨⟨old,he⟩,hit⟩:=st
    have pl:s.heap.IsList a its.toArray:=p.isList
    have nai:a ≠ it:=fun z=>by
      obtain ⟨o,ho,hc,_⟩:=pl
      obtain ⟨o',ho',hc',_⟩:=hit
      rw [z,ho'] at ho
      cases ho
      rw [hc'] at hc
      injection hc with q
      exact absurd q (by decide)
    have D:=Draws.list (prog:=X.prog) (w:=X.w) (A:=X.A.in1) (I.ok.hd hc) it a nai its.toArray
    have ei:its.toArray.size=i:=by
      rw [List.size_toArray,← rv.length]
      exact hx
    obtain ⟨f0,f1,f2,f3,f4,f5⟩:=hf it (by simp)
    refine wpAny_pyNext_enum_endD D he (by rw [ei]; exact ⟨hit,pl⟩) fun h' eb=>⟨rfl,I.turned (t':=s.toks) (fun b o hb q=>eb b o hb q) f0 f1 f3 f4 f5⟩
  self:=fun _ _ _ _ _ st h=>by
    obtain ⟨⟨old,he⟩,_⟩:=st
    exact wpAny_pyIter_enum he h
section
variable {M:Model} {A:Around} {E:Value→Shared→Prop} {s:Shared} {env:Env}
end
section
variable {X:Cx} {es:List Expr} {kk:Nat} {pt:Pos}
end
theorem for_en {Sq:Hp→List V→Prop} {k:Int} {xs:List V} {g:TG} {tb:TS} {D:Ends} {σ:St} {H:Hp} (Pv:Nat→St→Hp→Prop) (h0:Pv 0 σ H) (hl:∀ i σ H,i ≤ xs.length→Pv i σ H→Sq H xs)
    (hs:∀ i x p σ H,xs[i]?=some x→H p=none→Pv i σ H→g (.ref p) σ (upd H p (.tup [.int (k + i),x])) fun σ2 H2=>tb { D with nx:=Pv (i + 1),ct:=Pv (i + 1),bk:=D.nx } σ2 H2) (hd:∀ σ H,Pv xs.length σ H→D.nx σ H) :
    ∃ W:Nat→Nat→St→Hp→Prop,(∃ m,W 0 m σ H)∧∀ i m σ H,W i m σ H →
      ((Ite Sq k).stop i H∧D.nx σ H) ∨ ((Ite Sq k).go i H∧∃ N:St→Hp→Prop,(∀ σ' H',N σ' H'→∃ m',m' < m∧W (i + 1) m' σ' H')∧∀ x H',(Ite Sq k).yld i H x H'→g x σ H' fun σ2 H2=>tb { D with nx:=N,ct:=N,bk:=D.nx } σ2 H2):=by
  refine ⟨fun i m σ H=>m=xs.length - i∧i ≤ xs.length∧Pv i σ H,⟨xs.length,by simp,Nat.zero_le _,h0⟩,?_⟩
  rintro i m σ H ⟨rfl,hi,p⟩
  have q:=hl i σ H hi p
  by_cases hlt:i < xs.length
  · refine .inr ⟨⟨xs,xs[i],q,by simp [hlt]⟩,Pv (i + 1),fun σ' H' p'=>⟨xs.length - (i + 1),by omega,rfl,hlt,p'⟩,fun x H' y=>?_⟩
    obtain ⟨a,z,e1,hn,e2,y⟩:=y
    subst e1 e2
    exact hs i z a σ H (y xs q) hn p
  · have e:i=xs.length:=by omega
    subst e
    exact .inl ⟨⟨xs,q,rfl⟩,hd σ H p⟩
end L2
namespace L2
open PySem PySem.Spec PyProof.Rows
open AutoSeq1 (wpAny_loadPart')
section
variable {X:Cx}
def rInst (K:PySem.W.Frag):List V→Hp→VK→Prop:=fun xs H Q=>∃ x n t b,xs=[x,.ty n]∧TyOf K H x t∧PySem.W.kitOne K t (.type n)=some b∧Q (.bl b) H
theorem call_isinst:CallR X (.builtin "isinstance") (rInst X.K):=by
  intro pins s σ H xs us Q I r h
  obtain ⟨x,n,t,b,e1,ty,e2,q⟩:=h
  subst e1
  obtain ⟨u,v,e3,r1,r2⟩:=vals2 r
  subst e3
  obtain rfl:v=Value.type n:=r2
  exact isinst_ok I r1 ty e2 fun tk=>⟨.bl b,H,I.tok tk,rfl,q⟩
end
end L2
namespace L2
open PySem PySem.Spec PyProof.Rows
def compChk (fs:Scope) (N:List Str) (x:Str) (scope:Scope):Bool :=
  decide (scope.kind=.function) && scope.names.all (fun y=>decide (y.2 ≠ .cell)) && scope.names.all (fun y=>decide (y.2=.local→scope.names.lookup y.1=some .local)) && decide (scope.names.lookup x=some .local) &&
  scope.names.all (fun y=>decide (y.2=.free→fs.names.lookup y.1=some .cell ∨ fs.names.lookup y.1=some .free)) &&
  N.all (fun y=>match scope.names.lookup y with
    | none=>true
    | some .free=>decide (fs.names.lookup y=some .cell ∨ fs.names.lookup y=some .free)
    | some _=>false) && decide ((x :: N).Nodup)
theorem compSc_mk {X:Cx} {x:Str} {scope fs:Scope} {N:List Str} (hs:X.env.scope=fs) (hN:X.N=N) (c:compChk fs N x scope=true):CompSc X x scope:=by
  subst hs hN
  unfold compChk at c
  simp only [Bool.and_eq_true,List.all_eq_true,decide_eq_true_eq] at c
  obtain ⟨⟨⟨⟨⟨⟨c1,c2⟩,c3⟩,c4⟩,c5⟩,c6⟩,c7⟩:=c
  refine ⟨c1,c2,c3,c4,c5,fun y hy=>?_,c7⟩
  have q:=c6 y hy
  unfold capOk
  cases e:scope.names.lookup y with
  | none=>rfl
  | some k =>
    rw [e] at q
    cases k with
    | free =>
      have q2:X.env.scope.names.lookup y=some .cell ∨ X.env.scope.names.lookup y=some .free:=by simpa using q
      show (X.env.kindOf y == some .cell || X.env.kindOf y == some .free)=true
      have e2:X.env.kindOf y=X.env.scope.names.lookup y:=rfl
      rw [e2]
      rcases q2 with z | z <;> rw [z] <;> rfl
    | _=>simp at q
theorem comp_list {K:PySem.W.Frag} {a:Addr} {xs:List V} {te:TE} {σ:St} {H:Hp} {Q:VK} (f:V→V) (hq:SqL K H a xs) (hn:xs.length < sizeLine)
    (he:∀ (D:Addr) (i:Nat) (x:V) (l:List V) (Q':VK),H D=none→xs[i]?=some x→Q' (f x) (upd H D (.lst l))→te (some x :: σ) (upd H D (.lst l)) Q') (hd:∀ D,H D=none→Q (.ref D) (upd H D (.lst (xs.map f)))) :
    CompGo (Itl K a) H σ ttAll te Q:=by
  intro D hD
  refine ⟨fun i m H'=>m=xs.length - i∧i ≤ xs.length∧H'=upd H D (.lst ((xs.take i).map f)),⟨xs.length,by omega,Nat.zero_le _,rfl⟩,?_⟩
  rintro i m H' ⟨rfl,hi,rfl⟩
  have hs:Same H (upd H D (.lst ((xs.take i).map f))):=fun b o e=>by rw [upd_ne (ne_of_none e hD)]; exact e
  have q:=hs.seq hq
  by_cases hlt:i < xs.length
  · refine .inr ⟨⟨xs,xs[i],q,by simp [hlt]⟩,fun x H2 y=>?_⟩
    obtain ⟨e,y⟩:=y
    subst e
    have hx:=y xs q
    unfold ttAll
    refine iteT ?_
    refine he D i x _ _ hD hx ⟨_,upd_same,?_,xs.length - (i + 1),by omega,rfl,hlt,?_⟩
    · rw [List.length_map,List.length_take]; omega
    · rw [upd_upd,List.take_add_one,hx,List.map_append]
      rfl
  · have e:i=xs.length:=by omega
    subst e
    refine .inl ⟨⟨xs,q,Nat.le_refl _⟩,?_⟩
    rw [List.take_length]
    exact hd D hD
end L2
namespace L2
open PySem PySem.Spec PyProof.Rows
section
variable {X:Cx}
def rMinL (K:PySem.W.Frag):List V→Hp→VK→Prop:=fun xs H Q=>∃ (p:Addr) (ns:List Int),xs=[.ref p]∧SqL K H p (ns.map V.int)∧0 < ns.length∧∀ M:Int,M ∈ ns→(∀ b ∈ ns,M ≤ b)→Q (.int M) H
theorem call_minL (hc:X.calm=true):CallR X (.builtin "min") (rMinL X.K):=by
  intro pins s σ H xs us Q I r h
  obtain ⟨p,ns,e1,hS,hn,q⟩:=h
  subst e1
  obtain ⟨u,e2,ru⟩:=vals1 r
  subst e2
  obtain rfl:u=Value.ref p:=ru
  obtain ⟨its,rv,pl,hz⟩:=I.list hS
  have ia:=intsAre_of rv
  obtain ⟨zs,ez⟩:=ia.allInts.items
  have en:ns=zs.toList.map (·.1):=by rw [← ia.numsOf,← nums_intItems,← ez]
  have hs:0 < zs.size:=by
    rw [en,List.length_map,Array.length_toList] at hn
    exact hn
  have hL:=pl.isList
  rw [ez] at hL
  refine min_intList (I.ok.hd hc) hL hs fun v h' tk hv hk=>?_
  obtain ⟨t,e3⟩:=intItems_at hv
  subst e3
  obtain ⟨g1,g2⟩:=argBest_lt (numAt zs) (zs.size - 1)
  refine ⟨.int _,H,I.kept hk,⟨t,rfl⟩,q _ ?_ fun b hb=>?_⟩
  · rw [en,numAt_eq]
    exact getD_mem (by rw [List.length_map,Array.length_toList]; omega)
  · rw [en] at hb
    obtain ⟨j,hj,e4⟩:=mem_getD hb
    subst e4
    rw [List.length_map,Array.length_toList] at hj
    rw [← numAt_eq]
    exact g2 j (by omega)
def iEnL0 (K:PySem.W.Frag) (ta:TA):TI:=fun σ H R=>ta σ H fun vs H1=>∃ a,vs=[.ref a]∧(∃ xs,SqL K H1 a xs)∧R (Ite (fun H xs=>SqL K H a xs) 0) H1
theorem pi_enL0 {es:List Expr} {kk:Nat} {pt:Pos} {l:Expr} {ta:TA} {p pos:Pos} (hg:Gl X "enumerate") (hm:X.mg "enumerate"=none) (ha:PA X [l] ta) (hs:starEach [l] X.env=[(false,eval l X.env)]:=by rfl) :
    PI X (.Tuple es kk pt) (.Call (.Name "enumerate" p) [l] [] pos) (iEnL0 X.K ta):=by
  intro pins s σ H R I h
  refine Call_ (ld_blt I hg hm boot_enumerate (PyProof.Rows.callWith_type1 (thn (ha pos pins s σ H _ I h) fun us s1 ⟨vs,H1,I1,r1,q1⟩=>?_) hs rfl))
  obtain ⟨a,e1,⟨xs,hq⟩,q⟩:=q1
  subst e1
  obtain ⟨u,e1,r3⟩:=vals1 r1
  subst e1
  obtain rfl:u=Value.ref a:=r3
  obtain ⟨its,rv,pl,hz⟩:=I1.list hq
  refine call_enumerate_list pl.isList fun h' he hit hsz kp=>?_
  have I3:Inv X pins σ H1 { s1 with heap:=h' }:=I1.kept (t':=s1.toks) kp
  refine wpAny_pyIter_enum he ⟨s1.heap.objs.size + 1,[s1.heap.objs.size + 1,s1.heap.objs.size],_,_,H1,rfl,I3,turn_enL a _ _ 0 (Nat.succ_ne_self _),⟨⟨.none,by rw [show (0:Int) + ((0:Nat):Int)=0 by omega]; exact he⟩,hit⟩,fun b hb=>?_,q⟩
  rcases List.mem_cons.mp hb with z | z
  · subst z
    exact I1.fpOk (Nat.le_succ _) (I1.hok.fresh (Nat.le_succ _))
  · have z:b=s1.heap.objs.size:=by simpa using z
    subst z
    exact I1.fpOk (Nat.le_refl _) (I1.hok.fresh (Nat.le_refl _))
end
theorem comp_listG {K:PySem.W.Frag} {a:Addr} {xs:List V} {te:TE} {σ:St} {H:Hp} {Q:VK} (Pv:Addr→Nat→List V→Hp→Prop) (hn:xs.length < sizeLine) (h0:∀ D,H D=none→Pv D 0 [] (upd H D (.lst [])))
    (hs:∀ D i l H',Pv D i l H'→SqL K H' a xs) (hl:∀ D i l H',Pv D i l H'→l.length ≤ i)
    (he:∀ (D:Addr) (i:Nat) (x:V) (l:List V) (H':Hp) (Q':VK),xs[i]?=some x→Pv D i l H'→(∀ y H3,H3 D=some (.lst l)→Pv D (i + 1) (l ++ [y]) (upd H3 D (.lst (l ++ [y])))→Q' y H3)→te (some x :: σ) H' Q')
    (hd:∀ D l H',Pv D xs.length l H'→Q (.ref D) H'):CompGo (Itl K a) H σ ttAll te Q:=by
  intro D hD
  refine ⟨fun i m H'=>m=xs.length - i∧i ≤ xs.length∧∃ l,Pv D i l H',⟨xs.length,by omega,Nat.zero_le _,[],h0 D hD⟩,?_⟩
  rintro i m H' ⟨rfl,hi,l,hp⟩
  have q:=hs D i l H' hp
  by_cases hlt:i < xs.length
  · refine .inr ⟨⟨xs,xs[i],q,by simp [hlt]⟩,fun x H2 y=>?_⟩
    obtain ⟨e,y⟩:=y
    subst e
    unfold ttAll
    refine iteT (he D i x l H2 _ (y xs q) hp fun v H4 z1 z2=>?_)
    have hl2:=hl D i l H2 hp
    exact ⟨l,z1,Nat.lt_of_le_of_lt hl2 (by omega),xs.length - (i + 1),by omega,rfl,hlt,l ++ [v],z2⟩
  · have e:i=xs.length:=by omega
    subst e
    exact .inl ⟨⟨xs,q,Nat.le_refl _⟩,hd D l H' hp⟩
section
variable {X:Cx} {K:PySem.W.Frag}
theorem call_listK (hK:X.K=K):CallR X (.type "list") (fun xs H Q=>∃ p ys,xs=[.ref p]∧(SqL K H p ys ∨ SqT K H p ys)∧∀ l,H l=none→Q (.ref l) (upd H l (.lst ys))):=by
  subst hK
  exact call_list_of
end
end L2
namespace L2
open PySem
section
variable {prog:Program} {w:World} {A:Around} {R:Result→Shared→Prop} {I Z:Addr} {fp wr:List Addr} {n:Nat} {P:Nat→Value→Prop} {St:Nat→Heap→Prop} {Ok:Heap→Prop}
end
section
variable {prog:Program} {w:World} {A:Around} {E:Value→Shared→Prop} {s:Shared}
end
end L2
namespace L2
open PySem PySem.Spec PyProof.Rows
theorem Vals.at {xs:List V} {us:List Value} {i:Nat} {u:Value} (r:Vals xs us) (h:us[i]?=some u):∃ x,xs[i]?=some x∧RelV x u:=by
  have hi:i < us.length:=(List.getElem?_eq_some_iff.mp h).1
  have hl:=r.length
  obtain ⟨w,q,p⟩:=r.get (i:=i) (x:=xs[i]) (by simp [show i < xs.length by omega])
  rw [h] at q
  cases q
  exact ⟨xs[i],by simp [show i < xs.length by omega],p⟩
theorem bl_at {bs:List Bool} {us:List Value} {i:Nat} {u:Value} (r:Vals (bs.map V.bl) us) (h:us[i]?=some u):∃ b,bs[i]?=some b∧u=.bool b:=by
  obtain ⟨x,hx,p⟩:=r.at h
  rw [List.getElem?_map] at hx
  cases e:bs[i]? with
  | none=>rw [e] at hx; cases hx
  | some b =>
    rw [e] at hx
    have q:V.bl b=x:=Option.some.inj hx
    subst q
    exact ⟨b,rfl,p⟩
theorem all_getD:∀ bs:List Bool,((List.range bs.length).all fun i=>(bs[i]?).getD true)=bs.all id
  | []=>rfl
  | b :: bs=>by
    have ih:=all_getD bs
    rw [List.length_cons,List.range_succ_eq_map,List.all_cons,List.all_map,List.all_cons,← ih]
    rfl
section
variable {X:Cx}
def rMaxL (K:PySem.W.Frag):List V→Hp→VK→Prop:=fun xs H Q=>∃ (p:Addr) (ns:List Int),xs=[.ref p]∧SqL K H p (ns.map V.int)∧0 < ns.length∧∀ M:Int,M ∈ ns→(∀ b ∈ ns,b ≤ M)→Q (.int M) H
theorem call_maxL (hc:X.calm=true):CallR X (.builtin "max") (rMaxL X.K):=by
  intro pins s σ H xs us Q I r h
  obtain ⟨p,ns,e1,hS,hn,q⟩:=h
  subst e1
  obtain ⟨u,e2,ru⟩:=vals1 r
  subst e2
  obtain rfl:u=Value.ref p:=ru
  obtain ⟨its,rv,pl,hz⟩:=I.list hS
  have ia:=intsAre_of rv
  obtain ⟨zs,ez⟩:=ia.allInts.items
  have en:ns=zs.toList.map (·.1):=by rw [← ia.numsOf,← nums_intItems,← ez]
  have hs:0 < zs.size:=by
    rw [en,List.length_map,Array.length_toList] at hn
    exact hn
  have hL:=pl.isList
  rw [ez] at hL
  refine max_intList (I.ok.hd hc) hL hs fun v h' tk hv hk=>?_
  obtain ⟨t,e3⟩:=intItems_at hv
  subst e3
  obtain ⟨g1,g2⟩:=argBest_gt (numAt zs) (zs.size - 1)
  refine ⟨.int _,H,I.kept hk,⟨t,rfl⟩,q _ ?_ fun b hb=>?_⟩
  · rw [en,numAt_eq]
    exact getD_mem (by rw [List.length_map,Array.length_toList]; omega)
  · rw [en] at hb
    obtain ⟨j,hj,e4⟩:=mem_getD hb
    subst e4
    rw [List.length_map,Array.length_toList] at hj
    rw [← numAt_eq]
    exact g2 j (by omega)
def rAllL (K:PySem.W.Frag):List V→Hp→VK→Prop:=fun xs H Q=>∃ (p:Addr) (bs:List Bool),xs=[.ref p]∧SqL K H p (bs.map V.bl)∧Q (.bl (bs.all id)) H
theorem call_allL (hc:X.calm=true):CallR X (.builtin "all") (rAllL X.K):=by
  intro pins s σ H xs us Q I r h
  obtain ⟨p,bs,e1,hS,q⟩:=h
  subst e1
  obtain ⟨u,e2,ru⟩:=vals1 r
  subst e2
  obtain rfl:u=Value.ref p:=ru
  obtain ⟨its,rv,pl,hz⟩:=I.list hS
  have hL:=pl.isList
  have lt:p < s.heap.objs.size:=by
    obtain ⟨_,e,_⟩:=hL
    exact Heap.lt_size e
  refine call_all_walk (wpAny_pyIter_list hL ?_)
  refine ⟨s.heap.objs.size,[s.heap.objs.size,p],[s.heap.objs.size],its.toArray.size,_,_,fun i=>(bs[i]?).getD true,rfl,Walks.list (A:=X.A.in1) (I.ok.hd hc) _ p (Nat.ne_of_lt lt) its.toArray,
    ⟨⟨_,Heap.get?_push_size _ rfl,rfl,rfl⟩,hL.push _⟩,fun i v s' Q' E' hP hQ=>?_,fun h' tk hk=>?_⟩
  · obtain ⟨b,e,e3⟩:=bl_at rv (by simpa using hP)
    subst e3
    simp only [e,Option.getD_some] at hQ
    exact wpAny_truthy_bool hQ
  · have e:((List.range its.toArray.size).all fun i=>(bs[i]?).getD true)=bs.all id:=by
      have hl:=rv.length
      rw [List.length_map] at hl
      rw [List.size_toArray,← hl,all_getD]
    rw [e]
    refine ⟨.bl _,H,I.kept (t':=tk) fun b o eb=>hk b o (fun hm=>?_) (Heap.get?_push_of_some _ eb),rfl,q⟩
    rw [List.mem_singleton.mp hm] at eb
    exact Nat.lt_irrefl _ (Heap.lt_size eb)
def rEqN (K:PySem.W.Frag) (neg:Bool):R2:=fun x y H Q=>∃ a b xs,x=.ref a∧y=.ref b∧SqL K H a xs∧SqL K H b []∧Q (.bl (if neg then !xs.isEmpty else xs.isEmpty)) H
theorem op_eqN (hu:X.A.units < cLine):OpR X (compareOp .Eq) (rEqN X.K false):=by
  intro pins s σ H x y v u Q I rx ry h
  obtain ⟨a,b,xs,e1,e2,hA,hB,q⟩:=h
  subst e1 e2
  obtain rfl:v=Value.ref a:=rx
  obtain rfl:u=Value.ref b:=ry
  obtain ⟨its,r,pl,hz⟩:=I.list hA
  obtain ⟨its2,r2,pl2,hz2⟩:=I.list hB
  have l1:=r.length
  have l2:=r2.length
  rw [List.length_nil] at l2
  cases xs with
  | nil =>
    rw [List.length_nil] at l1
    refine SeqAt.eq_listAt (e:=fun _=>true) pl.isList pl2.isList (by rw [List.size_toArray,List.size_toArray]; omega) hu (fun j h1 h2=>by rw [List.size_toArray] at h1; omega) ⟨.bl true,H,I,?_,q⟩
    show Value.bool _=Value.bool true
    congr 1
    exact List.all_eq_true.mpr fun _ _=>rfl
  | cons x0 xs0 =>
    rw [List.length_cons] at l1
    refine SeqAt.eq_list_lengthsAt pl.isList pl2.isList ?_ hu ⟨.bl false,H,I,rfl,q⟩
    rw [List.size_toArray,List.size_toArray]
    simp
    omega
theorem op_neN (hu:X.A.units < cLine):OpR X (compareOp .NotEq) (rEqN X.K true):=by
  intro pins s σ H x y v u Q I rx ry h
  obtain ⟨a,b,xs,e1,e2,hA,hB,q⟩:=h
  subst e1 e2
  obtain rfl:v=Value.ref a:=rx
  obtain rfl:u=Value.ref b:=ry
  obtain ⟨its,r,pl,hz⟩:=I.list hA
  obtain ⟨its2,r2,pl2,hz2⟩:=I.list hB
  have l1:=r.length
  have l2:=r2.length
  rw [List.length_nil] at l2
  cases xs with
  | nil =>
    rw [List.length_nil] at l1
    refine SeqAt.RcNeAt.lists (e:=fun _=>true) pl.isList pl2.isList (by rw [List.size_toArray,List.size_toArray]; omega) hu (fun j h1 h2=>by rw [List.size_toArray] at h1; omega) _ _ _ _ ⟨.bl false,H,I,?_,q⟩
    show Value.bool _=Value.bool false
    congr 1
    rw [show ((List.range its.toArray.size).all fun _=>true)=true from List.all_eq_true.mpr fun _ _=>rfl]
    rfl
  | cons x0 xs0 =>
    rw [List.length_cons] at l1
    refine SeqAt.RcNeAt.lists_lengths pl.isList pl2.isList ?_ hu _ _ _ _ ⟨.bl true,H,I,rfl,q⟩
    rw [List.size_toArray,List.size_toArray]
    simp
    omega
end
section
variable {X:Cx}
end
end L2
namespace L2
open PySem PySem.Spec PyProof.Rows
section
variable {κ:Type} [DecidableEq κ]
def valV (kvs:List (κ × V)) (k:κ):Option V:=(kvs.find? fun kv=>decide (kv.1=k)).map (·.2)
def putK (kvs:List (κ × V)) (k:κ) (v:V):List (κ × V) :=
  if (kvs.any fun kv=>decide (kv.1=k))=true then kvs.map (fun kv=>if kv.1=k then (kv.1,v) else kv) else kvs ++ [(k,v)]
theorem valV_pos {p:κ × V} {r:List (κ × V)} {k:κ} (e:p.1=k):valV (p :: r) k=some p.2:=by simp [valV,List.find?_cons,e]
theorem valV_neg {p:κ × V} {r:List (κ × V)} {k:κ} (e:¬ p.1=k):valV (p :: r) k=valV r k:=by simp [valV,List.find?_cons,e]
theorem valV_any (k:κ):∀ kvs:List (κ × V),(kvs.any fun kv=>decide (kv.1=k))=(valV kvs k).isSome
  | []=>rfl
  | p :: r=>by
    rw [List.any_cons]
    by_cases e:p.1=k
    · simp only [valV_pos e,decide_eq_true e,Bool.true_or,Option.isSome_some]
    · rw [valV_neg e,decide_eq_false e,Bool.false_or]; exact valV_any k r
theorem valV_map (k j:κ) (y:V):∀ kvs:List (κ × V),valV (kvs.map fun kv=>if kv.1=k then (kv.1,y) else kv) j=(valV kvs j).map fun x=>if j=k then y else x
  | []=>rfl
  | p :: r=>by
    have ih:=valV_map k j y r
    rw [List.map_cons]
    by_cases h:p.1=k
    · rw [if_pos h]
      by_cases e:p.1=j
      · rw [valV_pos (p:=(p.1,y)) e,valV_pos e,Option.map_some,if_pos (e.symm.trans h)]
      · rw [valV_neg (p:=(p.1,y)) e,valV_neg e,ih]
    · rw [if_neg h]
      by_cases e:p.1=j
      · rw [valV_pos (p:=p) e,valV_pos e,Option.map_some,if_neg (fun z=>h (e.trans z))]
      · rw [valV_neg (p:=p) e,valV_neg e,ih]
theorem valV_snoc (k j:κ) (y:V):∀ kvs:List (κ × V),valV kvs k=none→valV (kvs ++ [(k,y)]) j=if j=k then some y else valV kvs j
  | [],_=>by
    by_cases e:k=j
    · rw [if_pos e.symm]; exact valV_pos (p:=(k,y)) e
    · rw [if_neg (fun z=>e z.symm)]; exact valV_neg (p:=(k,y)) e
  | p :: r,hn=>by
    rw [List.cons_append]
    have hk:¬ p.1=k:=fun z=>by rw [valV_pos z] at hn; cases hn
    rw [valV_neg hk] at hn
    have ih:=valV_snoc k j y r hn
    by_cases e:p.1=j
    · rw [valV_pos e,valV_pos e,if_neg (fun z=>hk (e.trans z))]
    · rw [valV_neg e,valV_neg e,ih]
theorem valV_put (kvs:List (κ × V)) (k j:κ) (y:V):valV (putK kvs k y) j=if j=k then some y else valV kvs j:=by
  unfold putK
  by_cases a:(kvs.any fun kv=>decide (kv.1=k))=true
  · rw [if_pos a,valV_map]
    rw [valV_any] at a
    by_cases e:j=k
    · obtain ⟨x,hx⟩:=Option.isSome_iff_exists.mp a
      rw [if_pos e,e,hx,Option.map_some,if_pos rfl]
    · rw [if_neg e]
      cases valV kvs j with
      | none=>rfl
      | some x=>rw [Option.map_some,if_neg e]
  · rw [if_neg a]
    refine valV_snoc k j y kvs ?_
    rw [valV_any] at a
    cases q:valV kvs k with
    | none=>rfl
    | some x=>rw [q] at a; exact (a rfl).elim
theorem length_putK (kvs:List (κ × V)) (k:κ) (v:V):(putK kvs k v).length ≤ kvs.length + 1:=by
  unfold putK
  split
  · rw [List.length_map]; omega
  · rw [List.length_append,List.length_cons,List.length_nil]; omega
theorem RelO.isSome_eq {o:Option V} {u:Option Value} (r:RelO o u):o.isSome=u.isSome:=by
  cases o with
  | none=>cases u with
    | none=>rfl
    | some _=>exact (show False from r).elim
  | some _=>cases u with
    | none=>exact (show False from r).elim
    | some _=>rfl
theorem KV.val {kvs:List (κ × V)} {vs:List (κ × Value)} (r:KV kvs vs) (k:κ):RelO (valV kvs k) (valueAt vs k):=by
  unfold KV at r
  induction r with
  | nil=>exact True.intro
  | @cons p q ps qs h t ih =>
    obtain ⟨h1,h2⟩:=h
    by_cases e:p.1=k
    · have e':q.1=k:=h1.symm.trans e
      have b:valueAt (q :: qs) k=some q.2:=by simp [valueAt,List.find?_cons,e']
      rw [valV_pos e,b]; exact h2
    · have e':¬ q.1=k:=fun z=>e (h1.trans z)
      have b:valueAt (q :: qs) k=valueAt qs k:=by simp [valueAt,List.find?_cons,e']
      rw [valV_neg e,b]; exact ih
theorem KV.any {kvs:List (κ × V)} {vs:List (κ × Value)} (r:KV kvs vs) (k:κ):(kvs.any fun kv=>decide (kv.1=k))=vs.any fun kv=>decide (kv.1=k):=by
  unfold KV at r
  induction r with
  | nil=>rfl
  | cons h t ih=>rw [List.any_cons,List.any_cons,ih,h.1]
theorem KV.repl {kvs:List (κ × V)} {vs:List (κ × Value)} (r:KV kvs vs) (k:κ) {y:V} {u:Value} (ry:RelV y u) :
    KV (kvs.map fun kv=>if kv.1=k then (kv.1,y) else kv) (vs.map fun kv=>if kv.1=k then (kv.1,u) else kv):=by
  unfold KV at r ⊢
  induction r with
  | nil=>exact .nil
  | @cons p q ps qs h t ih =>
    rw [List.map_cons,List.map_cons]
    refine .cons ?_ ih
    obtain ⟨h1,h2⟩:=h
    by_cases e:p.1=k
    · rw [if_pos e,if_pos (h1.symm.trans e)]; exact ⟨h1,ry⟩
    · rw [if_neg e,if_neg (fun z=>e (h1.trans z))]; exact ⟨h1,h2⟩
theorem KV.put {kvs:List (κ × V)} {vs:List (κ × Value)} (r:KV kvs vs) (k:κ) {y:V} {u:Value} (ry:RelV y u):KV (putK kvs k y) (stored vs k u):=by
  unfold putK stored
  rw [r.any k]
  by_cases e:(vs.any fun kv=>decide (kv.1=k))=true
  · rw [if_pos e,if_pos e]; exact r.repl k ry
  · rw [if_neg e,if_neg e]; exact Paired.snoc r ⟨rfl,ry⟩
theorem KV.length {kvs:List (κ × V)} {vs:List (κ × Value)} (r:KV kvs vs):kvs.length=vs.length:=Paired.length r
end
theorem kV_is {P:Program} {w:World} {k:Key} {u:Value} (r:RelV (kV k) u):(mixKind P w).is k u=true:=by
  cases k with
  | inl i=>obtain ⟨t,e⟩:=(show ∃ t,u=Value.int i t from r); subst e; exact mixKind_int P w i t
  | inr x=>obtain ⟨t,e⟩:=(show ∃ t,u=Value.str x t from r); subst e; exact mixKind_str P w x t
theorem items_are {P:Program} {w:World}:∀ {ks:List Key} {us:List Value},Vals (ks.map kV) us→ItemsAre (mixKind P w) ks us
  | [],_,r=>by rw [List.map_nil] at r; cases r; exact .nil
  | k :: ks,_,r=>by
    rw [List.map_cons] at r
    cases r with
    | cons h t=>exact .cons (kV_is h) (items_are t)
abbrev KT (H:Hp):List (List Key × V)→List (List Key × Addr × Value)→Prop:=Paired fun p q=>p.1=q.1∧H q.2.1=some (.tup (p.1.map kV))∧RelV p.2 q.2.2
theorem KT.val {H:Hp} {kvs:List (List Key × V)} {xs:List (List Key × Addr × Value)} (r:KT H kvs xs) (k:List Key):RelO (valV kvs k) ((atKey xs k).map (·.2)):=by
  induction r with
  | nil=>exact True.intro
  | @cons p q ps qs h t ih =>
    obtain ⟨h1,_,h2⟩:=h
    by_cases e:p.1=k
    · have e':q.1=k:=h1.symm.trans e
      have b:atKey (q :: qs) k=some q.2:=by simp [atKey,List.find?_cons,e']
      rw [valV_pos e,b]; exact h2
    · have e':¬ q.1=k:=fun z=>e (h1.trans z)
      have b:atKey (q :: qs) k=atKey qs k:=by simp [atKey,List.find?_cons,e']
      rw [valV_neg e,b]; exact ih
theorem KT.repl {H:Hp} {kvs:List (List Key × V)} {xs:List (List Key × Addr × Value)} (r:KT H kvs xs) (k:List Key) {y:V} {u:Value} (ry:RelV y u) :
    KT H (kvs.map fun kv=>if kv.1=k then (kv.1,y) else kv) (xs.map (putAt k u)):=by
  induction r with
  | nil=>exact .nil
  | @cons p q ps qs h t ih =>
    rw [List.map_cons,List.map_cons]
    refine .cons ?_ ih
    obtain ⟨h1,h2,h3⟩:=h
    unfold putAt
    by_cases e:p.1=k
    · rw [if_pos e,if_pos (h1.symm.trans e)]; exact ⟨h1,h2,ry⟩
    · rw [if_neg e,if_neg (fun z=>e (h1.trans z))]; exact ⟨h1,h2,h3⟩
theorem KT.put {H:Hp} {kvs:List (List Key × V)} {xs:List (List Key × Addr × Value)} (r:KT H kvs xs) (k:List Key) {b:Addr} {y:V} {u:Value} (hb:H b=some (.tup (k.map kV))) (ry:RelV y u) :
    KT H (putK kvs k y) (storedH xs k b u):=by
  have e:(kvs.any fun kv=>decide (kv.1=k))=(atKey xs k).isSome:=by
    rw [valV_any,(r.val k).isSome_eq,Option.isSome_map]
  unfold putK storedH
  rw [e]
  by_cases q:(atKey xs k).isSome=true
  · rw [if_pos q,if_pos q]; exact r.repl k ry
  · rw [if_neg q,if_neg q]; exact Paired.snoc r ⟨rfl,hb,ry⟩
theorem KT.keeps {H H':Hp} {kvs:List (List Key × V)} {xs:List (List Key × Addr × Value)} (r:KT H kvs xs) (ht:∀ b ys,H b=some (.tup ys)→H' b=some (.tup ys)):KT H' kvs xs :=
  Paired.mapP r fun _ _ z=>⟨z.1,ht _ _ z.2.1,z.2.2⟩
section
variable {P:Program} {w:World} {H:Hp} {h:Heap} {a:Addr}
theorem rd_of {u:HO} (ok:HOk P w H h) (e:Rd H a u):ObjOk P w H h a u:=e.ok ok
theorem dk_rd {kvs:List (Key × V)} (ok:HOk P w H h) (e:Rd H a (.dK kvs)):kvs.length ≤ sizeLine∧(a == sysModules)=false∧∃ vs,KV kvs vs∧h.DictOf (mixKind P w) a vs :=
  show ObjOk P w H h a (.dK kvs) from rd_of ok e
theorem dk_of {kvs:List (Key × V)} (ok:HOk P w H h) (e:H a=some (.dK kvs)):kvs.length ≤ sizeLine∧(a == sysModules)=false∧∃ vs,KV kvs vs∧h.DictOf (mixKind P w) a vs:=dk_rd ok (.inl e)
theorem key_of {ks:List Key} (ok:HOk P w H h) (e:H a=some (.tup (ks.map kV))):(tupleKind (mixKind P w)).is h ks a:=by
  obtain ⟨_,its,r,o,h1,h2,n,h3⟩:=(show ObjOk P w H h a (.tup (ks.map kV)) from ok a _ e)
  exact ⟨o,its.toArray,n,h1,h2,h3,by simpa using items_are r⟩
theorem dt_rd {kvs:List (List Key × V)} (ok:HOk P w H h) (e:Rd H a (.dT kvs)):kvs.length ≤ sizeLine∧(a == sysModules)=false ∧
    ∃ xs,KT H kvs xs∧h.DictOfH (tupleKind (mixKind P w)) a xs:=by
  obtain ⟨z,y,xs,r,o,es,ep,h1,h2,h3,h4,h5⟩:=(show ObjOk P w H h a (.dT kvs) from rd_of ok e)
  refine ⟨z,y,xs,r,o,es,ep,h1,h2,h3,h4,fun x hx=>?_,h5⟩
  have all:∀ {l:List (List Key × V)} {m:List (List Key × Addr × Value)},KT H l m→∀ x ∈ m,(tupleKind (mixKind P w)).is h x.1 x.2.1:=by
    intro l m q
    induction q with
    | nil=>intro x hx; exact nomatch hx
    | @cons p q ps qs hq t ih =>
      intro x hx
      rcases List.mem_cons.mp hx with e | hx
      · subst e
        exact key_of ok (by rw [← hq.1]; exact hq.2.1)
      · exact ih x hx
  exact all r x hx
theorem dt_of {kvs:List (List Key × V)} (ok:HOk P w H h) (e:H a=some (.dT kvs)):kvs.length ≤ sizeLine∧(a == sysModules)=false ∧
    ∃ xs,KT H kvs xs∧h.DictOfH (tupleKind (mixKind P w)) a xs:=dt_rd ok (.inl e)
end
def DGet (H:Hp) (a:Addr) (y:V) (r:Option V):Prop :=
  (∃ kvs k,Rd H a (.dK kvs)∧y=kV k∧r=valV kvs k) ∨ ∃ kvs k b,Rd H a (.dT kvs)∧y=.ref b∧H b=some (.tup (k.map kV))∧r=valV kvs k
def DPut (H:Hp) (a:Addr) (y v:V) (H':Hp):Prop :=
  (∃ kvs k,H a=some (.dK kvs)∧y=kV k∧kvs.length < sizeLine∧H'=upd H a (.dK (putK kvs k v))) ∨
  ∃ kvs k b,H a=some (.dT kvs)∧y=.ref b∧H b=some (.tup (k.map kV))∧kvs.length < sizeLine∧H'=upd H a (.dT (putK kvs k v))
theorem DGet.k {H:Hp} {a:Addr} {kvs:List (Key × V)} {k:Key} (e:H a=some (.dK kvs)):DGet H a (kV k) (valV kvs k):=.inl ⟨kvs,k,.inl e,rfl,rfl⟩
theorem DPut.k {H:Hp} {a:Addr} {kvs:List (Key × V)} {k:Key} {v:V} (e:H a=some (.dK kvs)) (hl:kvs.length < sizeLine):DPut H a (kV k) v (upd H a (.dK (putK kvs k v))):=.inl ⟨kvs,k,e,rfl,hl,rfl⟩
section
variable {X:Cx} {pins:List (Addr × Obj)} {σ:St} {H:Hp} {s:Shared} {a:Addr} {y v:V} {u r:Value} {o:Option V} {A:Around} {E:Value→Shared→Prop}
theorem Inv.big (I:Inv X pins σ H s):sysModules < s.heap.objs.size:=by
  have h:mainGlobals < s.heap.objs.size:=(I.mod.glob.keeps I.bk).lt
  exact Nat.lt_trans (by decide) h
theorem d_getItem {Q:Value→Shared→Prop} (hu:A.units + 1 < cLine) (I:Inv X pins σ H s) (g:DGet H a y (some v)) (ry:RelV y u) (h:∀ w' s',Inv X pins σ H s'→RelV v w'→Q w' s') :
    wpAny (model X.prog X.w) A (getItem (.ref a) u) Q E s:=by
  rcases g with ⟨kvs,k,e,ey,l⟩ | ⟨kvs,k,b,e,ey,eb,l⟩
  · subst ey
    obtain ⟨z,hd,vs,rel,dd⟩:=dk_rd I.hok e
    obtain ⟨w',hw,rw'⟩:=RelO.some_of (v:=v) (o:=valueAt vs k) (by rw [l]; exact rel.val k)
    exact wpAny_getItem_of (kV_is ry) dd.mapOf hw (h w' _ (I.tok _) rw')
  · subst ey
    cases (show u=Value.ref b from ry)
    obtain ⟨z,hd,xs,rel,dd⟩:=dt_rd I.hok e
    obtain ⟨w',hw,rw'⟩:=RelO.some_of (v:=v) (o:=(atKey xs k).map (·.2)) (by rw [l]; exact rel.val k)
    obtain ⟨p,hp,hp2⟩:=Option.map_eq_some_iff.mp hw
    refine wpAny_getItem_heap (tupleKind_room_in1 hu) (key_of I.hok eb) dd hp ?_
    rw [hp2]
    exact h w' _ (I.tok _) rw'
theorem d_in {Q:Value→Shared→Prop} (hu:A.units + 1 < cLine) (I:Inv X pins σ H s) (g:DGet H a y o) (ry:RelV y u) (h:∀ s',Inv X pins σ H s'→Q (.bool o.isSome) s') :
    wpAny (model X.prog X.w) A (compareOp .In u (.ref a)) Q E s:=by
  rcases g with ⟨kvs,k,e,ey,l⟩ | ⟨kvs,k,b,e,ey,eb,l⟩
  · subst ey
    obtain ⟨z,hd,vs,rel,dd⟩:=dk_rd I.hok e
    refine wpAny_in_of (kV_is ry) hd dd.mapOf ?_
    rw [← (rel.val k).isSome_eq,← l]
    exact h _ (I.tok _)
  · subst ey
    cases (show u=Value.ref b from ry)
    obtain ⟨z,hd,xs,rel,dd⟩:=dt_rd I.hok e
    refine wpAny_in_heap (tupleKind_room_in1 hu) (key_of I.hok eb) hd dd ?_
    have q:=(rel.val k).isSome_eq
    rw [Option.isSome_map] at q
    rw [← q,← l]
    exact h _ (I.tok _)
theorem d_write {h':Heap} {t':Nat} {ob:HO} (I:Inv X pins σ H s) (mu:Mut (H a)) (hs:Heap.SameBut a s.heap h') (he:∃ q,h'.get? a=some q) (new:ObjOk X.prog X.w (upd H a ob) h' a ob) :
    Inv X pins σ (upd H a ob) { s with heap:=h',toks:=t' } :=
  I.write (x:=a) (e:=a) mu (.inl rfl) (fun b q hb z=>(hs.2 b hb).trans z) he new
theorem dk_new {P:Program} {w:World} {H':Hp} {h':Heap} {kvs:List (Key × V)} {vs:List (Key × Value)} (z:kvs.length ≤ sizeLine) (hd:(a == sysModules)=false) (rel:KV kvs vs) (dd:h'.DictOf (mixKind P w) a vs) :
    ObjOk P w H' h' a (.dK kvs):=⟨z,hd,vs,rel,dd⟩
theorem d_setItem {H':Hp} {Q:Unit→Shared→Prop} (hu:A.units + 1 < cLine) (I:Inv X pins σ H s) (g:DPut H a y v H') (ry:RelV y u) (rv:RelV v r) (h:∀ s',Inv X pins σ H' s'→Q () s') :
    wpAny (model X.prog X.w) A (setItem (.ref a) u r) Q E s:=by
  rcases g with ⟨kvs,k,e,ey,l,eH⟩ | ⟨kvs,k,b,e,ey,eb,l,eH⟩
  · subst ey eH
    obtain ⟨z,hd,vs,rel,dd⟩:=dk_of I.hok e
    have hz:vs.length ≤ sizeLine:=by rw [← rel.length]; exact z
    have hl:(putK kvs k v).length ≤ sizeLine:=by have:=length_putK kvs k v; omega
    refine wpAny_setItem_pairs (hsz:=hz) (kV_is ry) dd fun h' dd' hs=>h _ ?_
    have he:∃ q,h'.get? a=some q:=let ⟨q,_,_,hq,_⟩:=dd'; ⟨q,hq⟩
    exact d_write I (by rw [e]; exact True.intro) hs he (dk_new hl hd (rel.put k rv) dd')
  · subst ey eH
    cases (show u=Value.ref b from ry)
    obtain ⟨z,hd,xs,rel,dd⟩:=dt_of I.hok e
    have hz:xs.length ≤ sizeLine:=by rw [← Paired.length rel]; exact z
    have hl:(putK kvs k v).length ≤ sizeLine:=by have:=length_putK kvs k v; omega
    refine wpAny_setItem_heap (hsz:=hz) (tupleKind_room_in1 hu) (key_of I.hok eb) dd fun h' dd' hs=>h _ ?_
    obtain ⟨q,es,ep,hq,h2,h3,h4,_,h5⟩:=dd'
    refine d_write I (by rw [e]; exact True.intro) hs ⟨q,hq⟩ ⟨hl,hd,_,(rel.put k eb rv).keeps fun c ys ec=>?_,q,es,ep,hq,h2,h3,h4,h5⟩
    rw [upd_ne (ne_of ec e (fun z=>nomatch z))]
    exact ec
end
section
variable {X:Cx} {pins:List (Addr × Obj)} {σ:St} {H:Hp} {s:Shared} {a:Addr} {kvs:List (Key × V)} {k:Key} {u:Value} {A:Around} {E:Value→Shared→Prop}
end
def NoSl (i:Expr):Prop:=∀ ov iv,subscripted i false ov iv=operate [ov,iv] (getItem ov iv)
theorem subD_of {prog:Program} {w:World} {A:Around} {E:Value→Shared→Prop} {s:Shared} {env:Env} {value slice:Expr} {pos:Pos} {T id:String} {Q:Value→Shared→Prop}
    (hl:typeLookup (.type T) "__getitem__"=pure (some (.builtin id))) (hs:NoSl slice)
    (h:wpAny (model prog w) A (eval value env) (fun o s₁=>wpAny (model prog w) A (eval slice env) (fun i s₂=>s₂.TypeIs o T∧wpAny (model prog w) A (getItem o i) Q E s₂) E s₁) E s) :
    wpAny (model prog w) A (eval (.Subscript value slice pos) env) Q E s:=by
  refine Subscript_ (wpAny_mono h (fun o s₁ h₁=>wpAny_mono h₁ (fun i s₂ h₂=>?_) fun _ _ x=>x) fun _ _ x=>x)
  obtain ⟨hT,h₂⟩:=h₂
  unfold subscriptTail
  refine wpAny_bind ?_
  rw [getitemInPython_of_ne hT.not_modules]
  refine wpAny_bind (wpAny_specialOf hT hl ?_)
  have fin:wpAny (model prog w) A (subscripted slice false o i) (fun r s₃=>wpAny (model prog w) A (letTemporaryGo value o r >>= fun _=>pure r) Q E s₃) E s₂:=by
    rw [hs o i]
    exact wpAny_operating (wpAny_mono h₂ (fun r s₃ h₃=>wpAny_bind (wpAny_letTemporaryGo (wpAny_pure h₃))) fun _ _ x=>x)
  first
    | exact wpAny_pure (wpAny_bind fin)
    | exact wpAny_bind (wpAny_pure (wpAny_bind fin))
    | exact wpAny_bind fin
theorem dict_typeIs {X:Cx} {pins:List (Addr × Obj)} {σ:St} {H:Hp} {s:Shared} {a:Addr} {y:V} {o:Option V} (I:Inv X pins σ H s) (g:DGet H a y o):s.TypeIs (.ref a) "dict":=by
  rcases g with ⟨kvs,k,e,_,_⟩ | ⟨kvs,k,b,e,_,_,_⟩
  · obtain ⟨_,_,vs,_,dd⟩:=dk_rd I.hok e
    exact dd.typeIs
  · obtain ⟨_,_,xs,_,dd⟩:=dt_rd I.hok e
    exact dd.typeIs
def tDGet (td ty:TE):TE:=fun σ H Q=>td σ H fun x H1=>ty σ H1 fun y H2=>∃ a v,x=.ref a∧DGet H2 a y (some v)∧Q v H2
def tDIn (ty td:TE):TE:=fun σ H Q=>ty σ H fun y H1=>td σ H1 fun x H2=>∃ a o,x=.ref a∧DGet H2 a y o∧Q (.bl o.isSome) H2
def sDPut (td ty tv:TE):TS:=fun D σ H=>tv σ H fun v H1=>td σ H1 fun x H2=>ty σ H2 fun y H3=>∃ a H4,x=.ref a∧DPut H3 a y v H4∧D.nx σ H4
section
variable {X:Cx} {o i e value:Expr} {pos pos' tpos:Pos} {td ty tv:TE}
theorem pe_dget (hu:X.A.units + 1 < cLine) (ho:PE X o td) (hi:PE X i ty) (hs:NoSl i):PE X (.Subscript o i pos) (tDGet td ty):=by
  intro pins s σ H Q I h
  refine subD_of PySem.F.slot_dict_getitem.lookup hs (thn (ho pins s σ H _ I h) fun u s1 ⟨x,H1,I1,rx,q1⟩=>thn (hi pins s1 σ H1 _ I1 q1) fun iv s2 ⟨y,H2,I2,ry,a,v,ex,g,q2⟩=>?_)
  subst ex
  obtain rfl:u=Value.ref a:=rx
  exact ⟨dict_typeIs I2 g,d_getItem hu I2 g ry fun w' s3 I3 rw'=>⟨v,H2,I3,rw',q2⟩⟩
theorem pc_din (hu:X.A.units + 1 < cLine) (hi:PE X i ty) (ho:PE X o td):PC X .In i o (tDIn ty td):=by
  intro pins s σ H Q I h
  refine thn (hi pins s σ H _ I h) fun iv s1 ⟨y,H1,I1,ry,q1⟩=>thn (ho pins s1 σ H1 _ I1 q1) fun u s2 ⟨x,H2,I2,rx,a,ov,ex,g,q2⟩=>?_
  subst ex
  obtain rfl:u=Value.ref a:=rx
  exact d_in hu I2 g ry fun s3 I3=>⟨.bl ov.isSome,H2,I3,rfl,q2⟩
theorem ps_dput (hu:X.A.units + 1 < cLine) (ho:PE X o td) (hi:PE X i ty) (hv:PE X value tv) (hs:swapsWith value (some (.Subscript o i pos')) pos.line X.env=pure false) :
    PS X (.Assign [.Subscript o i pos'] value pos) (sDPut td ty tv):=by
  intro pins s σ H D I h
  refine wpAny_Assign_Subscript (thn (hv pins s σ H _ I h) fun r s1 ⟨v,H1,I1,rv,q1⟩=>thn (ho pins s1 σ H1 _ I1 q1) fun u s2 ⟨x,H2,I2,rx,q2⟩=>thn (hi pins s2 σ H2 _ I2 q2) fun iv s3 ⟨y,H3,I3,ry,a,H4,ex,g,q3⟩=>?_) hs
  subst ex
  obtain rfl:u=Value.ref a:=rx
  exact d_setItem hu I3 g ry rv fun s4 I4=>⟨σ,H4,I4,q3⟩
end
theorem dk_empty {P:Program} {w:World} {H:Hp} (h:Heap) (hb:sysModules < h.objs.size):ObjOk P w H (h.push { cls:=.type "dict",data:=.dict #[] }) h.objs.size (.dK []) :=
  ⟨Nat.zero_le _,beq_eq_false_iff_ne.mpr (Ne.symm (Nat.ne_of_lt hb)),[],.nil,Heap.DictOf.new h⟩
section
variable {X:Cx} {pos:Pos}
end
def tPairs:List (TE × TE)→St→Hp→(List (V × V)→Hp→Prop)→Prop
  | [],_,H,Q=>Q [] H
  | (tk,tv) :: r,σ,H,Q=>tk σ H fun x H1=>tv σ H1 fun y H2=>tPairs r σ H2 fun ps H3=>Q ((x,y) :: ps) H3
abbrev VV:List (V × V)→List (Value × Value)→Prop:=Paired fun p q=>RelV p.1 q.1∧RelV p.2 q.2
def PPs (X:Cx) (pos:Pos) (keys:List (Option Expr)) (values:List Expr) (trs:List (TE × TE)):Prop :=
  ∀ (pins:List (Addr × Obj)) (s:Shared) (σ:St) (H:Hp) (Q:List (V × V)→Hp→Prop),Inv X pins σ H s→tPairs trs σ H Q →
    wpAny (model X.prog X.w) X.A (evalPairs (pairTrees keys values X.env pos)) (fun vs s'=>∃ ps H',Inv X pins σ H' s'∧VV ps vs∧Q ps H') X.xe s
theorem pps_nil {X:Cx} {pos:Pos}:PPs X pos [] [] []:=fun pins s σ H Q I h=>pairTrees_nil_walk ⟨[],H,I,.nil,h⟩
theorem pps_cons {X:Cx} {pos:Pos} {k v:Expr} {ks:List (Option Expr)} {vs:List Expr} {tk tv:TE} {trs:List (TE × TE)} (hk:PE X k tk) (hv:PE X v tv) (hr:PPs X pos ks vs trs) :
    PPs X pos (some k :: ks) (v :: vs) ((tk,tv) :: trs):=fun pins s σ H Q I h =>
  pairTrees_cons_walk (thn (hk pins s σ H _ I h) fun u s1 ⟨x,H1,I1,rx,q1⟩=>thn (hv pins s1 σ H1 _ I1 q1) fun w2 s2 ⟨y,H2,I2,ry,q2⟩ =>
    thn (hr pins s2 σ H2 _ I2 q2) fun ws s3 ⟨ps,H3,I3,rel,q3⟩=>⟨(x,y) :: ps,H3,I3,.cons ⟨rx,ry⟩ rel,q3⟩)
def mergeK (kvs more:List (Key × V)):List (Key × V):=more.foldl (fun acc kv=>putK acc kv.1 kv.2) kvs
theorem KV.merge:∀ {more:List (Key × V)} {rs:List (Key × Value)} {kvs:List (Key × V)} {vs:List (Key × Value)},KV more rs→KV kvs vs→KV (mergeK kvs more) (merged vs rs):=by
  intro more rs kvs vs r
  unfold KV at r
  induction r generalizing kvs vs with
  | nil=>intro q; exact q
  | @cons p q ps qs h t ih =>
    intro r0
    have e:KV (putK kvs p.1 p.2) (stored vs q.1 q.2):=by
      have:=r0.put p.1 h.2
      rw [← h.1]; exact this
    exact ih e
theorem length_mergeK:∀ (more kvs:List (Key × V)),(mergeK kvs more).length ≤ kvs.length + more.length
  | [],kvs=>by show kvs.length ≤ kvs.length + 0; omega
  | p :: r,kvs=>by
    have h1:=length_mergeK r (putK kvs p.1 p.2)
    have h2:=length_putK kvs p.1 p.2
    show (mergeK (putK kvs p.1 p.2) r).length ≤ _
    rw [List.length_cons]; omega
theorem carries_of {P:Program} {w:World}:∀ {kvs:List (Key × V)} {ws:List (Value × Value)},VV (kvs.map fun kv=>(kV kv.1,kv.2)) ws→∃ rs,Carries (mixKind P w) ws rs∧KV kvs rs
  | [],_,r=>by rw [List.map_nil] at r; cases r; exact ⟨[],True.intro,.nil⟩
  | p :: kvs,_,r=>by
    rw [List.map_cons] at r
    cases r with
    | @cons a b as bs h t =>
      obtain ⟨rs,c,q⟩:=carries_of (P:=P) (w:=w) t
      obtain ⟨b1,b2⟩:=b
      exact ⟨(p.1,b2) :: rs,⟨kV_is h.1,rfl,c⟩,.cons ⟨rfl,h.2⟩ q⟩
def tDisp (trs:List (TE × TE)):TE:=fun σ H Q=>∀ p,H p=none→tPairs trs σ (upd H p (.dK [])) fun ps H2=>H2 p=some (.dK [])∧∃ kvs:List (Key × V),ps=kvs.map (fun kv=>(kV kv.1,kv.2))∧kvs.length ≤ 15∧Q (.ref p) (upd H2 p (.dK (mergeK [] kvs)))
theorem pe_disp {X:Cx} {pos:Pos} {keys:List (Option Expr)} {values:List Expr} {trs:List (TE × TE)} (h:PPs X pos keys values trs) (hall:keys.all (·.isSome)=true) (hl:keys.length=values.length) (h0:keys ≠ [])
    (h15:keys.length ≤ 15):PE X (.Dict keys values pos) (tDisp trs):=by
  intro pins s σ H Q I q
  have hn:=I.hok.fresh (Nat.le_refl s.heap.objs.size)
  have I1:=I.laid (a:=s.heap.objs.size) (o:=.dK []) (h':=s.heap.push { cls:=.type "dict",data:=.dict #[] }) (t':=s.toks) (fun _ _ q=>Heap.get?_push_of_some _ q) (Nat.le_refl _) (dk_empty s.heap I.big)
  refine wpAny_Dict_walk (knd:=mixKind X.prog X.w) hall hl h0 h15 (thn (h pins _ σ _ _ I1 (q _ hn)) fun ws s2 ⟨ps,H2,I2,rel,e,kvs,ep,lk,q2⟩=>?_)
  subst ep
  obtain ⟨rs,c,rk⟩:=carries_of (P:=X.prog) (w:=X.w) rel
  obtain ⟨z,hd,vs0,r0,dd⟩:=dk_of I2.hok e
  cases r0
  refine ⟨rs,c,dd,fun h' dd' hs=>⟨.ref s.heap.objs.size,_,?_,rfl,q2⟩⟩
  have hz:(mergeK [] kvs).length ≤ sizeLine:=by
    have h1:=length_mergeK kvs []
    rw [List.length_nil] at h1
    rw [sizeLine_eq]; omega
  have he:∃ q,h'.get? s.heap.objs.size=some q:=let ⟨q,_,_,hq,_⟩:=dd'; ⟨q,hq⟩
  exact d_write I2 (by rw [e]; exact True.intro) hs he (dk_new hz hd (rk.merge .nil) dd')
section
variable {X:Cx} {pins:List (Addr × Obj)} {σ:St} {H:Hp} {s:Shared} {a:Addr} {y d:V} {u r:Value} {o:Option V} {A:Around} {E:Value→Shared→Prop}
end
section
variable {X:Cx} {o e f:Expr} {apos cpos:Pos} {td ty tx:TE}
end
section
variable {X:Cx} {pins:List (Addr × Obj)} {σ:St} {H:Hp} {s:Shared} {a:Addr} {kvs:List (Key × V)} {A:Around} {E:Value→Shared→Prop}
end
section
variable {X:Cx} {pins:List (Addr × Obj)} {σ:St} {H:Hp} {s:Shared} {a:Addr} {y:V} {u:Value} {A:Around} {E:Value→Shared→Prop}
end
end L2
namespace S2
open PySem L2
theorem Same.put {H H2:Hp} {l:Addr} {o:HO} (s:Same H H2) (hn:H l=none):Same H (upd H2 l o):=fun b u e=>by
  rw [upd_ne (ne_of_none e hn)]
  exact s b u e
theorem get_lt {α:Type} {l:List α} {i:Nat} {x:α} (h:l[i]?=some x):i < l.length:=(List.getElem?_eq_some_iff.mp h).1
theorem small {n:Nat} (h:n ≤ 100000):n < sizeLine:=Nat.lt_of_le_of_lt h (by decide)
theorem smallE {n:Nat} (h:n ≤ 100000):n ≤ sizeLine:=Nat.le_of_lt (small h)
theorem atI_of {α:Type} {xs:List α} {z:Int} {j:Nat} {v:α} (e:z=(j:Int)) (h:xs[j]?=some v):atI xs z=some v:=by
  rw [e]
  exact atI_nat h
def gi (ns:List Int) (i:Nat):Int:=(ns[i]?).getD 0
theorem gi_at {ns:List Int} {i:Nat} (h:i < ns.length):(ns.map V.int)[i]?=some (V.int (gi ns i)):=by
  unfold gi
  rw [List.getElem?_map,List.getElem?_eq_getElem h]
  rfl
theorem mod_nat {z:Int} {n:Nat} (h:0 < n):∃ i:Nat,z % (n:Int)=(i:Int)∧i < n:=by
  have h1:0 ≤ z % (n:Int):=Int.emod_nonneg _ (by omega)
  have h2:z % (n:Int) < (n:Int):=Int.emod_lt_of_pos _ (by omega)
  exact ⟨(z % (n:Int)).toNat,by omega,by omega⟩
def cellsOf (i j:Nat) (ns:List Int):List Int:=(ns.drop (min i ns.length)).take (min j ns.length - min i ns.length)
theorem cells_len (i j:Nat) (ns:List Int):(cellsOf i j ns).length ≤ j - i:=by
  unfold cellsOf
  rw [List.length_take,List.length_drop]
  omega
theorem cells_cut (i j:Nat) (ns:List Int):cutV (ns.map V.int) (some (i:Int)) (some (j:Int))=(cellsOf i j ns).map V.int:=by
  unfold cutV cellsOf
  have e1:=HT.sIx_nat (ns.map V.int).length 0 i
  have e2:=HT.sIx_nat (ns.map V.int).length (ns.map V.int).length j
  rw [e1,e2,List.length_map,List.map_take,List.map_drop]
theorem int_at {ns:List Int} {i:Nat} {y:V} (h:(ns.map V.int)[i]?=some y):∃ z,y=V.int z∧ns[i]?=some z:=by
  rw [List.getElem?_map] at h
  cases e:ns[i]? with
  | none=>rw [e] at h; cases h
  | some z=>rw [e] at h; exact ⟨z,(Option.some.inj h).symm,rfl⟩
def spCell (K:PySem.W.Frag):Sp:=fun vs H Q _=>∃ (a:Addr) (k:Nat) (ns:List Int),vs=[.ref a,.int k]∧SqL K H a (ns.map V.int)∧ns.length ≤ 63∧∀ z:Int,Q (.int z) H
def spNumbers:Sp:=fun vs H Q _=>∃ (c:Int) (m:Nat),vs=[.int c,.int m]∧m ≤ 100∧∀ (l:Addr) (ns:List Int) (H':Hp),H l=none→Same H H'→H' l=some (.lst (ns.map V.int))→ns.length=m→Q (.ref l) H'
theorem snoc_at {H:Hp} {l:Addr} {ns:List Int} {x:Int}:(upd H l (.lst (ns.map V.int ++ [V.int x]))) l=some (.lst ((ns ++ [x]).map V.int)):=by
  rw [upd_same,List.map_append]
  rfl
theorem snoc_len {α:Type} {ns:List α} {x:α}:(ns ++ [x]).length=ns.length + 1:=by rw [List.length_append]; rfl
theorem iteB {A B:Prop} {c:Bool} (h:c=true) (a:A):if c=true then A else B:=by rw [if_pos h]; exact a
theorem iteC {A B:Prop} {c:Bool} (h:c=false) (b:B):if c=true then A else B:=by rw [if_neg (by rw [h]; exact Bool.false_ne_true)]; exact b
theorem while_out {c:TT} {tb:TS} {D:Ends} {σ:St} {H:Hp} (W:Nat→St→Hp→Prop) {m0:Nat} (h0:W m0 σ H) (out:∀ m σ H,W m σ H→D.nx σ H)
    (turn:∀ R:St→Hp→Prop,(∀ m σ H,W m σ H→R σ H)→∀ m σ H,W m σ H→c σ H fun b H1=>if b=true then ∃ N:St→Hp→Prop,(∀ σ' H',N σ' H'→∃ m',m' < m∧W m' σ' H')∧tb { D with nx:=N,ct:=N,bk:=D.nx } σ H1 else R σ H1):tWhile c tb D σ H :=
  ⟨W,⟨m0,h0⟩,turn D.nx out⟩
theorem nat_of {z:Int} {n:Nat} (h0:0 ≤ z) (h1:z < (n:Int)):∃ i:Nat,z=(i:Int)∧i < n:=⟨z.toNat,by omega,by omega⟩
end S2
namespace L2
open PySem PySem.Spec PyProof.Rows
abbrev Cx.compN (X:Cx) (N':List Str) (scope:Scope) (cl:List (Str × Addr)) (C:Addr) (fp:List Addr) (s:Shared) (H:Hp):Cx :=
  { X with N:=N',s₀:=s,H₀:=H,env:=compEnvC scope cl C X.env,outer:=X.stack,ex:=fp,fn:=fun _=>false,pn:=[],xe:=fun _ _=>False }
structure CompScN (X:Cx) (k:Nat) (N':List Str) (scope:Scope):Prop where
  kind:scope.kind=.function
  cell:∀ y ∈ scope.names,y.2 ≠ .cell
  names:∀ y ∈ scope.names,y.2=.local→scope.names.lookup y.1=some .local
  free:∀ y ∈ scope.names,y.2=.free→X.env.kindOf y.1=some .cell ∨ X.env.kindOf y.1=some .free
  len:N'.length=k + X.N.length
  cap:∀ i y,N'[k + i]?=some y→(X.N[i]?=some y∧capOk scope X.env y=true) ∨ scope.names.lookup y=none
theorem compN_inv {X:Cx} {k:Nat} {N':List Str} {scope:Scope} {cl:List (Str × Addr)} {fp:List Addr} {pins:List (Addr × Obj)} {σ:St} {H:Hp} {s:Shared} {h':Heap} {tk:Nat} {m:Str→Option Value} (S:CompScN X k N' scope) (I:Inv X pins σ H s)
    (hns:h'.Ns s.heap.objs.size m) (hk:∀ b o,s.heap.get? b=some o→h'.get? b=some o) (hf:∀ b ∈ fp,FpOk X pins H b) (ho:∀ b ∈ fp,∃ o,s.heap.get? b=some o)
    (hsub:∀ y c,cl.lookup y=some c→X.env.cells.lookup y=some c) (hall:∀ y ∈ scope.names,y.2=.free→∃ c,cl.lookup y.1=some c) :
    Inv (X.compN N' scope cl s.heap.objs.size fp s H) (X.pn ++ pins) (List.replicate k none ++ σ) H { s with heap:=h',toks:=tk }:=by
  refine ⟨⟨I.ok.mod,S.kind,I.ok.glob,I.ok.blt,Nat.le_refl _,fun y z c h1 h2=>I.ok.inj y z c (hsub y c h1) (hsub z c h2),fun y hy=>?_,fun y c hfn=>absurd hfn Bool.false_ne_true,I.ok.hd,I.ok.frames,.inl rfl,fun b hb=>⟨?_,fun y c e=>(hf b hb).2.2.2.2.1 y c (hsub y c e)⟩,
    I.bs,Nat.le_trans I.ok.bsz I.sz,fun b o e hb=>?_,fun b hb hs=>?_,I.stack,I.stkFree⟩,rfl,I.bare,Un.kept hk,⟨m,hns,fun i y v e1 e2 e3=>?_⟩,fun y c e=>?_,I.fresh,fun y c e=>I.freeC y c (hsub y c e),fun p hp=>?_,I.hok.kept hk,?_⟩
  · have hy':∃ k,(k=NameKind.cell ∨ k=NameKind.free)∧(relabel scope X.env).names.lookup y=some k:=by
      rcases hy with z | z
      · exact ⟨_,.inl rfl,z⟩
      · exact ⟨_,.inr rfl,z⟩
    obtain ⟨k,hk',e⟩:=hy'
    obtain ⟨k0,e0,r⟩:=rel_look e
    have kf:k0=.free:=by
      rcases r with r | r
      · subst r
        rcases hk' with z | z
        · subst z
          exact absurd rfl (S.cell _ (PySem.mem_of_lookup e0))
        · exact z
      · exact r.1
    subst kf
    exact hall (y,.free) (free_mem e0) rfl
  · obtain ⟨o,e⟩:=ho b hb
    exact Nat.ne_of_lt (Heap.lt_size e)
  · rcases (hf b hb).2.2.2.1 with z | z
    · exact I.ok.noex b o e z
    · exact absurd (Nat.lt_of_lt_of_le (Heap.lt_size e) (Nat.le_trans I.ok.bsz z)) (Nat.lt_irrefl _)
  · rcases List.mem_cons.mp (I.stkSub b hs) with z | z
    · exact (hf b hb).2.1 z
    · exact (hf b hb).2.2.1 z
  · have e1q:N'[i]?=some y:=e1
    by_cases hik:i < k
    · rw [List.getElem?_append_left (by simpa using hik),List.getElem?_replicate] at e2
      rw [if_pos hik] at e2
      cases e2
    obtain ⟨i,rfl⟩:∃ d,i=k + d:=⟨i - k,by omega⟩
    have e2':σ[i]?=some (some v):=by
      rw [List.getElem?_append_right (by simp)] at e2
      simpa using e2
    have hvis:∃ k,(relabel scope X.env).names.lookup y=some k:=by
      rcases e3 with z | z | z
      · exact ⟨_,z⟩
      · exact ⟨_,z⟩
      · exact ⟨_,z⟩
    obtain ⟨k,ek⟩:=hvis
    obtain ⟨k0,e0,r⟩:=rel_look ek
    rcases S.cap i y e1q with ⟨e1',hc⟩ | z0
    case inr=>rw [z0] at e0; cases e0
    unfold capOk at hc
    rw [e0] at hc
    have kf:k0=.free:=by cases k0 <;> simp_all
    subst kf
    have hkk:X.env.kindOf y=some .cell ∨ X.env.kindOf y=some .free:=by simpa using hc
    obtain ⟨m0,hn0,hl0⟩:=I.loc
    obtain ⟨u,ru,l⟩:=hl0 i y v e1' e2' (.inr hkk)
    refine ⟨u,ru,.inr ?_⟩
    obtain ⟨c',hc'⟩:=hall (y,.free) (free_mem e0) rfl
    rcases l with ⟨z,_⟩ | ⟨_,c,ec,⟨o,ho',hd'⟩⟩
    · rcases hkk with q | q <;> rw [z] at q <;> cases q
    · have e4:=hsub y c' hc'
      rw [ec] at e4
      have e5:c=c':=Option.some.inj e4
      subst e5
      refine ⟨?_,c,hc',o,hk _ _ ho',hd'⟩
      rcases r with r | r
      · subst r
        exact .inr ek
      · obtain ⟨_,r⟩:=r
        subst r
        exact .inl ek
  · obtain ⟨v,o,ho',hd'⟩:=I.cell y c (hsub y c e)
    exact ⟨v,o,hk _ _ ho',hd'⟩
  · have hp':p ∈ X.pn ++ pins:=by simpa using hp
    obtain ⟨e,n,ne,nf,d⟩:=I.pin p hp'
    refine ⟨hk _ _ e,n,Nat.ne_of_lt (Heap.lt_size e),fun z=>?_,d⟩
    rcases List.mem_cons.mp (I.stkSub p.1 z) with q | q
    · exact ne q
    · exact nf q
  · show (List.replicate k none ++ σ).length=N'.length
    rw [S.len,List.length_append,List.length_replicate,I.len]
def CompGoN (J:It) (H1:Hp) (k:Nat) (σ:St) (g:TG) (tt:TT) (te:TE) (Q:VK):Prop:=∀ D,H1 D=none→∃ W:Nat→Nat→Hp→Prop,(∃ m,W 0 m (upd H1 D (.lst [])))∧∀ i m H,W i m H →
  (J.stop i H∧Q (.ref D) H) ∨ (J.go i H∧∀ x H' ρ,ρ.length=k→J.yld i H x H'→g x (ρ ++ σ) H' fun σ2 H2=>(∃ ρ2:St,ρ2.length=k∧σ2=ρ2 ++ σ)∧tt σ2 H2 fun b H3=>if b=true then te σ2 H3 fun y H4=>∃ ys,H4 D=some (.lst ys)∧ys.length < sizeLine∧∃ m',m' < m∧W (i + 1) m' (upd H4 D (.lst (ys ++ [y])))
    else ∃ m',m' < m∧W (i + 1) m' H3)
def tCompN (wi:TI) (k:Nat) (g:TG) (tt:TT) (te:TE):TE:=fun σ H Q=>wi σ H fun J H1=>CompGoN J H1 k σ g tt te Q
section
variable {X:Cx} {k:Nat} {N':List Str} {tg:Expr} {pos:Pos} {elt iter:Expr} {ifs:List Expr} {scope:Scope} {wi:TI} {g:TG} {tt:TT} {te:TE}
theorem compN_core {pins:List (Addr × Obj)} {σ:St} {H2:Hp} {s2:Shared} {it:Addr} {fp:List Addr} {tn:Nat→Heap→Prop} {J:It} {Q:VK} {cl:List (Str × Addr)} {E:Value→Shared→Prop} {RR:Value→Addr→Result→Shared→Prop}
    (S:CompScN X k N' scope) (hcal:X.calm=true) (hclos:(∀ y c,cl.lookup y=some c→X.env.cells.lookup y=some c)∧∀ y ∈ scope.names,y.2=.free→∃ c,cl.lookup y.1=some c)
    (hg:∀ cl C fp s H,PG (X.compN N' scope cl C fp s H) tg g) (ht:∀ cl C fp s H,PTs (X.compN N' scope cl C fp s H) ifs tt) (he:∀ cl C fp s H,PE (X.compN N' scope cl C fp s H) elt te)
    (I2:Inv X pins σ H2 s2) (T:Turn X.prog X.w X.K tg J fp it tn) (st2:tn 0 s2.heap) (f2:∀ b ∈ fp,FpOk X pins H2 b)
    (q:CompGoN J H2 k σ g tt te Q)
    (hRR:∀ D C s' H' m',Inv X pins σ H' s'→s'.heap.Ns C m'→FpOk X pins H' C→Q (.ref D) H'→RR (.ref D) C (.ok .next) s') :
    wpAny (model X.prog X.w) X.A (newList []) (fun acc s3=>wpAny (model X.prog X.w) X.A (newFunctionEnv scope X.env.globals cl [] X.env.qual none .none (some X.env)) (fun cenv s4 =>
      codeAny (model X.prog X.w) X.A (.compStart (.ListComp elt [⟨tg,iter,ifs,0⟩] scope pos) 0 (.ref it) acc { cenv with scope:=relabel scope X.env }) (RR acc cenv.locals) s4) E s3) E s2:=by
  obtain ⟨hsub,hall⟩:=hclos
  refine wpAny_newObj_type (wpAny_newFunctionEnv S.cell (by intro y hy; simp at hy) (fun h1 hns hsb=>?_) S.kind)
  have I3:Inv X pins σ (upd H2 s2.heap.objs.size (.lst [])) { s2 with heap:=s2.heap.push { cls:=.type "list",data:=.seq ([]:List Value).toArray } }:=I2.lnew (t':=s2.toks) .nil (by simp)
  have hD:H2 s2.heap.objs.size=none:=I2.fresh
  obtain ⟨W,⟨m0,w0⟩,turn⟩:=q _ hD
  generalize hs3:({ s2 with heap:=s2.heap.push { cls:=.type "list",data:=.seq ([]:List Value).toArray } }:Shared)=s3 at I3
  have hs3':({ s2 with heap:=s2.heap.push { cls:=.type "list",dict:=none,data:=.seq ([]:List Value).toArray } }:Shared)=s3:=hs3
  dsimp only at hns hsb ⊢
  generalize hDD:s2.heap.objs.size=D at *
  have eh:s2.heap.push { cls:=.type "list",dict:=none,data:=.seq ([]:List Value).toArray }=s3.heap:=by rw [← hs3]
  rw [eh] at hns hsb
  have keep:∀ b o,s3.heap.get? b=some o→h1.get? b=some o:=fun b o e=>hsb.extBut b o (Nat.ne_of_lt (Heap.lt_size e)) (Heap.get?_push_of_some _ e)
  have objs:∀ b ∈ fp,∃ o,s3.heap.get? b=some o:=fun b hb=>by
    obtain ⟨o,e,_⟩:=T.obj _ _ st2 b hb
    rw [← eh]
    exact ⟨o,Heap.get?_push_of_some _ e⟩
  have f3:∀ b ∈ fp,FpOk X pins (upd H2 D (.lst [])) b:=fun b hb=>by
    obtain ⟨o,e,_⟩:=T.obj _ _ st2 b hb
    have ne:b ≠ D:=by rw [← hDD]; exact Nat.ne_of_lt (Heap.lt_size e)
    exact ⟨by rw [upd_ne ne]; exact (f2 b hb).1,(f2 b hb).2⟩
  have I4:Inv (X.compN N' scope cl s3.heap.objs.size fp s3 (upd H2 D (.lst []))) (X.pn ++ pins) (List.replicate k none ++ σ) (upd H2 D (.lst [])) { s3 with heap:=h1,toks:=s3.toks + ([]:List (Str × Value)).length }:=compN_inv S I3 hns keep f3 objs hsub hall
  have st4:tn 0 h1:=T.keep _ _ _ st2 fun b hb o e=>keep b o (by rw [← eh]; exact Heap.get?_push_of_some _ e)
  -- what stays true of the iterator's objects
  have stat:∀ {H':Hp},(∀ b ∈ fp,H' b=none)→∀ b ∈ fp,FpOk (X.compN N' scope cl s3.heap.objs.size fp s3 (upd H2 D (.lst []))) (X.pn ++ pins) H' b:=fun hn b hb=>by
    refine ⟨hn b hb,(I4.ok.exf b hb).1,I4.ok.exfs b hb,.inl hb,(I4.ok.exf b hb).2,fun p hp=>(f3 b hb).2.2.2.2.2 p (by simpa using hp)⟩
  have loop:codeAny (model X.prog X.w) X.A (.compLoop (.ListComp elt [⟨tg,iter,ifs,0⟩] scope pos) 0 (.ref it) (.ref D) (compEnvC scope cl s3.heap.objs.size X.env)) (RR (.ref D) s3.heap.objs.size) { s3 with heap:=h1,toks:=s3.toks + ([]:List (Str × Value)).length }:=by
    refine comp_loop_go (fun n s'=>∃ i ρ H',Inv (X.compN N' scope cl s3.heap.objs.size fp s3 (upd H2 D (.lst []))) (X.pn ++ pins) (ρ ++ σ) H' s'∧ρ.length=k∧tn i s'.heap∧(∀ b ∈ fp,H' b=none)∧W i n H') ?_ m0
      ⟨0,_,_,I4,by simp,st4,fun b hb=>(f3 b hb).1,w0⟩
    rintro n s5 ⟨i,ρ,H5,I5,lρ,st5,fr5,w5⟩
    rcases turn i n H5 w5 with ⟨stop,qn⟩ | ⟨go,step⟩
    · refine thn (T.done (X.compN N' scope cl s3.heap.objs.size fp s3 (upd H2 D (.lst []))) rfl rfl rfl hcal i _ s5 _ H5 _ I5 (stat fr5) st5 stop) fun r s6 ⟨hr,I6⟩=>?_
      subst hr
      obtain ⟨m6,hn6,_⟩:=I6.loc
      have I7:Inv X pins σ H5 s6:=I3.call' (ch:=fp) I6.os I6.base I6.hok I6.bare fun b hb=>⟨(f3 b hb).2.2.2.1,(f3 b hb).2.1,(f3 b hb).2.2.2.2.1,(f3 b hb).2.2.2.2.2⟩
      exact hRR D s3.heap.objs.size s6 H5 m6 I7 hn6 (I3.fpOk (Nat.le_refl _) I6.free) qn
    · refine thn (T.item (X.compN N' scope cl s3.heap.objs.size fp s3 (upd H2 D (.lst []))) rfl rfl rfl hcal i _ s5 _ H5 _ I5 (stat fr5) st5 go) fun r s6 ⟨u,hr,h6⟩=>?_
      subst hr
      refine thn h6 fun _ s7 ⟨y,H7,I7,r7,y7,st7,fr7⟩=>?_
      have I7':=I7.pinned (stat fr7) (T.obj _ _ st7)
      refine thn (hg _ _ _ _ _ _ s7 (ρ ++ σ) H7 y u _ I7' r7 (step y H7 ρ lρ y7)) fun _ s8 ⟨σ8,H8,I8,⟨ρ2,l2,e8⟩,q8⟩=>?_
      subst e8
      refine thn (ht _ _ _ _ _ _ s8 _ H8 _ I8 q8) fun ok s9 ⟨H9,I9,q9⟩=>?_
      have back:∀ {H':Hp} {s':Shared} {m':Nat},Inv (X.compN N' scope cl s3.heap.objs.size fp s3 (upd H2 D (.lst []))) (X.pn ++ pins ++ pinsAt fp s7.heap) (ρ2 ++ σ) H' s'→m' < n→W (i + 1) m' H' →
          ∃ m,m < n∧∃ i ρ H',Inv (X.compN N' scope cl s3.heap.objs.size fp s3 (upd H2 D (.lst []))) (X.pn ++ pins) (ρ ++ σ) H' s'∧ρ.length=k∧tn i s'.heap∧(∀ b ∈ fp,H' b=none)∧W i m H':=fun {H' s' m'} I' hm w'=>by
        have pin:∀ b o,b ∈ fp→s7.heap.get? b=some o→s'.heap.get? b=some o∧H' b=none:=fun b o hb e=>by
          have z:=I'.pin (b,o) (List.mem_append_right _ (List.mem_append_right _ (mem_pinsAt hb e)))
          exact ⟨z.1,z.2.1⟩
        refine ⟨m',hm,i + 1,ρ2,H',I'.unpinned,l2,T.keep _ _ _ st7 fun b hb o e=>(pin b o hb e).1,fun b hb=>?_,w'⟩
        obtain ⟨o',e,_⟩:=T.obj _ _ st7 b hb
        exact (pin b o' hb e).2
      cases ok with
      | false =>
        rw [if_neg Bool.false_ne_true] at q9 ⊢
        obtain ⟨m',hm,w'⟩:=q9
        exact back I9 hm w'
      | true =>
        rw [if_pos rfl] at q9 ⊢
        refine thn (he _ _ _ _ _ _ s9 _ H9 _ I9 q9) fun v s10 ⟨z,H10,I10,r10,q10⟩=>?_
        obtain ⟨ys,e10,l10,m',hm,w'⟩:=q10
        refine thn (mt_append _ s10 _ H10 (.ref D) [z] (.ref D) [v] (fun _ H'=>H'=upd H10 D (.lst (ys ++ [z]))) I10 rfl (.cons r10 .nil) ⟨D,ys,z,rfl,rfl,e10,l10,rfl⟩) fun _ s11 ⟨_,H11,I11,_,e11⟩=>?_
        subst e11
        exact back I11 hm w'
  exact codeAny_compStart_list loop (T.self _ 0 _ _ _ st4 loop)
theorem pe_compN (S:CompScN X k N' scope) (hcal:X.calm=true) (hi:PI X tg iter wi) (hg:∀ cl C fp s H,PG (X.compN N' scope cl C fp s H) tg g) (ht:∀ cl C fp s H,PTs (X.compN N' scope cl C fp s H) ifs tt) (he:∀ cl C fp s H,PE (X.compN N' scope cl C fp s H) elt te)
    (hs:∀ x,foldedSetIterable iter X.env x=pure x:=by intro _; rfl):PE X (.ListComp elt [⟨tg,iter,ifs,0⟩] scope pos) (tCompN wi k g tt te):=by
  intro pins s σ H Q I h
  obtain ⟨cl,hcl,hc⟩:=clos_ok (env:=X.env) (scope:=scope) fun y hy hf=>I.ok.has y.1 (S.free y hy hf)
  rw [eval_ListComp]
  refine wpAny_comprehension_free (use:=none) rfl hs hcl S.kind S.names (thn (hi pins s σ H _ I h) fun xv s1 h1=>thn h1 fun itv s2 h2=>?_)
  obtain ⟨it,fp,tn,J,H2,e,I2,T,st2,f2,q⟩:=h2
  subst e
  refine compN_core (RR:=fun acc C=>compPost (model X.prog X.w) X.A X.xe none (EP X pins σ Q) acc C) S hcal hc hg ht he I2 T st2 f2 q ?_
  intro D C s' H' m' I' hn F' hq
  exact ⟨m',hn,fun h' sb=>⟨.ref D,H',I'.turned (t':=s'.toks) (fun b o hb e=>(sb.2 b hb).trans e) F'.1 F'.2.1 F'.2.2.2.1 F'.2.2.2.2.1 F'.2.2.2.2.2,rfl,hq⟩⟩
theorem ps_setCompN {i:Nat} {y:Str} {py spos:Pos} (S:CompScN X k N' scope) (hcal:X.calm=true) (hN:X.N.Nodup) (hiN:X.N[i]?=some y) (hy:Loc X.env.scope y) (hi:PI X tg iter wi) (hg:∀ cl C fp s H,PG (X.compN N' scope cl C fp s H) tg g) (ht:∀ cl C fp s H,PTs (X.compN N' scope cl C fp s H) ifs tt)
    (he:∀ cl C fp s H,PE (X.compN N' scope cl C fp s H) elt te) (hsw:swapsWith (.ListComp elt [⟨tg,iter,ifs,0⟩] scope pos) (some (.Name y py)) spos.line X.env=pure true)
    (hs:∀ x,foldedSetIterable iter X.env x=pure x:=by intro _; rfl) (hf:X.fn y=true ∨ X.env.scope.names.lookup y=some .local:=by first | exact .inl rfl | exact .inr rfl | assumption) :
    PS X (.Assign [.Name y py] (.ListComp elt [⟨tg,iter,ifs,0⟩] scope pos) spos) (tAsg (tCompN wi k g tt te) (gName i)):=by
  intro pins s σ H D0 I h
  obtain ⟨cl,hcl,hc⟩:=clos_ok (env:=X.env) (scope:=scope) fun y hy hf=>I.ok.has y.1 (S.free y hy hf)
  rw [exec_Assign_Name_used _ _ _ _ hsw]
  refine wpAny_bind (wpAny_standAt (wpAny_bind ?_))
  show wpAny _ _ (do let _ ← comprehension (.ListComp elt [⟨tg,iter,ifs,0⟩] scope pos) scope X.env _ (newList []) false (eval iter X.env) (some (assign (.Name y py) X.env))) _ _ s
  refine wpAny_bind (thn (wpAny_comprehension_free (use:=some (assign (.Name y py) X.env)) (Q:=fun _ s'=>SP X pins D0 .next s') rfl hs hcl S.kind S.names (thn (hi pins s σ H _ I h) fun xv s1 h1=>thn h1 fun itv s2 h2=>?_)) fun _ s' hq=>wpAny_pure (wpAny_pure hq))
  obtain ⟨it,fp,tn,J,H2,e,I2,T,st2,f2,q⟩:=h2
  subst e
  refine compN_core (Q:=fun v H=>D0.nx (σ.set i (some v)) H) (RR:=fun acc C=>compPost (model X.prog X.w) X.A X.xe (some (assign (.Name y py) X.env)) (fun _ s'=>SP X pins D0 .next s') acc C) S hcal hc hg ht he I2 T st2 f2 q ?_
  intro D C s' H' m' I' hn F' hq
  show wpAny _ _ (assign (.Name y py) X.env (.ref D)) _ _ s'
  refine wpAny_assign_Name (store_ok2 (v:=.ref D) I' hN hiN hy rfl (fun s'' I'' ch=>?_) hf)
  obtain ⟨a,sb,ha⟩:=ch
  have ne:C ≠ a:=by
    rcases ha with z | z
    · rw [z]; exact F'.2.1
    · exact Ne.symm (F'.2.2.2.2.1 y a z)
  refine ⟨m',hn.sameBut sb ne,fun h' sb'=>⟨_,H',I''.turned (t':=s''.toks) (fun b o hb e=>(sb'.2 b hb).trans e) F'.1 F'.2.1 F'.2.2.2.1 F'.2.2.2.2.1 F'.2.2.2.2.2,hq⟩⟩
end
def compChkN (fs:Scope) (N:List Str) (k:Nat) (N':List Str) (scope:Scope):Bool :=
  decide (scope.kind=.function) && scope.names.all (fun y=>decide (y.2 ≠ .cell)) && scope.names.all (fun y=>decide (y.2=.local→scope.names.lookup y.1=some .local)) &&
  scope.names.all (fun y=>decide (y.2=.free→fs.names.lookup y.1=some .cell ∨ fs.names.lookup y.1=some .free)) && decide (N'.length=k + N.length) &&
  (List.range N.length).all (fun i=>match N'[k + i]?,N[i]? with
    | some y,some z=>(match scope.names.lookup y with
      | none=>true
      | some .free=>decide (y=z) && decide (fs.names.lookup y=some .cell ∨ fs.names.lookup y=some .free)
      | some _=>false)
    | _,_=>false)
theorem compScN_mk {X:Cx} {k:Nat} {N':List Str} {scope fs:Scope} {N:List Str} (hs:X.env.scope=fs) (hN:X.N=N) (c:compChkN fs N k N' scope=true):CompScN X k N' scope:=by
  subst hs hN
  unfold compChkN at c
  simp only [Bool.and_eq_true,List.all_eq_true,decide_eq_true_eq] at c
  obtain ⟨⟨⟨⟨⟨c1,c2⟩,c3⟩,c4⟩,c5⟩,c6⟩:=c
  refine ⟨c1,c2,c3,c4,c5,fun i y hy=>?_⟩
  have hi:k + i < N'.length:=(List.getElem?_eq_some_iff.mp hy).1
  have hi2:i < X.N.length:=by omega
  have q:=c6 i (List.mem_range.mpr hi2)
  rw [hy,List.getElem?_eq_getElem hi2] at q
  dsimp only at q
  unfold capOk
  cases e:scope.names.lookup y with
  | none=>exact .inr rfl
  | some kd =>
    rw [e] at q
    cases kd with
    | free =>
      have q2:y=X.N[i]∧(X.env.scope.names.lookup y=some .cell ∨ X.env.scope.names.lookup y=some .free):=by simpa using q
      refine .inl ⟨by rw [List.getElem?_eq_getElem hi2,q2.1],?_⟩
      show (X.env.kindOf y == some .cell || X.env.kindOf y == some .free)=true
      have e2:X.env.kindOf y=X.env.scope.names.lookup y:=rfl
      rw [e2]
      rcases q2.2 with z | z <;> rw [z] <;> rfl
    | _=>simp at q
end L2
namespace L2
open PySem PySem.Spec PyProof.Rows
section
variable {X:Cx} {pins:List (Addr × Obj)} {σ:St} {H:Hp} {s:Shared} {h':Heap}
theorem Inv.turnedL {t':Nat} {ch:List Addr} (I:Inv X pins σ H s) (k:∀ b u,b ∉ ch→s.heap.get? b=some u→h'.get? b=some u) (hch:∀ b ∈ ch,FpOk X pins H b):Inv X pins σ H { s with heap:=h',toks:=t' }:=by
  have nch:∀ b u,H b=some u→b ∉ ch:=fun b u e z=>by rw [(hch b z).1] at e; cases e
  refine I.step (g':=s.gens) (d':=s.drawn) (ch:=ch) (fun b hb=>⟨(hch b hb).2.2.2.1,(hch b hb).2.1,(hch b hb).2.2.2.2.1,(hch b hb).2.2.2.2.2⟩) (fun b o _ _ hc e _=>k b o hc e) (fun b o _ _ hc e _=>⟨o.slots,k b o hc e⟩)
    (fun _ _ _ _ n=>n) (fun b o hc e=>⟨o,k b o hc e⟩) (fun _ _ e=>e) (fun _ _ _ e=>e) (fun b ps e=>⟨#[],by rw [e]; simp⟩) (fun m hm=>?_) (fun b u e=>?_) I.bare
  · obtain ⟨ob,es,ep,ho,r⟩:=hm
    exact ⟨ob,es,ep,k _ ob (fun z=>(hch _ z).2.1 rfl) ho,r⟩
  · refine (I.hok b u e).stay (fun c v hc q=>k c v ?_ q) (fun c q=>q) fun c xs q=>q
    rcases hc with z | z
    · rw [z]
      exact nch b u e
    · exact nch c _ z
end
def Itz (K:PySem.W.Frag) (a b:Addr):It :=
  ⟨fun i H=>∃ xs ys x y,SqL K H a xs∧SqL K H b ys∧xs[i]?=some x∧ys[i]?=some y,fun i H x H'=>∃ p u v,x=.ref p∧H p=none∧H'=upd H p (.tup [u,v])∧(∀ xs,SqL K H a xs→xs[i]?=some u)∧∀ ys,SqL K H b ys→ys[i]?=some v,
    fun i H=>∃ xs ys,SqL K H a xs∧SqL K H b ys∧(xs.length ≤ i ∨ ys.length ≤ i)⟩
theorem turn_zip {P:Program} {w:World} {K:PySem.W.Frag} {es:List Expr} {kk:Nat} {pt:Pos} {z TI TO i1 i2 a b:Addr} (D:ZipApart z TI TO i1 i2 a b) :
    Turn P w K (.Tuple es kk pt) (Itz K a b) [z,TI,TO,i1,i2] z (fun i h=>IsZip h z TI TO .none∧IsPair h TI (.ref i1) (.ref i2)∧(∃ u v,IsPair h TO u v)∧h.IsListIter i1 a i∧h.IsListIter i2 b i) where
  mem:=by simp
  obj:=fun i h st c hc=>by
    obtain ⟨hz,hTI,⟨u,v,hTO⟩,⟨o1,h1,c1,d1⟩,⟨o2,h2,c2,d2⟩⟩:=st
    simp only [List.mem_cons,List.not_mem_nil,or_false] at hc
    rcases hc with q | q | q | q | q <;> subst q
    · exact ⟨_,hz,fun v q=>by cases q⟩
    · exact ⟨_,hTI,fun v q=>by cases q⟩
    · exact ⟨_,hTO,fun v q=>by cases q⟩
    · exact ⟨o1,h1,fun v q=>by rw [d1] at q; cases q⟩
    · exact ⟨o2,h2,fun v q=>by rw [d2] at q; cases q⟩
  keep:=fun i h h' st kk=>by
    obtain ⟨hz,hTI,⟨u,v,hTO⟩,⟨o1,h1,c1⟩,⟨o2,h2,c2⟩⟩:=st
    exact ⟨kk z (by simp) _ hz,kk TI (by simp) _ hTI,⟨u,v,kk TO (by simp) _ hTO⟩,⟨o1,kk i1 (by simp) _ h1,c1⟩,⟨o2,kk i2 (by simp) _ h2,c2⟩⟩
  item:=by
    intro X hP hw hK hc i pins s σ H E I hf st hg
    subst hP hw hK
    obtain ⟨xs,ys,x,y,hqa,hqb,hx,hy⟩:=hg
    obtain ⟨its,rv,p,hz1⟩:=I.list hqa
    obtain ⟨u,hu,ru⟩:=rv.get hx
    obtain ⟨its2,rv2,p2,hz2⟩:=I.list hqb
    obtain ⟨v,hv,rv'⟩:=rv2.get hy
    obtain ⟨hz,hTI,⟨u0,v0,hTO⟩,hi1,hi2⟩:=st
    refine wpAny_pyNext_zip_item D hz hTI hTO hi1 hi2 p.isList p2.isList (x:=u) (y:=v) (by simpa using hu) (by simpa using hv) fun h' a1 a2 a3 a4 a5 a6 kp=>⟨_,rfl,?_⟩
    refine wpAny_letOwnedTupleGo_zip a1 fun g2 hz2' sb=>?_
    have lz:z < s.heap.objs.size:=Heap.lt_size hz
    have lTI:TI < s.heap.objs.size:=Heap.lt_size hTI
    have lTO:TO < s.heap.objs.size:=Heap.lt_size hTO
    have l1:i1 < s.heap.objs.size:=by obtain ⟨o,ho,_⟩:=hi1; exact Heap.lt_size ho
    have l2:i2 < s.heap.objs.size:=by obtain ⟨o,ho,_⟩:=hi2; exact Heap.lt_size ho
    have nT:H s.heap.objs.size=none:=I.fresh
    have tt2:g2.get? s.heap.objs.size=some { cls:=.type "tuple",data:=.seq #[u,v] }:=(sb.2 _ (Nat.ne_of_gt lz)).trans a5
    have I1:Inv X pins σ (upd H s.heap.objs.size (.tup [x,y])) { s with heap:=g2,toks:=s.toks }:=by
      refine I.turnedNew (t':=s.toks) (ch:=[z,TI,TO,i1,i2]) (fun c o hb q=>?_) hf (Nat.le_refl _) ⟨?_,[u,v],.cons ru (.cons rv' .nil),⟨_,tt2,rfl,0,rfl⟩⟩
      · simp only [List.mem_cons,List.not_mem_nil,or_false,not_or] at hb
        exact (sb.2 c hb.1).trans (kp c o hb.1 hb.2.2.1 hb.2.2.2.1 hb.2.2.2.2 q)
      · show 2 ≤ sizeLine
        decide
    refine ⟨.ref s.heap.objs.size,_,I1,rfl,⟨_,x,y,rfl,nT,rfl,fun zs hy'=>?_,fun zs hy'=>?_⟩,⟨hz2',?_,⟨u,v,?_⟩,?_,?_⟩,fun c hb=>?_⟩
    · rw [I.list_inj hy' hqa]
      exact hx
    · rw [I.list_inj hy' hqb]
      exact hy
    · exact (sb.2 TI D.TIz).trans (kp TI _ D.TIz D.TITO D.TIi1 D.TIi2 hTI)
    · exact (sb.2 TO D.TOz).trans a2
    · obtain ⟨o,ho,r⟩:=a3
      exact ⟨o,(sb.2 i1 D.i1z).trans ho,r⟩
    · obtain ⟨o,ho,r⟩:=a4
      exact ⟨o,(sb.2 i2 D.i2z).trans ho,r⟩
    · have hb':=(hf c hb).1
      simp only [List.mem_cons,List.not_mem_nil,or_false] at hb
      rcases hb with q | q | q | q | q <;> subst q
      · rw [upd_ne (Nat.ne_of_lt lz)]; exact hb'
      · rw [upd_ne (Nat.ne_of_lt lTI)]; exact hb'
      · rw [upd_ne (Nat.ne_of_lt lTO)]; exact hb'
      · rw [upd_ne (Nat.ne_of_lt l1)]; exact hb'
      · rw [upd_ne (Nat.ne_of_lt l2)]; exact hb'
  done:=by
    intro X hP hw hK hc i pins s σ H E I hf st hg
    subst hP hw hK
    obtain ⟨xs,ys,hqa,hqb,hend⟩:=hg
    obtain ⟨its,rv,p,hz1⟩:=I.list hqa
    obtain ⟨its2,rv2,p2,hz2⟩:=I.list hqb
    obtain ⟨hz,hTI,⟨u0,v0,hTO⟩,hi1,hi2⟩:=st
    have l1:=rv.length
    have l2:=rv2.length
    refine wpAny_pyNext_zip_end (I.ok.hd hc) D hz hTI hTO hi1 hi2 p.isList p2.isList ?_ fun h' kp=>⟨rfl,I.turnedL (t':=s.toks) (ch:=[z,TI,TO,i1,i2]) (fun c o hb q=>?_) hf⟩
    · rcases hend with q | q
      · exact .inl (by simp; omega)
      · exact .inr (by simp; omega)
    · simp only [List.mem_cons,List.not_mem_nil,or_false,not_or] at hb
      exact kp c o hb.1 hb.2.2.1 hb.2.2.2.1 hb.2.2.2.2 q
  self:=fun _ _ _ _ _ st h=>wpAny_pyIter_zip st.1 h
section
variable {X:Cx} {es:List Expr} {kk:Nat} {pt:Pos}
def iZip (K:PySem.W.Frag) (ta:TA):TI:=fun σ H R=>ta σ H fun vs H1=>∃ a b,vs=[.ref a,.ref b]∧(∃ xs,SqL K H1 a xs)∧(∃ ys,SqL K H1 b ys)∧R (Itz K a b) H1
theorem pi_zip {l m:Expr} {ta:TA} {p pos:Pos} (hg:Gl X "zip") (hm:X.mg "zip"=none) (ha:PA X [l,m] ta) (hs:starEach [l,m] X.env=[(false,eval l X.env),(false,eval m X.env)]:=by rfl) (hs2:starEach [m] X.env=[(false,eval m X.env)]:=by rfl) :
    PI X (.Tuple es kk pt) (.Call (.Name "zip" p) [l,m] [] pos) (iZip X.K ta):=by
  intro pins s σ H R I h
  refine Call_ (ld_blt I hg hm PyProof.Rows.boot_zip (PyProof.Rows.callWith_type1 (thn (ha pos pins s σ H _ I h) fun us s1 ⟨vs,H1,I1,r1,q1⟩=>?_) (by rw [hs,hs2]) (by rw [hs2]; rfl)))
  obtain ⟨a,b,e1,⟨xs,hqa⟩,⟨ys,hqb⟩,q⟩:=q1
  subst e1
  obtain ⟨u,v,e1,r3,r4⟩:=vals2 r1
  subst e1
  obtain rfl:u=Value.ref a:=r3
  obtain rfl:v=Value.ref b:=r4
  obtain ⟨its,rv,pl,hz⟩:=I1.list hqa
  obtain ⟨its2,rv2,pl2,hz2⟩:=I1.list hqb
  have la:a < s1.heap.objs.size:=by obtain ⟨o,ho,_⟩:=pl.isList; exact Heap.lt_size ho
  have lb:b < s1.heap.objs.size:=by obtain ⟨o,ho,_⟩:=pl2.isList; exact Heap.lt_size ho
  refine call_zip_2 pl.isList pl2.isList fun h' hz hTI hTO hi1 hi2 hsz kp=>?_
  have I3:Inv X pins σ H1 { s1 with heap:=h' }:=I1.kept (t':=s1.toks) kp
  refine wpAny_pyIter_zip hz ⟨s1.heap.objs.size + 4,[s1.heap.objs.size + 4,s1.heap.objs.size + 2,s1.heap.objs.size + 3,s1.heap.objs.size,s1.heap.objs.size + 1],_,_,H1,rfl,I3,turn_zip (zipApart_new la lb),⟨hz,hTI,⟨_,_,hTO⟩,hi1,hi2⟩,fun c hb=>?_,q⟩
  have ge:s1.heap.objs.size ≤ c:=by
    simp only [List.mem_cons,List.not_mem_nil,or_false] at hb
    rcases hb with q | q | q | q | q <;> rw [q]
    · exact Nat.le_add_right _ _
    · exact Nat.le_add_right _ _
    · exact Nat.le_add_right _ _
    · exact Nat.le_refl _
    · exact Nat.le_add_right _ _
  exact I1.fpOk ge (I1.hok.fresh ge)
end
end L2
namespace L2
open PySem PySem.Spec PyProof.Rows
abbrev Cx.i1 (X:Cx):Cx:={ X with A:=X.A.in1,xe:=fun _ _=>False }
theorem Inv.i1 {X:Cx} {pins:List (Addr × Obj)} {σ:St} {H:Hp} {s:Shared} (I:Inv X pins σ H s):Inv X.i1 pins σ H s :=
  ⟨⟨I.ok.mod,I.ok.kind,I.ok.glob,I.ok.blt,I.ok.above,I.ok.inj,I.ok.has,I.ok.cab,I.ok.hd,I.ok.frames,I.ok.stk,I.ok.exf,I.ok.bs,I.ok.bsz,I.ok.noex,I.ok.exfs,I.ok.funs,I.ok.frf⟩,I.os,I.bare,I.base,I.loc,I.cell,I.free,I.freeC,I.pin,I.hok,I.len⟩
theorem Inv.o1 {X:Cx} {pins:List (Addr × Obj)} {σ:St} {H:Hp} {s:Shared} (I:Inv X.i1 pins σ H s) (hd:X.calm=true→X.A.handled=none) (hf:X.A.frames=some X.stack):Inv X pins σ H s :=
  ⟨⟨I.ok.mod,I.ok.kind,I.ok.glob,I.ok.blt,I.ok.above,I.ok.inj,I.ok.has,I.ok.cab,hd,hf,I.ok.stk,I.ok.exf,I.ok.bs,I.ok.bsz,I.ok.noex,I.ok.exfs,I.ok.funs,I.ok.frf⟩,I.os,I.bare,I.base,I.loc,I.cell,I.free,I.freeC,I.pin,I.hok,I.len⟩
section
variable {M:Model} {A:Around} {E:Value→Shared→Prop} {s:Shared} {env:Env}
theorem callWith_bK {pos:Pos} {T:String} {e:Expr} {rest:List Expr} {kws:List Keyword} {Q:Value→Shared→Prop}
    (h:wpAny M A (spliced (backTo pos (starEach (e :: rest) env))) (fun vs s1=>wpAny M A (evalAll ((backToKw pos (keywordEach kws env)).map (·.2)))
      (fun kvs s2=>wpAny M A (call (.builtin T) vs (((backToKw pos (keywordEach kws env)).filterMap (·.1)).zip kvs)) Q E s2) E s1) E s)
    (he:backTo pos (starEach (e :: rest) env)=(false,eval e env) :: backTo pos (starEach rest env):=by rfl) (hpl:(backTo pos (starEach (e :: rest) env)).any (·.1)=false:=by rfl)
    (hall:(backToKw pos (keywordEach kws env)).all (·.1.isSome)=true:=by rfl) (hkw:(backToKw pos (keywordEach kws env)).any (·.1.isNone)=false:=by rfl) :
    wpAny M A (callWith pos (.builtin T) [] (backTo pos (starEach (e :: rest) env)) (backToKw pos (keywordEach kws env))) Q E s:=by
  have h2:wpAny M A (evalArgs (.builtin T) true (backTo pos (starEach (e :: rest) env)) (backToKw pos (keywordEach kws env))) (fun a s1=>wpAny M A (call (.builtin T) ([] ++ a.pos) a.kw) Q E s1) E s:=by
    rw [he] at h ⊢
    exact evalArgs_kwB hall h
  unfold callWith
  refine wpAny_bind (wpAny_holding (wpAny_mono h2 (fun a s1 h1=>wpAny_bind (wpAny_standAt ?_)) fun _ _ z=>z))
  simp only [hpl,hkw,Bool.or_false]
  exact wpAny_bind (wpAny_pure (wpAny_bind (wpAny_mono h1 (fun r s2 hr=>wpAny_bind (wpAny_holding (wpAny_point (wpAny_pure hr)))) fun _ _ z=>z)))
end
theorem argBest_T {bt:Nat→Nat→Bool} {k:Nat} (h:bt (k + 1) (argBest bt k)=true):argBest bt (k + 1)=k + 1:=by simp only [argBest,h,if_true]
theorem argBest_F {bt:Nat→Nat→Bool} {k:Nat} (h:bt (k + 1) (argBest bt k)=false):argBest bt (k + 1)=argBest bt k:=by simp only [argBest,h,Bool.false_eq_true,if_false]
def KeyOk (sp:Sp) (H:Hp) (as:List Addr) (kf:Nat→Int):Prop:=∀ (i:Nat) (a:Addr) (H':Hp) (Q:VK),as[i]?=some a→Same H H'→(∀ H'',Same H' H''→Q (.int (kf i)) H'')→sp [.ref a] H' Q E0
theorem same_none {H H':Hp} {b:Addr} (s:Same H H') (h:H' b=none):H b=none:=by
  cases e:H b with
  | none=>rfl
  | some u=>rw [s b u e] at h; cases h
section
variable {X:Cx} {pins:List (Addr × Obj)} {σ:St}
theorem maxK_loop {k:Nat} {f:Addr} {fd:FuncData} {p0:Str} {sp:Sp} {H:Hp} {l it Z:Addr} {as:List Addr} {kf:Nat→Int} {R:Result→Shared→Prop}
    (G:FnOk X.prog X.w X.K X.mg X.base CX0 k f fd [p0] sp) (hr:Room (k + 1) X.A) (hb:Binds X.K fd [p0] []) (hc:X.calm=true) (hS:SqL X.K H l (as.map V.ref)) (hk:KeyOk sp H as kf) (hne:it ≠ Z) :
    ∀ (m j:Nat) (s:Shared) (H1:Hp) (vb vk:Value) (c:Nat),as.length - (j + 1)=m→j + 1 ≤ as.length→Inv X pins σ H1 s→Same H H1→(∀ b ∈ [it,Z],FpOk X pins H1 b)→s.heap.IsListIter it l (j + 1) →
      s.heap.get? Z=some { cls:=.type "list",dict:=none,data:=.seq #[vb,vk] c,slots:=#[] }→(∃ a,as[argBest (fun i j=>decide (kf i > kf j)) j]?=some a∧vb=.ref a)→(∃ t,vk=.int (kf (argBest (fun i j=>decide (kf i > kf j)) j)) t) →
      (∀ a s' H',Inv X pins σ H' s'→Same H H'→as[argBest (fun i j=>decide (kf i > kf j)) (as.length - 1)]?=some a→R (.ok (.ret (.ref a))) s')→codeAny (model X.prog X.w) X.A (.builtin "max.loop" ⟨[.ref it,.ref f,.ref Z],[("default",.none)]⟩) R s:=by
  have nm:(toString "max" ++ toString ".loop":String)="max.loop":=by decide
  have T:=turn_list (P:=X.prog) (w:=X.w) (K:=X.K) (tg:=.Name "" ⟨0,0,0,0⟩) l it
  intro m
  induction m with
  | zero =>
    intro j s H1 vb vk c e1 e2 I s1 fp hit z0 hvb hvk fin
    have en:j + 1=as.length:=by omega
    refine codeAny_builtin PySem.F.entry_max_loop ?_
    rw [Around.under_plainId PySem.F.plain_max_loop _]
    show wpAny _ X.A.in1 (seqItems? (.ref Z) >>= _) _ _ s
    refine wpAny_bind (wpAny_seqItems z0 rfl ?_)
    show wpAny _ X.A.in1 (tryCatch (pyNext (.ref it)) _ >>= _) _ _ s
    obtain ⟨its,rv,pl,hz⟩:=I.list (s1.seq hS)
    have hl:=rv.length
    rw [List.length_map] at hl
    refine wpAny_bind (wpAny_tryCatch (wpAny_pyNext_list_end (show X.A.in1.handled=none from I.ok.hd hc) hit pl.isList (by simp; omega) fun h' eb=>?_))
    have I1:Inv X pins σ H1 { s with heap:=h' }:=I.turnedL (t':=s.toks) (ch:=[it,Z]) (fun b o hb e=>eb b o (fun q=>hb (by simp [q])) e) fp
    have z1:=eb Z _ (Ne.symm hne) z0
    show wpAny _ X.A.in1 (updateSeq Z (fun _=>#[]) >>= _) _ _ _
    refine wpAny_bind (wpAny_updateSeq z1 rfl (wpAny_bind (wpAny_letGo (wpAny_pure ?_))))
    obtain ⟨a,ha,rfl⟩:=hvb
    refine fin a _ H1 (I1.turnedL (t':=s.toks) (ch:=[it,Z]) (fun b o hb e=>(Heap.get?_update_other _ _ (fun q=>hb (by simp [q]))).trans e) fp) s1 ?_
    have e3:as.length - 1=j:=by omega
    rw [e3]
    exact ha
  | succ m ih =>
    intro j s H1 vb vk c e1 e2 I s1 fp hit z0 hvb hvk fin
    have lt:j + 1 < as.length:=by omega
    refine codeAny_builtin PySem.F.entry_max_loop ?_
    rw [Around.under_plainId PySem.F.plain_max_loop _]
    show wpAny _ X.A.in1 (seqItems? (.ref Z) >>= _) _ _ s
    refine wpAny_bind (wpAny_seqItems z0 rfl ?_)
    show wpAny _ X.A.in1 (tryCatch (pyNext (.ref it)) _ >>= _) _ _ s
    obtain ⟨its,rv,pl,hz⟩:=I.list (s1.seq hS)
    have ha:as[j + 1]?=some as[j + 1]:=by simp [lt]
    obtain ⟨u,hu,ru⟩:=rv.get (i:=j + 1) (x:=V.ref as[j + 1]) (by rw [List.getElem?_map,ha]; rfl)
    obtain rfl:u=Value.ref as[j + 1]:=ru
    refine wpAny_bind (wpAny_tryCatch (wpAny_pyNext_list_item hit pl.isList (x:=.ref as[j + 1]) (by simpa using hu) fun h' hit' sb=>?_))
    have I1:Inv X pins σ H1 { s with heap:=h' }:=I.turnedL (t':=s.toks) (ch:=[it,Z]) (fun b o hb e=>(sb.2 b (fun q=>hb (by simp [q]))).trans e) fp
    have z1:=(sb.2 Z (Ne.symm hne)).trans z0
    show wpAny _ X.A.in1 (tryCatch (holding [.ref as[j + 1]] (call (.ref f) [.ref as[j + 1]])) _ >>= _) _ _ _
    obtain ⟨oi,hoi,ci,di⟩:=id hit'
    have ob:∀ b ∈ [it,Z],∃ o,h'.get? b=some o∧∀ v,o.data ≠ .cell v:=fun b hb=>by
      simp only [List.mem_cons,List.not_mem_nil,or_false] at hb
      rcases hb with q | q <;> subst q
      · exact ⟨oi,hoi,fun v q=>by rw [di] at q; cases q⟩
      · exact ⟨_,z1,fun v q=>by cases q⟩
    have Ip:=I1.pinned fp ob
    refine wpAny_bind (wpAny_tryCatch (wpAny_holding (wpAny_mono (run_fn (X:=X.i1) (us:=[.ref as[j + 1]]) (vs:=[.ref as[j + 1]]) (Q:=fun v H2=>v=.int (kf (j + 1))∧Same H1 H2) (E:=E0) G hr.in1 hb .nil pass0 Ip.i1 (.cons rfl .nil) (hk (j + 1) _ H1 _ ha s1 fun H2 s2=>⟨rfl,s2⟩)) (fun v s2 hq=>?_) fun _ _ z=>z.elim)))
    obtain ⟨y,H2,I2',ry,ey,s2'⟩:=hq
    subst ey
    obtain ⟨t,rfl⟩:=ry
    have I2:Inv X (pins ++ pinsAt [it,Z] h') σ H2 s2:=I2'.o1 I.ok.hd I.ok.frames
    have pin:∀ b o,b ∈ [it,Z]→h'.get? b=some o→s2.heap.get? b=some o∧H2 b=none:=fun b o hb e=>by
      have z:=I2.pin (b,o) (List.mem_append_right _ (List.mem_append_right _ (mem_pinsAt hb e)))
      exact ⟨z.1,z.2.1⟩
    have z2:=(pin Z _ (by simp) z1).1
    have hit2:s2.heap.IsListIter it l (j + 1 + 1):=⟨oi,(pin it _ (by simp) hoi).1,ci,di⟩
    have fp2:∀ b ∈ [it,Z],FpOk X pins H2 b:=fun b hb=>by
      obtain ⟨o,e,_⟩:=ob b hb
      exact ⟨(pin b o hb e).2,(fp b hb).2⟩
    have I3:Inv X pins σ H2 s2:=I2.unpinned
    have s3:Same H H2:=Same.trans s1 s2'
    obtain ⟨tb,rfl⟩:=hvk
    show wpAny _ X.A.in1 (tryCatch (holding [.ref as[j + 1],.int (kf (j + 1)) t] (richCompare .Gt (.int (kf (j + 1)) t) (.int (kf (argBest (fun i j=>decide (kf i > kf j)) j)) tb) >>= _)) _ >>= _) _ _ _
    refine wpAny_bind (wpAny_tryCatch (wpAny_holding (wpAny_bind (gt_int ?_))))
    refine wpAny_bind (wpAny_holding (wpAny_truthy_bool (wpAny_bind (wpAny_letGo (wpAny_pure ?_)))))
    cases hbt:decide (kf (j + 1) > kf (argBest (fun i j=>decide (kf i > kf j)) j)) with
    | true =>
      simp only [if_true]
      refine wpAny_bind (wpAny_updateSeq z2 rfl (wpAny_bind (wpAny_letGo ?_)))
      rw [nm]
      have ek:argBest (fun i j=>decide (kf i > kf j)) (j + 1)=j + 1:=argBest_T hbt
      refine wpAny_pure ⟨plainId_quiet PySem.F.plain_max_loop _,ih (j + 1) _ H2 _ _ _ (by omega) lt (I3.turnedL (t':=s2.toks) (ch:=[it,Z]) (fun b o hb e=>(Heap.get?_update_other _ _ (fun q=>hb (by simp [q]))).trans e) fp2) s3 fp2
        ⟨oi,(Heap.get?_update_other _ _ (Ne.symm hne)).trans (pin it _ (by simp) hoi).1,ci,di⟩ (Heap.get?_update_self _ z2 rfl) ⟨_,by rw [ek]; exact ha,rfl⟩ ⟨t,by rw [ek]⟩ fin⟩
    | false =>
      simp only [Bool.false_eq_true,if_false]
      refine wpAny_bind (wpAny_letGo ?_)
      rw [nm]
      have ek:argBest (fun i j=>decide (kf i > kf j)) (j + 1)=argBest (fun i j=>decide (kf i > kf j)) j:=argBest_F hbt
      refine wpAny_pure ⟨plainId_quiet PySem.F.plain_max_loop _,ih (j + 1) _ H2 _ _ _ (by omega) lt I3 s3 fp2 hit2 z2 (by rw [ek]; exact hvb) ⟨tb,by rw [ek]⟩ fin⟩
def rmaxK (K:PySem.W.Frag) (f:Addr) (sp:Sp):List V→List V→Hp→VK→Prop:=fun xs ws H Q=>∃ (l:Addr) (as:List Addr) (kf:Nat→Int),xs=[.ref l]∧ws=[.ref f,.non]∧SqL K H l (as.map V.ref)∧KeyOk sp H as kf ∧
  (as=[]→∀ H',Same H H'→Q .non H')∧∀ a H',as[argBest (fun i j=>decide (kf i > kf j)) (as.length - 1)]?=some a→Same H H'→Q (.ref a) H'
set_option maxHeartbeats 1000000 in
theorem args_maxK (a b:Value):argsOk "max" ⟨[a],[(Str.ofString "key",b),(Str.ofString "default",.none)]⟩:=by unfold argsOk; kernel_rfl
set_option maxHeartbeats 1000000 in
theorem call_maxK {k:Nat} {f:Addr} {fd:FuncData} {p0:Str} {sp:Sp} (G:FnOk X.prog X.w X.K X.mg X.base CX0 k f fd [p0] sp) (hr:Room (k + 1) X.A) (hb:Binds X.K fd [p0] []) (hc:X.calm=true)
    {s:Shared} {H:Hp} {xs ws:List V} {us ks:List Value} {Q:VK} (I:Inv X pins σ H s) (r:Vals xs us) (r2:Vals ws ks) (h:rmaxK X.K f sp xs ws H Q) :
    wpAny (model X.prog X.w) X.A (call (.builtin "max") us ([Str.ofString "key",Str.ofString "default"].zip ks)) (EP X pins σ Q) X.xe s:=by
  obtain ⟨l,as,kf,e1,e2,hS,hk,q0,q1⟩:=h
  subst e1 e2
  obtain ⟨u,rfl,ru⟩:=vals1 r
  obtain rfl:u=Value.ref l:=ru
  obtain ⟨v1,v2,rfl,rf,rn⟩:=vals2 r2
  obtain rfl:v1=Value.ref f:=rf
  obtain rfl:v2=Value.none:=rn
  have nm:(toString "max" ++ toString ".loop":String)="max.loop":=by decide
  refine PyProof.Rows.kmk_tree PySem.F.kind_max PySem.F.plain_max PySem.F.entry_max (args_maxK _ _) ?_
  show wpAny _ X.A.in1 (Builtin.Builtins.bindParams "max" ["key","default"] 0 ⟨[],[(Str.ofString "key",.ref f),(Str.ofString "default",.none)]⟩ >>= _) _ _ s
  refine wpAny_bind (wpAny_of_eq (show Builtin.Builtins.bindParams "max" ["key","default"] 0 ⟨[],[(Str.ofString "key",.ref f),(Str.ofString "default",.none)]⟩=pure [some (.ref f),some .none] from rfl) ?_)
  refine wpAny_bind (wpAny_pure ?_)
  obtain ⟨its,rv,pl,hz⟩:=I.list hS
  have hlen:=rv.length
  rw [List.length_map] at hlen
  have ll:l < s.heap.objs.size:=by obtain ⟨o,ho,_⟩:=pl.isList; exact Heap.lt_size ho
  refine wpAny_bind (wpAny_pyIter_list pl.isList ?_)
  refine wpAny_bind (wpAny_newList ?_ (Nat.zero_le _))
  rw [nm]
  generalize hh1:s.heap.push { cls:=.type "list_iterator",data:=.fields #[.ref l,.int 0 0] }=h1
  have sz1:h1.objs.size=s.heap.objs.size + 1:=by rw [← hh1]; exact Heap.size_push ..
  generalize hh2:h1.push { cls:=.type "list",dict:=none,data:=.seq (([]:List Value).toArray) 0 }=h2
  have k1:∀ b o,s.heap.get? b=some o→h2.get? b=some o:=fun b o e=>by rw [← hh2,← hh1]; exact Heap.get?_push_of_some _ (Heap.get?_push_of_some _ e)
  have gI:h2.get? s.heap.objs.size=some { cls:=.type "list_iterator",data:=.fields #[.ref l,.int 0 0] }:=by rw [← hh2,← hh1]; exact Heap.get?_push_of_some _ (Heap.get?_push_size _ rfl)
  have gZ:h2.get? h1.objs.size=some { cls:=.type "list",dict:=none,data:=.seq #[] 0,slots:=#[] }:=by rw [← hh2]; exact Heap.get?_push_size _ rfl
  have I1:Inv X pins σ H { s with heap:=h2 }:=I.kept (t':=s.toks) k1
  have hne:s.heap.objs.size ≠ h1.objs.size:=by rw [sz1]; exact Nat.ne_of_lt (Nat.lt_succ_self _)
  have fp:∀ b ∈ [s.heap.objs.size,h1.objs.size],FpOk X pins H b:=fun b hb=>by
    have ge:s.heap.objs.size ≤ b:=by
      simp only [List.mem_cons,List.not_mem_nil,or_false] at hb
      rcases hb with q | q <;> rw [q]
      · exact Nat.le_refl _
      · rw [sz1]; exact Nat.le_succ _
    exact I.fpOk ge (I.hok.fresh ge)
  refine wpAny_pure ⟨plainId_quiet PySem.F.plain_max_loop _,?_⟩
  generalize s.heap.objs.size=it at *
  generalize h1.objs.size=Z at *
  have hit:h2.IsListIter it l 0:=⟨_,gI,rfl,rfl⟩
  refine codeAny_builtin PySem.F.entry_max_loop ?_
  rw [Around.under_plainId PySem.F.plain_max_loop _]
  show wpAny _ X.A.in1 (seqItems? (.ref Z) >>= _) _ _ _
  refine wpAny_bind (wpAny_seqItems gZ rfl ?_)
  show wpAny _ X.A.in1 (tryCatch (pyNext (.ref it)) _ >>= _) _ _ _
  have pl1:h2.IsList l its.toArray:=pl.isList.at fun o e=>k1 l o e
  by_cases h0:as=[]
  · subst h0
    have e0:its=[]:=List.length_eq_zero_iff.mp (by simpa using hlen.symm)
    subst e0
    refine wpAny_bind (wpAny_tryCatch (wpAny_pyNext_list_end (show X.A.in1.handled=none from I.ok.hd hc) hit pl1 (by simp) fun h' eb=>?_))
    have I2:Inv X pins σ H { s with heap:=h' }:=Inv.turnedL (s:={ s with heap:=h2 }) (h':=h') (t':=s.toks) (ch:=[it,Z]) I1 (fun b o hb e=>eb b o (fun q=>hb (by simp [q])) e) fp
    refine wpAny_bind (wpAny_rule (wpAny_pure ?_))
    exact ⟨.non,H,I2,rfl,q0 rfl H (Same.refl H)⟩
  · have lt:0 < as.length:=List.length_pos_iff.mpr h0
    have ha:as[0]?=some as[0]:=by simp [lt]
    obtain ⟨u,hu,ru⟩:=rv.get (i:=0) (x:=V.ref as[0]) (by rw [List.getElem?_map,ha]; rfl)
    obtain rfl:u=Value.ref as[0]:=ru
    refine wpAny_bind (wpAny_tryCatch (wpAny_pyNext_list_item hit pl1 (x:=.ref as[0]) (by simpa using hu) fun h' hit' sb=>?_))
    have I2:Inv X pins σ H { s with heap:=h' }:=Inv.turnedL (s:={ s with heap:=h2 }) (h':=h') (t':=s.toks) (ch:=[it,Z]) I1 (fun b o hb e=>(sb.2 b (fun q=>hb (by simp [q]))).trans e) fp
    have z1:=(sb.2 Z (Ne.symm hne)).trans gZ
    show wpAny _ X.A.in1 (tryCatch (holding [.ref as[0]] (call (.ref f) [.ref as[0]])) _ >>= _) _ _ _
    obtain ⟨oi,hoi,ci,di⟩:=id hit'
    have ob:∀ b ∈ [it,Z],∃ o,h'.get? b=some o∧∀ v,o.data ≠ .cell v:=fun b hb=>by
      simp only [List.mem_cons,List.not_mem_nil,or_false] at hb
      rcases hb with q | q <;> subst q
      · exact ⟨oi,hoi,fun v q=>by rw [di] at q; cases q⟩
      · exact ⟨_,z1,fun v q=>by cases q⟩
    have Ip:=I2.pinned fp ob
    refine wpAny_bind (wpAny_tryCatch (wpAny_holding (wpAny_mono (run_fn (X:=X.i1) (us:=[.ref as[0]]) (vs:=[.ref as[0]]) (Q:=fun v H2=>v=.int (kf 0)∧Same H H2) (E:=E0) G hr.in1 hb .nil pass0 Ip.i1 (.cons rfl .nil) (hk 0 _ H _ ha (Same.refl H) fun H2 s2=>⟨rfl,s2⟩)) (fun v s2 hq=>?_) fun _ _ z=>z.elim)))
    obtain ⟨y,H2,I2',ry,ey,s2'⟩:=hq
    subst ey
    obtain ⟨t,rfl⟩:=ry
    have I3':Inv X (pins ++ pinsAt [it,Z] h') σ H2 s2:=I2'.o1 I.ok.hd I.ok.frames
    have pin:∀ b o,b ∈ [it,Z]→h'.get? b=some o→s2.heap.get? b=some o∧H2 b=none:=fun b o hb e=>by
      have z:=I3'.pin (b,o) (List.mem_append_right _ (List.mem_append_right _ (mem_pinsAt hb e)))
      exact ⟨z.1,z.2.1⟩
    have z2:=(pin Z _ (by simp) z1).1
    have fp2:∀ b ∈ [it,Z],FpOk X pins H2 b:=fun b hb=>by
      obtain ⟨o,e,_⟩:=ob b hb
      exact ⟨(pin b o hb e).2,(fp b hb).2⟩
    have I3:Inv X pins σ H2 s2:=I3'.unpinned
    show wpAny _ X.A.in1 (updateSeq Z (fun _=>#[.ref as[0],.int (kf 0) t]) >>= _) _ _ _
    refine wpAny_bind (wpAny_updateSeq z2 rfl ?_)
    rw [nm]
    refine wpAny_pure ⟨plainId_quiet PySem.F.plain_max_loop _,?_⟩
    exact maxK_loop (it:=it) (Z:=Z) (l:=l) (as:=as) (kf:=kf) (H:=H) G hr hb hc hS hk hne (as.length - (0 + 1)) 0 _ H2 _ _ _ rfl lt (I3.turnedL (t':=s2.toks) (ch:=[it,Z]) (fun b o hb e=>(Heap.get?_update_other _ _ (fun q=>hb (by simp [q]))).trans e) fp2) s2' fp2
      ⟨oi,(Heap.get?_update_other _ _ (Ne.symm hne)).trans (pin it _ (by simp) hoi).1,ci,di⟩ (Heap.get?_update_self _ z2 rfl) ⟨_,ha,rfl⟩ ⟨t,rfl⟩ fun a s' H' I' s'' e=>⟨.ref a,H',I',rfl,q1 a H' e s''⟩
end
section
variable {X:Cx}
def tmaxK (K:PySem.W.Frag) (f:Addr) (sp:Sp) (ta tk:TA):TE:=fun σ H Q=>ta σ H fun vs H1=>tk σ H1 fun ws H2=>rmaxK K f sp vs ws H2 Q
theorem pe_maxK {k:Nat} {f:Addr} {fd:FuncData} {p0:Str} {sp:Sp} {l:Expr} {kws:List Keyword} {ta tk:TA} {p pos:Pos} (G:FnOk X.prog X.w X.K X.mg X.base CX0 k f fd [p0] sp) (hr:Room (k + 1) X.A) (hb:Binds X.K fd [p0] []) (hc:X.calm=true)
    (hg:Gl X "max") (hm:X.mg "max"=none) (ha:PA X [l] ta) (hk:PK X kws tk) (hks:(backToKw pos (keywordEach kws X.env)).filterMap (·.1)=[Str.ofString "key",Str.ofString "default"]:=by rfl)
    (he:backTo pos (starEach [l] X.env)=(false,eval l X.env) :: backTo pos (starEach [] X.env):=by rfl) (hpl:(backTo pos (starEach [l] X.env)).any (·.1)=false:=by rfl)
    (hall:(backToKw pos (keywordEach kws X.env)).all (·.1.isSome)=true:=by rfl) (hkw:(backToKw pos (keywordEach kws X.env)).any (·.1.isNone)=false:=by rfl) :
    PE X (.Call (.Name "max" p) [l] kws pos) (tmaxK X.K f sp ta tk):=by
  intro pins s σ H Q I h
  refine wpAny_Call_Name_kw (ld_blt I hg hm PyProof.Rows.boot_max (callWith_bK (thn (ha pos pins s σ H _ I h) fun us s1 ⟨vs,H1,I1,r1,q1⟩=>thn (hk pos pins s1 σ H1 _ I1 q1) fun ks s2 ⟨ws,H2,I2,r2,q2⟩=>?_) he hpl hall hkw))
  rw [hks]
  exact call_maxK G hr hb hc I2 r1 r2 q2
end
section
variable {X:Cx} {pins:List (Addr × Obj)} {σ:St}
theorem minK_loop {k:Nat} {f:Addr} {fd:FuncData} {p0:Str} {sp:Sp} {H:Hp} {l it Z:Addr} {as:List Addr} {kf:Nat→Int} {R:Result→Shared→Prop}
    (G:FnOk X.prog X.w X.K X.mg X.base CX0 k f fd [p0] sp) (hr:Room (k + 1) X.A) (hb:Binds X.K fd [p0] []) (hc:X.calm=true) (hS:SqL X.K H l (as.map V.ref)) (hk:KeyOk sp H as kf) (hne:it ≠ Z) :
    ∀ (m j:Nat) (s:Shared) (H1:Hp) (vb vk:Value) (c:Nat),as.length - (j + 1)=m→j + 1 ≤ as.length→Inv X pins σ H1 s→Same H H1→(∀ b ∈ [it,Z],FpOk X pins H1 b)→s.heap.IsListIter it l (j + 1) →
      s.heap.get? Z=some { cls:=.type "list",dict:=none,data:=.seq #[vb,vk] c,slots:=#[] }→(∃ a,as[argBest (fun i j=>decide (kf i < kf j)) j]?=some a∧vb=.ref a)→(∃ t,vk=.int (kf (argBest (fun i j=>decide (kf i < kf j)) j)) t) →
      (∀ a s' H',Inv X pins σ H' s'→Same H H'→as[argBest (fun i j=>decide (kf i < kf j)) (as.length - 1)]?=some a→R (.ok (.ret (.ref a))) s')→codeAny (model X.prog X.w) X.A (.builtin "min.loop" ⟨[.ref it,.ref f,.ref Z],[("default",.none)]⟩) R s:=by
  have nm:(toString "min" ++ toString ".loop":String)="min.loop":=by decide
  have T:=turn_list (P:=X.prog) (w:=X.w) (K:=X.K) (tg:=.Name "" ⟨0,0,0,0⟩) l it
  intro m
  induction m with
  | zero =>
    intro j s H1 vb vk c e1 e2 I s1 fp hit z0 hvb hvk fin
    have en:j + 1=as.length:=by omega
    refine codeAny_builtin PySem.F.entry_min_loop ?_
    rw [Around.under_plainId PySem.F.plain_min_loop _]
    show wpAny _ X.A.in1 (seqItems? (.ref Z) >>= _) _ _ s
    refine wpAny_bind (wpAny_seqItems z0 rfl ?_)
    show wpAny _ X.A.in1 (tryCatch (pyNext (.ref it)) _ >>= _) _ _ s
    obtain ⟨its,rv,pl,hz⟩:=I.list (s1.seq hS)
    have hl:=rv.length
    rw [List.length_map] at hl
    refine wpAny_bind (wpAny_tryCatch (wpAny_pyNext_list_end (show X.A.in1.handled=none from I.ok.hd hc) hit pl.isList (by simp; omega) fun h' eb=>?_))
    have I1:Inv X pins σ H1 { s with heap:=h' }:=I.turnedL (t':=s.toks) (ch:=[it,Z]) (fun b o hb e=>eb b o (fun q=>hb (by simp [q])) e) fp
    have z1:=eb Z _ (Ne.symm hne) z0
    show wpAny _ X.A.in1 (updateSeq Z (fun _=>#[]) >>= _) _ _ _
    refine wpAny_bind (wpAny_updateSeq z1 rfl (wpAny_bind (wpAny_letGo (wpAny_pure ?_))))
    obtain ⟨a,ha,rfl⟩:=hvb
    refine fin a _ H1 (I1.turnedL (t':=s.toks) (ch:=[it,Z]) (fun b o hb e=>(Heap.get?_update_other _ _ (fun q=>hb (by simp [q]))).trans e) fp) s1 ?_
    have e3:as.length - 1=j:=by omega
    rw [e3]
    exact ha
  | succ m ih =>
    intro j s H1 vb vk c e1 e2 I s1 fp hit z0 hvb hvk fin
    have lt:j + 1 < as.length:=by omega
    refine codeAny_builtin PySem.F.entry_min_loop ?_
    rw [Around.under_plainId PySem.F.plain_min_loop _]
    show wpAny _ X.A.in1 (seqItems? (.ref Z) >>= _) _ _ s
    refine wpAny_bind (wpAny_seqItems z0 rfl ?_)
    show wpAny _ X.A.in1 (tryCatch (pyNext (.ref it)) _ >>= _) _ _ s
    obtain ⟨its,rv,pl,hz⟩:=I.list (s1.seq hS)
    have ha:as[j + 1]?=some as[j + 1]:=by simp [lt]
    obtain ⟨u,hu,ru⟩:=rv.get (i:=j + 1) (x:=V.ref as[j + 1]) (by rw [List.getElem?_map,ha]; rfl)
    obtain rfl:u=Value.ref as[j + 1]:=ru
    refine wpAny_bind (wpAny_tryCatch (wpAny_pyNext_list_item hit pl.isList (x:=.ref as[j + 1]) (by simpa using hu) fun h' hit' sb=>?_))
    have I1:Inv X pins σ H1 { s with heap:=h' }:=I.turnedL (t':=s.toks) (ch:=[it,Z]) (fun b o hb e=>(sb.2 b (fun q=>hb (by simp [q]))).trans e) fp
    have z1:=(sb.2 Z (Ne.symm hne)).trans z0
    show wpAny _ X.A.in1 (tryCatch (holding [.ref as[j + 1]] (call (.ref f) [.ref as[j + 1]])) _ >>= _) _ _ _
    obtain ⟨oi,hoi,ci,di⟩:=id hit'
    have ob:∀ b ∈ [it,Z],∃ o,h'.get? b=some o∧∀ v,o.data ≠ .cell v:=fun b hb=>by
      simp only [List.mem_cons,List.not_mem_nil,or_false] at hb
      rcases hb with q | q <;> subst q
      · exact ⟨oi,hoi,fun v q=>by rw [di] at q; cases q⟩
      · exact ⟨_,z1,fun v q=>by cases q⟩
    have Ip:=I1.pinned fp ob
    refine wpAny_bind (wpAny_tryCatch (wpAny_holding (wpAny_mono (run_fn (X:=X.i1) (us:=[.ref as[j + 1]]) (vs:=[.ref as[j + 1]]) (Q:=fun v H2=>v=.int (kf (j + 1))∧Same H1 H2) (E:=E0) G hr.in1 hb .nil pass0 Ip.i1 (.cons rfl .nil) (hk (j + 1) _ H1 _ ha s1 fun H2 s2=>⟨rfl,s2⟩)) (fun v s2 hq=>?_) fun _ _ z=>z.elim)))
    obtain ⟨y,H2,I2',ry,ey,s2'⟩:=hq
    subst ey
    obtain ⟨t,rfl⟩:=ry
    have I2:Inv X (pins ++ pinsAt [it,Z] h') σ H2 s2:=I2'.o1 I.ok.hd I.ok.frames
    have pin:∀ b o,b ∈ [it,Z]→h'.get? b=some o→s2.heap.get? b=some o∧H2 b=none:=fun b o hb e=>by
      have z:=I2.pin (b,o) (List.mem_append_right _ (List.mem_append_right _ (mem_pinsAt hb e)))
      exact ⟨z.1,z.2.1⟩
    have z2:=(pin Z _ (by simp) z1).1
    have hit2:s2.heap.IsListIter it l (j + 1 + 1):=⟨oi,(pin it _ (by simp) hoi).1,ci,di⟩
    have fp2:∀ b ∈ [it,Z],FpOk X pins H2 b:=fun b hb=>by
      obtain ⟨o,e,_⟩:=ob b hb
      exact ⟨(pin b o hb e).2,(fp b hb).2⟩
    have I3:Inv X pins σ H2 s2:=I2.unpinned
    have s3:Same H H2:=Same.trans s1 s2'
    obtain ⟨tb,rfl⟩:=hvk
    show wpAny _ X.A.in1 (tryCatch (holding [.ref as[j + 1],.int (kf (j + 1)) t] (richCompare .Lt (.int (kf (j + 1)) t) (.int (kf (argBest (fun i j=>decide (kf i < kf j)) j)) tb) >>= _)) _ >>= _) _ _ _
    refine wpAny_bind (wpAny_tryCatch (wpAny_holding (wpAny_bind (lt_int ?_))))
    refine wpAny_bind (wpAny_holding (wpAny_truthy_bool (wpAny_bind (wpAny_letGo (wpAny_pure ?_)))))
    cases hbt:decide (kf (j + 1) < kf (argBest (fun i j=>decide (kf i < kf j)) j)) with
    | true =>
      simp only [if_true]
      refine wpAny_bind (wpAny_updateSeq z2 rfl (wpAny_bind (wpAny_letGo ?_)))
      rw [nm]
      have ek:argBest (fun i j=>decide (kf i < kf j)) (j + 1)=j + 1:=argBest_T hbt
      refine wpAny_pure ⟨plainId_quiet PySem.F.plain_min_loop _,ih (j + 1) _ H2 _ _ _ (by omega) lt (I3.turnedL (t':=s2.toks) (ch:=[it,Z]) (fun b o hb e=>(Heap.get?_update_other _ _ (fun q=>hb (by simp [q]))).trans e) fp2) s3 fp2
        ⟨oi,(Heap.get?_update_other _ _ (Ne.symm hne)).trans (pin it _ (by simp) hoi).1,ci,di⟩ (Heap.get?_update_self _ z2 rfl) ⟨_,by rw [ek]; exact ha,rfl⟩ ⟨t,by rw [ek]⟩ fin⟩
    | false =>
      simp only [Bool.false_eq_true,if_false]
      refine wpAny_bind (wpAny_letGo ?_)
      rw [nm]
      have ek:argBest (fun i j=>decide (kf i < kf j)) (j + 1)=argBest (fun i j=>decide (kf i < kf j)) j:=argBest_F hbt
      refine wpAny_pure ⟨plainId_quiet PySem.F.plain_min_loop _,ih (j + 1) _ H2 _ _ _ (by omega) lt I3 s3 fp2 hit2 z2 (by rw [ek]; exact hvb) ⟨tb,by rw [ek]⟩ fin⟩
def rminK (K:PySem.W.Frag) (f:Addr) (sp:Sp):List V→List V→Hp→VK→Prop:=fun xs ws H Q=>∃ (l:Addr) (as:List Addr) (kf:Nat→Int),xs=[.ref l]∧ws=[.ref f,.non]∧SqL K H l (as.map V.ref)∧KeyOk sp H as kf ∧
  (as=[]→∀ H',Same H H'→Q .non H')∧∀ a H',as[argBest (fun i j=>decide (kf i < kf j)) (as.length - 1)]?=some a→Same H H'→Q (.ref a) H'
set_option maxHeartbeats 1000000 in
theorem args_minK (a b:Value):argsOk "min" ⟨[a],[(Str.ofString "key",b),(Str.ofString "default",.none)]⟩:=by unfold argsOk; kernel_rfl
set_option maxHeartbeats 1000000 in
theorem call_minK {k:Nat} {f:Addr} {fd:FuncData} {p0:Str} {sp:Sp} (G:FnOk X.prog X.w X.K X.mg X.base CX0 k f fd [p0] sp) (hr:Room (k + 1) X.A) (hb:Binds X.K fd [p0] []) (hc:X.calm=true)
    {s:Shared} {H:Hp} {xs ws:List V} {us ks:List Value} {Q:VK} (I:Inv X pins σ H s) (r:Vals xs us) (r2:Vals ws ks) (h:rminK X.K f sp xs ws H Q) :
    wpAny (model X.prog X.w) X.A (call (.builtin "min") us ([Str.ofString "key",Str.ofString "default"].zip ks)) (EP X pins σ Q) X.xe s:=by
  obtain ⟨l,as,kf,e1,e2,hS,hk,q0,q1⟩:=h
  subst e1 e2
  obtain ⟨u,rfl,ru⟩:=vals1 r
  obtain rfl:u=Value.ref l:=ru
  obtain ⟨v1,v2,rfl,rf,rn⟩:=vals2 r2
  obtain rfl:v1=Value.ref f:=rf
  obtain rfl:v2=Value.none:=rn
  have nm:(toString "min" ++ toString ".loop":String)="min.loop":=by decide
  refine PyProof.Rows.kmk_tree PySem.F.kind_min PySem.F.plain_min PySem.F.entry_min (args_minK _ _) ?_
  show wpAny _ X.A.in1 (Builtin.Builtins.bindParams "min" ["key","default"] 0 ⟨[],[(Str.ofString "key",.ref f),(Str.ofString "default",.none)]⟩ >>= _) _ _ s
  refine wpAny_bind (wpAny_of_eq (show Builtin.Builtins.bindParams "min" ["key","default"] 0 ⟨[],[(Str.ofString "key",.ref f),(Str.ofString "default",.none)]⟩=pure [some (.ref f),some .none] from rfl) ?_)
  refine wpAny_bind (wpAny_pure ?_)
  obtain ⟨its,rv,pl,hz⟩:=I.list hS
  have hlen:=rv.length
  rw [List.length_map] at hlen
  have ll:l < s.heap.objs.size:=by obtain ⟨o,ho,_⟩:=pl.isList; exact Heap.lt_size ho
  refine wpAny_bind (wpAny_pyIter_list pl.isList ?_)
  refine wpAny_bind (wpAny_newList ?_ (Nat.zero_le _))
  rw [nm]
  generalize hh1:s.heap.push { cls:=.type "list_iterator",data:=.fields #[.ref l,.int 0 0] }=h1
  have sz1:h1.objs.size=s.heap.objs.size + 1:=by rw [← hh1]; exact Heap.size_push ..
  generalize hh2:h1.push { cls:=.type "list",dict:=none,data:=.seq (([]:List Value).toArray) 0 }=h2
  have k1:∀ b o,s.heap.get? b=some o→h2.get? b=some o:=fun b o e=>by rw [← hh2,← hh1]; exact Heap.get?_push_of_some _ (Heap.get?_push_of_some _ e)
  have gI:h2.get? s.heap.objs.size=some { cls:=.type "list_iterator",data:=.fields #[.ref l,.int 0 0] }:=by rw [← hh2,← hh1]; exact Heap.get?_push_of_some _ (Heap.get?_push_size _ rfl)
  have gZ:h2.get? h1.objs.size=some { cls:=.type "list",dict:=none,data:=.seq #[] 0,slots:=#[] }:=by rw [← hh2]; exact Heap.get?_push_size _ rfl
  have I1:Inv X pins σ H { s with heap:=h2 }:=I.kept (t':=s.toks) k1
  have hne:s.heap.objs.size ≠ h1.objs.size:=by rw [sz1]; exact Nat.ne_of_lt (Nat.lt_succ_self _)
  have fp:∀ b ∈ [s.heap.objs.size,h1.objs.size],FpOk X pins H b:=fun b hb=>by
    have ge:s.heap.objs.size ≤ b:=by
      simp only [List.mem_cons,List.not_mem_nil,or_false] at hb
      rcases hb with q | q <;> rw [q]
      · exact Nat.le_refl _
      · rw [sz1]; exact Nat.le_succ _
    exact I.fpOk ge (I.hok.fresh ge)
  refine wpAny_pure ⟨plainId_quiet PySem.F.plain_min_loop _,?_⟩
  generalize s.heap.objs.size=it at *
  generalize h1.objs.size=Z at *
  have hit:h2.IsListIter it l 0:=⟨_,gI,rfl,rfl⟩
  refine codeAny_builtin PySem.F.entry_min_loop ?_
  rw [Around.under_plainId PySem.F.plain_min_loop _]
  show wpAny _ X.A.in1 (seqItems? (.ref Z) >>= _) _ _ _
  refine wpAny_bind (wpAny_seqItems gZ rfl ?_)
  show wpAny _ X.A.in1 (tryCatch (pyNext (.ref it)) _ >>= _) _ _ _
  have pl1:h2.IsList l its.toArray:=pl.isList.at fun o e=>k1 l o e
  by_cases h0:as=[]
  · subst h0
    have e0:its=[]:=List.length_eq_zero_iff.mp (by simpa using hlen.symm)
    subst e0
    refine wpAny_bind (wpAny_tryCatch (wpAny_pyNext_list_end (show X.A.in1.handled=none from I.ok.hd hc) hit pl1 (by simp) fun h' eb=>?_))
    have I2:Inv X pins σ H { s with heap:=h' }:=Inv.turnedL (s:={ s with heap:=h2 }) (h':=h') (t':=s.toks) (ch:=[it,Z]) I1 (fun b o hb e=>eb b o (fun q=>hb (by simp [q])) e) fp
    refine wpAny_bind (wpAny_rule (wpAny_pure ?_))
    exact ⟨.non,H,I2,rfl,q0 rfl H (Same.refl H)⟩
  · have lt:0 < as.length:=List.length_pos_iff.mpr h0
    have ha:as[0]?=some as[0]:=by simp [lt]
    obtain ⟨u,hu,ru⟩:=rv.get (i:=0) (x:=V.ref as[0]) (by rw [List.getElem?_map,ha]; rfl)
    obtain rfl:u=Value.ref as[0]:=ru
    refine wpAny_bind (wpAny_tryCatch (wpAny_pyNext_list_item hit pl1 (x:=.ref as[0]) (by simpa using hu) fun h' hit' sb=>?_))
    have I2:Inv X pins σ H { s with heap:=h' }:=Inv.turnedL (s:={ s with heap:=h2 }) (h':=h') (t':=s.toks) (ch:=[it,Z]) I1 (fun b o hb e=>(sb.2 b (fun q=>hb (by simp [q]))).trans e) fp
    have z1:=(sb.2 Z (Ne.symm hne)).trans gZ
    show wpAny _ X.A.in1 (tryCatch (holding [.ref as[0]] (call (.ref f) [.ref as[0]])) _ >>= _) _ _ _
    obtain ⟨oi,hoi,ci,di⟩:=id hit'
    have ob:∀ b ∈ [it,Z],∃ o,h'.get? b=some o∧∀ v,o.data ≠ .cell v:=fun b hb=>by
      simp only [List.mem_cons,List.not_mem_nil,or_false] at hb
      rcases hb with q | q <;> subst q
      · exact ⟨oi,hoi,fun v q=>by rw [di] at q; cases q⟩
      · exact ⟨_,z1,fun v q=>by cases q⟩
    have Ip:=I2.pinned fp ob
    refine wpAny_bind (wpAny_tryCatch (wpAny_holding (wpAny_mono (run_fn (X:=X.i1) (us:=[.ref as[0]]) (vs:=[.ref as[0]]) (Q:=fun v H2=>v=.int (kf 0)∧Same H H2) (E:=E0) G hr.in1 hb .nil pass0 Ip.i1 (.cons rfl .nil) (hk 0 _ H _ ha (Same.refl H) fun H2 s2=>⟨rfl,s2⟩)) (fun v s2 hq=>?_) fun _ _ z=>z.elim)))
    obtain ⟨y,H2,I2',ry,ey,s2'⟩:=hq
    subst ey
    obtain ⟨t,rfl⟩:=ry
    have I3':Inv X (pins ++ pinsAt [it,Z] h') σ H2 s2:=I2'.o1 I.ok.hd I.ok.frames
    have pin:∀ b o,b ∈ [it,Z]→h'.get? b=some o→s2.heap.get? b=some o∧H2 b=none:=fun b o hb e=>by
      have z:=I3'.pin (b,o) (List.mem_append_right _ (List.mem_append_right _ (mem_pinsAt hb e)))
      exact ⟨z.1,z.2.1⟩
    have z2:=(pin Z _ (by simp) z1).1
    have fp2:∀ b ∈ [it,Z],FpOk X pins H2 b:=fun b hb=>by
      obtain ⟨o,e,_⟩:=ob b hb
      exact ⟨(pin b o hb e).2,(fp b hb).2⟩
    have I3:Inv X pins σ H2 s2:=I3'.unpinned
    show wpAny _ X.A.in1 (updateSeq Z (fun _=>#[.ref as[0],.int (kf 0) t]) >>= _) _ _ _
    refine wpAny_bind (wpAny_updateSeq z2 rfl ?_)
    rw [nm]
    refine wpAny_pure ⟨plainId_quiet PySem.F.plain_min_loop _,?_⟩
    exact minK_loop (it:=it) (Z:=Z) (l:=l) (as:=as) (kf:=kf) (H:=H) G hr hb hc hS hk hne (as.length - (0 + 1)) 0 _ H2 _ _ _ rfl lt (I3.turnedL (t':=s2.toks) (ch:=[it,Z]) (fun b o hb e=>(Heap.get?_update_other _ _ (fun q=>hb (by simp [q]))).trans e) fp2) s2' fp2
      ⟨oi,(Heap.get?_update_other _ _ (Ne.symm hne)).trans (pin it _ (by simp) hoi).1,ci,di⟩ (Heap.get?_update_self _ z2 rfl) ⟨_,ha,rfl⟩ ⟨t,rfl⟩ fun a s' H' I' s'' e=>⟨.ref a,H',I',rfl,q1 a H' e s''⟩
end
section
variable {X:Cx}
def tminK (K:PySem.W.Frag) (f:Addr) (sp:Sp) (ta tk:TA):TE:=fun σ H Q=>ta σ H fun vs H1=>tk σ H1 fun ws H2=>rminK K f sp vs ws H2 Q
theorem pe_minK {k:Nat} {f:Addr} {fd:FuncData} {p0:Str} {sp:Sp} {l:Expr} {kws:List Keyword} {ta tk:TA} {p pos:Pos} (G:FnOk X.prog X.w X.K X.mg X.base CX0 k f fd [p0] sp) (hr:Room (k + 1) X.A) (hb:Binds X.K fd [p0] []) (hc:X.calm=true)
    (hg:Gl X "min") (hm:X.mg "min"=none) (ha:PA X [l] ta) (hk:PK X kws tk) (hks:(backToKw pos (keywordEach kws X.env)).filterMap (·.1)=[Str.ofString "key",Str.ofString "default"]:=by rfl)
    (he:backTo pos (starEach [l] X.env)=(false,eval l X.env) :: backTo pos (starEach [] X.env):=by rfl) (hpl:(backTo pos (starEach [l] X.env)).any (·.1)=false:=by rfl)
    (hall:(backToKw pos (keywordEach kws X.env)).all (·.1.isSome)=true:=by rfl) (hkw:(backToKw pos (keywordEach kws X.env)).any (·.1.isNone)=false:=by rfl) :
    PE X (.Call (.Name "min" p) [l] kws pos) (tminK X.K f sp ta tk):=by
  intro pins s σ H Q I h
  refine wpAny_Call_Name_kw (ld_blt I hg hm PyProof.Rows.boot_min (callWith_bK (thn (ha pos pins s σ H _ I h) fun us s1 ⟨vs,H1,I1,r1,q1⟩=>thn (hk pos pins s1 σ H1 _ I1 q1) fun ks s2 ⟨ws,H2,I2,r2,q2⟩=>?_) he hpl hall hkw))
  rw [hks]
  exact call_minK G hr hb hc I2 r1 r2 q2
end
end L2
namespace L2
open PySem PySem.Spec PyProof.Rows
inductive EqD (K:PySem.W.Frag) (H:Hp):Nat→V→V→Bool→Prop
  | flat {n:Nat} {x y:V} (fx:flatV x=true) (fy:flatV y=true):EqD K H n x y (eqV x y)
  | same {n:Nat} {a:Addr}:EqD K H n (.ref a) (.ref a) true
  | lst {n:Nat} {a b:Addr} {xs ys:List V} (ne:a ≠ b) (hA:SqL K H a xs) (hB:SqL K H b ys) (hl:xs.length=ys.length) (e:Nat→Bool)
      (he:∀ (j:Nat) (x y:V),xs[j]?=some x→ys[j]?=some y→EqD K H n x y (e j)):EqD K H (n + 1) (.ref a) (.ref b) ((List.range xs.length).all e)
  | tup {n:Nat} {a b:Addr} {xs ys:List V} (ne:a ≠ b) (hA:SqT K H a xs) (hB:SqT K H b ys) (hl:xs.length=ys.length) (e:Nat→Bool)
      (he:∀ (j:Nat) (x y:V),xs[j]?=some x→ys[j]?=some y→EqD K H n x y (e j)):EqD K H (n + 1) (.ref a) (.ref b) ((List.range xs.length).all e)
theorem all_true_range (n:Nat):((List.range n).all fun _=>true)=true:=List.all_eq_true.mpr fun _ _=>rfl
theorem EqD.tupT {K:PySem.W.Frag} {H:Hp} {n:Nat} {a b:Addr} {xs ys:List V} (hA:SqT K H a xs) (hB:SqT K H b ys) (hl:xs.length=ys.length) (he:∀ (j:Nat) (x y:V),xs[j]?=some x→ys[j]?=some y→EqD K H n x y true):EqD K H (n + 1) (.ref a) (.ref b) true:=by
  by_cases ne:a=b
  · subst ne
    exact .same
  · have:=EqD.tup ne hA hB hl (fun _=>true) he
    rw [all_true_range] at this
    exact this
theorem EqD.lstT {K:PySem.W.Frag} {H:Hp} {n:Nat} {a b:Addr} {xs ys:List V} (hA:SqL K H a xs) (hB:SqL K H b ys) (hl:xs.length=ys.length) (he:∀ (j:Nat) (x y:V),xs[j]?=some x→ys[j]?=some y→EqD K H n x y true):EqD K H (n + 1) (.ref a) (.ref b) true:=by
  by_cases ne:a=b
  · subst ne
    exact .same
  · have:=EqD.lst ne hA hB hl (fun _=>true) he
    rw [all_true_range] at this
    exact this
theorem eqV_same:∀ {x:V},flatV x=true→eqV x x=true
  | .non,_=>rfl
  | .bl b,_=>by show (b == b)=true; simp
  | .int i,_=>by show (i == i)=true; simp
  | .str z,_=>by show (z == z)=true; simp
  | .ref _,h=>nomatch (show false=true from h)
theorem EqD.refl {K:PySem.W.Frag} {H:Hp} {n:Nat} {x:V} (h:flatV x=true):EqD K H n x x true:=by
  have:=EqD.flat (K:=K) (H:=H) (n:=n) h h
  rw [eqV_same h] at this
  exact this
section
variable {X:Cx}
theorem vals_at {xs:List V} {us:List Value} (r:Vals xs us) (j:Nat) (h1:j < us.toArray.size):∃ x,xs[j]?=some x∧RelV x us.toArray[j]:=by
  have l1:=r.length
  rw [List.size_toArray] at h1
  have g1:j < xs.length:=by omega
  obtain ⟨w1,q1,p1⟩:=r.get (i:=j) (x:=xs[j]) (by simp [g1])
  have s1:us.toArray[j]=w1:=by
    rw [List.getElem?_eq_getElem h1] at q1
    simpa using q1
  exact ⟨xs[j],by simp [g1],by rw [s1]; exact p1⟩
theorem eqD_at {pins:List (Addr × Obj)} {σ:St} {H:Hp} {s:Shared} (I:Inv X pins σ H s) {n:Nat} {x y:V} {b:Bool} (h:EqD X.K H n x y b) :
    ∀ {A:Around} {u v:Value},A.units + n < cLine→RelV x u→RelV y v→SeqAt.EqAt A s u v b:=by
  induction h with
  | flat fx fy=>intro A u v _ rx ry; exact eqAt_V rx ry fx fy
  | @same n a =>
    intro A u v _ rx ry
    obtain rfl:u=Value.ref a:=rx
    obtain rfl:v=Value.ref a:=ry
    exact SeqAt.EqAt.same _
  | @lst n a b xs ys ne hA hB hl e he ih =>
    intro A u v hu rx ry
    obtain rfl:u=Value.ref a:=rx
    obtain rfl:v=Value.ref b:=ry
    obtain ⟨its,r,pl,hz⟩:=I.list hA
    obtain ⟨its2,r2,pl2,hz2⟩:=I.list hB
    have l1:=r.length
    have l2:=r2.length
    have rc:=SeqAt.RcAt.lists (A:=A) (s:=s) (e:=e) pl.isList pl2.isList (by rw [List.size_toArray,List.size_toArray]; omega) (by omega) (fun j h1 h2=>by
      obtain ⟨x,ex,rx⟩:=vals_at r j h1
      obtain ⟨y,ey,ry⟩:=vals_at r2 j h2
      exact ih j x y ex ey (show A.units + 1 + n < cLine by omega) rx ry)
    rw [List.size_toArray,← l1] at rc
    exact SeqAt.EqAt.of_refs ne rc
  | @tup n a b xs ys ne hA hB hl e he ih =>
    intro A u v hu rx ry
    obtain rfl:u=Value.ref a:=rx
    obtain rfl:v=Value.ref b:=ry
    obtain ⟨its,r,pl,hz⟩:=I.tuple hA
    obtain ⟨its2,r2,pl2,hz2⟩:=I.tuple hB
    have l1:=r.length
    have l2:=r2.length
    have rc:=SeqAt.RcAt.tuples (A:=A) (s:=s) (e:=e) pl pl2 (by omega) (fun j h1 h2=>by
      obtain ⟨x,ex,rx⟩:=vals_at r j h1
      obtain ⟨y,ey,ry⟩:=vals_at r2 j h2
      exact ih j x y ex ey (show A.units + 1 + n < cLine by omega) rx ry)
    have e1:min its.toArray.size its2.toArray.size=xs.length:=by rw [List.size_toArray,List.size_toArray]; omega
    have e2:(its.toArray.size == its2.toArray.size)=true:=by rw [List.size_toArray,List.size_toArray]; exact beq_iff_eq.mpr (by omega)
    rw [e1,e2,Bool.and_true] at rc
    exact SeqAt.EqAt.of_refs ne rc
def rDeep (K:PySem.W.Frag) (neg:Bool):R2:=fun x y H Q=>∃ (a b:Addr) (xs ys:List V) (e:Nat→Bool),x=.ref a∧y=.ref b∧((SqL K H a xs∧SqL K H b ys) ∨ (SqT K H a xs∧SqT K H b ys))∧xs.length=ys.length ∧
  (∀ (j:Nat) (x y:V),xs[j]?=some x→ys[j]?=some y→EqD K H 8 x y (e j))∧Q (.bl (if neg then !((List.range xs.length).all e) else (List.range xs.length).all e)) H
theorem op_eqDeep (hu:X.A.units + 20 < cLine):OpR X (compareOp .Eq) (rDeep X.K false):=by
  intro pins s σ H x y v u Q I rx ry h
  obtain ⟨a,b,xs,ys,e,e1,e2,hS,hl,he,q⟩:=h
  subst e1 e2
  obtain rfl:v=Value.ref a:=rx
  obtain rfl:u=Value.ref b:=ry
  rcases hS with ⟨hA,hB⟩ | ⟨hA,hB⟩
  · obtain ⟨its,r,pl,hz⟩:=I.list hA
    obtain ⟨its2,r2,pl2,hz2⟩:=I.list hB
    have l1:=r.length
    have l2:=r2.length
    refine SeqAt.eq_listAt (e:=e) pl.isList pl2.isList (by rw [List.size_toArray,List.size_toArray]; omega) (by omega) (fun j h1 h2=>?_) ⟨.bl _,H,I,rfl,?_⟩
    · obtain ⟨x,ex,rx⟩:=vals_at r j h1
      obtain ⟨y,ey,ry⟩:=vals_at r2 j h2
      exact eqD_at I (he j x y ex ey) (show X.A.units + 1 + 8 < cLine by omega) rx ry
    · rw [List.size_toArray,← l1]
      exact q
  · obtain ⟨its,r,pl,hz⟩:=I.tuple hA
    obtain ⟨its2,r2,pl2,hz2⟩:=I.tuple hB
    have l1:=r.length
    have l2:=r2.length
    refine SeqAt.eq_tupleAt (e:=e) pl pl2 (by omega) (fun j h1 h2=>?_) ⟨.bl _,H,I,rfl,?_⟩
    · obtain ⟨x,ex,rx⟩:=vals_at r j h1
      obtain ⟨y,ey,ry⟩:=vals_at r2 j h2
      exact eqD_at I (he j x y ex ey) (show X.A.units + 1 + 8 < cLine by omega) rx ry
    · have e1:min its.toArray.size its2.toArray.size=xs.length:=by rw [List.size_toArray,List.size_toArray]; omega
      have e2:(its.toArray.size == its2.toArray.size)=true:=by rw [List.size_toArray,List.size_toArray]; exact beq_iff_eq.mpr (by omega)
      rw [e1,e2,Bool.and_true]
      exact q
end
end L2
namespace L2
open PySem PySem.Spec PyProof.Rows
abbrev gTwo (K:PySem.W.Frag):TG:=gTup K 2 (gCons (gName 0) (gCons (gName 1) gNil))
theorem Same.put1 {H H2:Hp} {l:Addr} {o:HO} (s:Same H H2) (hn:H l=none):Same H (upd H2 l o):=fun b u e=>by
  rw [upd_ne (ne_of_none e hn)]
  exact s b u e
theorem range_filter_succ {α:Type} (n:Nat) (c:Nat→Bool) (f:Nat→α):((List.range (n + 1)).filter c).map f=((List.range n).filter c).map f ++ (if c n=true then [f n] else []):=by
  rw [List.range_succ,List.filter_append,List.map_append]
  by_cases h:c n=true
  · rw [if_pos h,List.filter_cons_of_pos h]; rfl
  · rw [if_neg h,List.filter_cons_of_neg h]; rfl
theorem comp_zipP {K:PySem.W.Frag} {a b:Addr} {xs ys:List V} {tt:TT} {te:TE} {σ:St} {H:Hp} {Q:VK} (c:Nat→Bool) (f:Nat→V) (hA:SqL K H a xs) (hB:SqL K H b ys) (hn:min xs.length ys.length < sizeLine)
    (ht:∀ (i:Nat) (x y:V) (H':Hp) (Q':Bool→Hp→Prop),xs[i]?=some x→ys[i]?=some y→Same H H'→(∀ H'',Same H' H''→Q' (c i) H'')→tt (some x :: some y :: σ) H' Q')
    (he:∀ (i:Nat) (x y:V) (H':Hp) (Q':VK),c i=true→xs[i]?=some x→ys[i]?=some y→Same H H'→(∀ H'',Same H' H''→Q' (f i) H'')→te (some x :: some y :: σ) H' Q')
    (hd:∀ D H',H D=none→Same H H'→H' D=some (.lst (((List.range (min xs.length ys.length)).filter c).map f))→Q (.ref D) H'):CompGoN (Itz K a b) H 2 σ (gTwo K) tt te Q:=by
  intro D hD
  refine ⟨fun i m H'=>m=min xs.length ys.length - i∧i ≤ min xs.length ys.length∧Same H H'∧H' D=some (.lst (((List.range i).filter c).map f)),⟨_,rfl,Nat.zero_le _,Same.put1 (Same.refl H) hD,upd_same⟩,?_⟩
  rintro i m H' ⟨rfl,hi,s1,hl⟩
  have qa:=s1.seq hA
  have qb:=s1.seq hB
  by_cases hlt:i < min xs.length ys.length
  · have hx:i < xs.length:=by omega
    have hy:i < ys.length:=by omega
    refine .inr ⟨⟨xs,ys,xs[i],ys[i],qa,qb,by simp [hx],by simp [hy]⟩,fun x H2 ρ lρ y=>?_⟩
    obtain ⟨p,u,v,rfl,hp,rfl,yu,yv⟩:=y
    have eu:=yu xs qa
    have ev:=yv ys qb
    match ρ,lρ with
    | [r0,r1],_ =>
      have s2:Same H' (upd H' p (.tup [u,v])):=Same.put1 (Same.refl _) hp
      refine ⟨p,_,rfl,SqT.of upd_same,rfl,_,_,rfl,_,_,rfl,rfl,⟨[some u,some v],rfl,rfl⟩,?_⟩
      have s12:=Same.trans s1 s2
      have hl2:=s2 _ _ hl
      refine ht i u v _ _ eu ev s12 fun H3 s3=>?_
      have hl3:=s3 _ _ hl2
      have s13:=Same.trans s12 s3
      cases hc:c i with
      | true =>
        refine iteT (he i u v _ _ hc eu ev s13 fun H4 s4=>⟨_,s4 _ _ hl3,?_,_,Nat.sub_succ_lt_self _ _ hlt,rfl,hlt,Same.put1 (Same.trans s13 s4) hD,?_⟩)
        · rw [List.length_map]
          exact Nat.lt_of_le_of_lt (Nat.le_trans (List.length_filter_le _ _) (by rw [List.length_range]; omega)) hn
        · rw [upd_same,range_filter_succ,if_pos hc]
      | false =>
        refine iteF ⟨_,Nat.sub_succ_lt_self _ _ hlt,rfl,hlt,s13,?_⟩
        rw [hl3,range_filter_succ,if_neg (by rw [hc]; exact Bool.false_ne_true),List.append_nil]
  · have e:i=min xs.length ys.length:=by omega
    refine .inl ⟨⟨xs,ys,qa,qb,by omega⟩,?_⟩
    rw [e] at hl
    exact hd D H' hD s1 hl
theorem comp_tupP {K:PySem.W.Frag} {a:Addr} {xs:List V} {tt:TT} {te:TE} {σ:St} {H:Hp} {Q:VK} (c:Nat→Bool) (f:Nat→V) (hA:H a=some (.tup xs)) (hn:xs.length < sizeLine)
    (ht:∀ (i:Nat) (x:V) (H':Hp) (Q':Bool→Hp→Prop),xs[i]?=some x→Same H H'→(∀ H'',Same H' H''→Q' (c i) H'')→tt (some x :: σ) H' Q')
    (he:∀ (i:Nat) (x:V) (H':Hp) (Q':VK),c i=true→xs[i]?=some x→Same H H'→(∀ H'',Same H' H''→Q' (f i) H'')→te (some x :: σ) H' Q')
    (hd:∀ D H',H D=none→Same H H'→H' D=some (.lst (((List.range xs.length).filter c).map f))→Q (.ref D) H'):CompGo (Itt K a) H σ tt te Q:=by
  intro D hD
  refine ⟨fun i m H'=>m=xs.length - i∧i ≤ xs.length∧Same H H'∧H' D=some (.lst (((List.range i).filter c).map f)),⟨_,rfl,Nat.zero_le _,Same.put1 (Same.refl H) hD,upd_same⟩,?_⟩
  rintro i m H' ⟨rfl,hi,s1,hl⟩
  have qa:SqT K H' a xs:=SqT.of (s1 _ _ hA)
  by_cases hlt:i < xs.length
  · refine .inr ⟨⟨xs,xs[i],qa,by simp [hlt]⟩,fun x H2 y=>?_⟩
    obtain ⟨e,y⟩:=y
    subst e
    have eu:=y xs qa
    refine ht i x _ _ eu s1 fun H3 s3=>?_
    have hl3:=s3 _ _ hl
    have s13:=Same.trans s1 s3
    cases hc:c i with
    | true =>
      refine iteT (he i x _ _ hc eu s13 fun H4 s4=>⟨_,s4 _ _ hl3,?_,_,Nat.sub_succ_lt_self _ _ hlt,rfl,hlt,Same.put1 (Same.trans s13 s4) hD,?_⟩)
      · rw [List.length_map]
        exact Nat.lt_of_le_of_lt (Nat.le_trans (List.length_filter_le _ _) (by rw [List.length_range]; omega)) hn
      · rw [upd_same,range_filter_succ,if_pos hc]
    | false =>
      refine iteF ⟨_,Nat.sub_succ_lt_self _ _ hlt,rfl,hlt,s13,?_⟩
      rw [hl3,range_filter_succ,if_neg (by rw [hc]; exact Bool.false_ne_true),List.append_nil]
  · have e:i=xs.length:=by omega
    refine .inl ⟨⟨xs,qa,by omega⟩,?_⟩
    rw [e] at hl
    exact hd D H' hD s1 hl
end L2
namespace S2
open PySem L2
def RowsOf (H:Hp) (as:List Addr) (rows:List (List V)):Prop:=as.length=rows.length∧∀ (i:Nat) (p:Addr) (r:List V),as[i]?=some p→rows[i]?=some r→H p=some (.tup r)
theorem RowsOf.same {H H2:Hp} {as:List Addr} {rows:List (List V)} (h:RowsOf H as rows) (s:Same H H2):RowsOf H2 as rows:=⟨h.1,fun i p r e1 e2=>s _ _ (h.2 i p r e1 e2)⟩
theorem RowsOf.nil {H:Hp}:RowsOf H [] []:=⟨rfl,fun i p r e=>by simp at e⟩
theorem RowsOf.snoc {H H2:Hp} {as:List Addr} {rows:List (List V)} {p:Addr} {r:List V} (h:RowsOf H as rows) (s:Same H H2) (hp:H2 p=some (.tup r)):RowsOf H2 (as ++ [p]) (rows ++ [r]):=by
  refine ⟨by rw [List.length_append,List.length_append,h.1]; rfl,fun i q x e1 e2=>?_⟩
  by_cases hi:i < as.length
  · rw [List.getElem?_append_left hi] at e1
    rw [List.getElem?_append_left (by rw [← h.1]; exact hi)] at e2
    exact s _ _ (h.2 i q x e1 e2)
  · rw [List.getElem?_append_right (by omega)] at e1
    rw [List.getElem?_append_right (by rw [← h.1]; omega),← h.1] at e2
    cases e:i - as.length with
    | zero =>
      rw [e] at e1 e2
      cases e1
      cases e2
      exact hp
    | succ d=>rw [e] at e1; simp at e1
theorem RowsOf.get {H:Hp} {as:List Addr} {rows:List (List V)} (h:RowsOf H as rows) {i:Nat} {x:V} (e:(as.map V.ref)[i]?=some x):∃ p r,x=.ref p∧as[i]?=some p∧rows[i]?=some r∧H p=some (.tup r):=by
  rw [List.getElem?_map] at e
  cases e1:as[i]? with
  | none=>rw [e1] at e; cases e
  | some p =>
    rw [e1] at e
    have hi:i < rows.length:=by rw [← h.1]; exact get_lt e1
    exact ⟨p,rows[i],(Option.some.inj e).symm,rfl,by simp [hi],h.2 i p rows[i] e1 (by simp [hi])⟩
structure Fl where
  nm:Str
  lf:Bool
  w:Int
  h:Int
structure Pl where
  nm:Str
  x:Int
  y:Int
  w:Int
  h:Int
def fl0:Fl:=⟨"",true,0,0⟩
def pl0:Pl:=⟨"",0,0,0,0⟩
def sideOf (b:Bool):Str:=if b=true then "left" else "right"
def flRow (f:Fl):List V:=[.str f.nm,.str (sideOf f.lf),.int f.w,.int f.h]
def plRow (p:Pl):List V:=[.str p.nm,.int p.x,.int p.y,.int p.w,.int p.h]
theorem side_eq (b c:Bool):(sideOf b=sideOf c) ↔ b=c:=by
  cases b <;> cases c <;> simp [sideOf] <;> decide +kernel
def gF (fls:List Fl) (i:Nat):Fl:=fls.getD i fl0
def gP (pls:List Pl) (i:Nat):Pl:=pls.getD i pl0
theorem gF_of {fls:List Fl} {i:Nat} {f:Fl} (h:fls[i]?=some f):gF fls i=f:=by unfold gF; rw [List.getD_eq_getElem?_getD,h]; rfl
theorem gP_of {pls:List Pl} {i:Nat} {p:Pl} (h:pls[i]?=some p):gP pls i=p:=by unfold gP; rw [List.getD_eq_getElem?_getD,h]; rfl
def touB (p:Pl) (row high:Int):Bool:=decide ((if row > p.y then row else p.y) < (if row + high < p.y + p.h then row + high else p.y + p.h))
theorem touB_iff {p:Pl} {row high:Int}:touB p row high=true ↔ p.y < p.y + p.h∧p.y < row + high∧row < p.y + p.h∧row < row + high:=by
  unfold touB
  rw [decide_eq_true_iff]
  constructor
  · intro h
    split at h <;> split at h <;> omega
  · intro h
    split <;> split <;> omega
def tIdx (fls:List Fl) (pls:List Pl) (sd:Bool) (row high:Int):List Nat:=(List.range (min fls.length pls.length)).filter fun i=>decide (sideOf (gF fls i).lf=sideOf sd) && touB (gP pls i) row high
def bestR (pls:List Pl) (ix:List Nat):Option Nat:=ix[argBest (fun i j=>decide ((gP pls (ix.getD i 0)).x + (gP pls (ix.getD i 0)).w > (gP pls (ix.getD j 0)).x + (gP pls (ix.getD j 0)).w)) (ix.length - 1)]?
def bestL (pls:List Pl) (ix:List Nat):Option Nat:=ix[argBest (fun i j=>decide ((gP pls (ix.getD i 0)).x < (gP pls (ix.getD j 0)).x)) (ix.length - 1)]?
def nrL (fls:List Fl) (pls:List Pl) (row high:Int):Option Nat:=bestR pls (tIdx fls pls true row high)
def nrR (fls:List Fl) (pls:List Pl) (row high:Int):Option Nat:=bestL pls (tIdx fls pls false row high)
def edL (fls:List Fl) (pls:List Pl) (row high:Int):Int:=match nrL fls pls row high with
  | none=>0
  | some i=>(gP pls i).x + (gP pls i).w
def edR (W:Int) (fls:List Fl) (pls:List Pl) (row high:Int):Int:=match nrR fls pls row high with
  | none=>W
  | some i=>(gP pls i).x
def optV (as:List Addr):Option Nat→V
  | none=>.non
  | some i=>.ref (as.getD i 0)
theorem mem_tIdx {fls:List Fl} {pls:List Pl} {sd:Bool} {row high:Int} {i:Nat}:i ∈ tIdx fls pls sd row high ↔ i < fls.length∧i < pls.length∧(gF fls i).lf=sd∧touB (gP pls i) row high=true:=by
  unfold tIdx
  rw [List.mem_filter,List.mem_range,Bool.and_eq_true,decide_eq_true_iff,side_eq]
  constructor
  · intro ⟨h1,h2,h3⟩; exact ⟨by omega,by omega,h2,h3⟩
  · intro ⟨h1,h2,h3,h4⟩; exact ⟨by omega,h3,h4⟩
theorem best_none {ix:List Nat} {bt:Nat→Nat→Bool}:ix[argBest bt (ix.length - 1)]?=none→(∀ k,argBest bt k ≤ k)→ix=[]:=fun h hb=>by
  rw [List.getElem?_eq_none_iff] at h
  have:=hb (ix.length - 1)
  cases ix with
  | nil=>rfl
  | cons x r=>rw [List.length_cons] at h this; omega
theorem arg_le (bt:Nat→Nat→Bool):∀ k,argBest bt k ≤ k
  | 0=>Nat.le_refl _
  | k + 1=>by
    have:=arg_le bt k
    unfold argBest
    split <;> omega
theorem getD_of {ix:List Nat} {k i:Nat} (h:ix[k]?=some i):ix.getD k 0=i:=by rw [List.getD_eq_getElem?_getD,h]; rfl
theorem bestR_some {pls:List Pl} {ix:List Nat} {i:Nat} (h:bestR pls ix=some i):i ∈ ix∧∀ j ∈ ix,(gP pls j).x + (gP pls j).w ≤ (gP pls i).x + (gP pls i).w:=by
  unfold bestR at h
  have e:=getD_of h
  refine ⟨List.mem_of_getElem? h,fun j hj=>?_⟩
  obtain ⟨k,hk⟩:=List.getElem?_of_mem hj
  have g:=(argBest_gt (fun i=>(gP pls (ix.getD i 0)).x + (gP pls (ix.getD i 0)).w) (ix.length - 1)).2 k (by have:=get_lt hk; omega)
  simp only [getD_of hk] at g
  rw [e] at g
  exact g
theorem bestL_some {pls:List Pl} {ix:List Nat} {i:Nat} (h:bestL pls ix=some i):i ∈ ix∧∀ j ∈ ix,(gP pls i).x ≤ (gP pls j).x:=by
  unfold bestL at h
  have e:=getD_of h
  refine ⟨List.mem_of_getElem? h,fun j hj=>?_⟩
  obtain ⟨k,hk⟩:=List.getElem?_of_mem hj
  have g:=(argBest_lt (fun i=>(gP pls (ix.getD i 0)).x) (ix.length - 1)).2 k (by have:=get_lt hk; omega)
  simp only [getD_of hk] at g
  rw [e] at g
  exact g
theorem bestR_none {pls:List Pl} {ix:List Nat} (h:bestR pls ix=none):ix=[]:=best_none h (arg_le _)
theorem bestL_none {pls:List Pl} {ix:List Nat} (h:bestL pls ix=none):ix=[]:=best_none h (arg_le _)
end S2
namespace S2
open PySem L2
def endOf (p:Pl):Int:=p.y + p.h
def triRow (pls:List Pl):Option Nat→Option Nat→Int
  | some i,some j=>if endOf (gP pls j) < endOf (gP pls i) then endOf (gP pls j) else endOf (gP pls i)
  | some i,none=>endOf (gP pls i)
  | none,some j=>endOf (gP pls j)
  | none,none=>0
def nmOf (pls:List Pl):Option Nat→Str
  | none=>""
  | some i=>(gP pls i).nm
abbrev Tri:=Int × Str × Str
def triV (t:Tri):List V:=[.int t.1,.str t.2.1,.str t.2.2]
def papF (W:Int) (fls:List Fl) (pls:List Pl) (w h:Int):Nat→Int→List Tri × Int
  | 0,row=>([],row)
  | n + 1,row=>if edR W fls pls row h - edL fls pls row h < w then
      ((triRow pls (nrL fls pls row h) (nrR fls pls row h),nmOf pls (nrL fls pls row h),nmOf pls (nrR fls pls row h)) :: (papF W fls pls w h n (triRow pls (nrL fls pls row h) (nrR fls pls row h))).1,
        (papF W fls pls w h n (triRow pls (nrL fls pls row h) (nrR fls pls row h))).2) else ([],row)
def cntF (row:Int):List Pl→Nat
  | []=>0
  | p :: r=>(if row < endOf p then 1 else 0) + cntF row r
theorem cntF_le (row:Int):∀ pls:List Pl,cntF row pls ≤ pls.length
  | []=>Nat.le_refl _
  | p :: r=>by
    have:=cntF_le row r
    unfold cntF
    rw [List.length_cons]
    split <;> omega
theorem cntF_mono {row row':Int} (h:row ≤ row'):∀ pls:List Pl,cntF row' pls ≤ cntF row pls
  | []=>Nat.le_refl _
  | p :: r=>by
    have:=cntF_mono h r
    unfold cntF
    split <;> split <;> omega
theorem cntF_lt {row row':Int} (h:row ≤ row'):∀ {pls:List Pl} {p:Pl},p ∈ pls→row < endOf p→endOf p ≤ row'→cntF row' pls < cntF row pls
  | [],_,hp,_,_=>by simp at hp
  | q :: r,p,hp,h1,h2=>by
    have m:=cntF_mono h r
    unfold cntF
    rcases List.mem_cons.mp hp with e | e
    · subst e
      rw [if_neg (by omega),if_pos h1]
      omega
    · have:=cntF_lt h e h1 h2
      split <;> split <;> omega
theorem gP_mem {pls:List Pl} {i:Nat} (h:i < pls.length):gP pls i ∈ pls:=by
  rw [gP_of (List.getElem?_eq_getElem h)]
  exact List.getElem_mem h
theorem noFit {W:Int} {fls:List Fl} {pls:List Pl} {w h row:Int} (hw:w ≤ W) (hf:edR W fls pls row h - edL fls pls row h < w) :
    (nrL fls pls row h ≠ none ∨ nrR fls pls row h ≠ none)∧row < triRow pls (nrL fls pls row h) (nrR fls pls row h)∧cntF (triRow pls (nrL fls pls row h) (nrR fls pls row h)) pls < cntF row pls:=by
  have tl:∀ i,nrL fls pls row h=some i→row < endOf (gP pls i)∧gP pls i ∈ pls:=fun i e=>by
    have m:=mem_tIdx.mp (bestR_some e).1
    exact ⟨(touB_iff.mp m.2.2.2).2.2.1,gP_mem m.2.1⟩
  have tr:∀ i,nrR fls pls row h=some i→row < endOf (gP pls i)∧gP pls i ∈ pls:=fun i e=>by
    have m:=mem_tIdx.mp (bestL_some e).1
    exact ⟨(touB_iff.mp m.2.2.2).2.2.1,gP_mem m.2.1⟩
  unfold edL edR at hf
  cases e1:nrL fls pls row h with
  | none =>
    cases e2:nrR fls pls row h with
    | none =>
      rw [e1,e2] at hf
      dsimp only at hf
      omega
    | some j =>
      have q:=tr j e2
      exact ⟨.inr (by simp),q.1,cntF_lt (Int.le_of_lt q.1) q.2 q.1 (Int.le_refl _)⟩
  | some i =>
    have p:=tl i e1
    cases e2:nrR fls pls row h with
    | none=>exact ⟨.inl (by simp),p.1,cntF_lt (Int.le_of_lt p.1) p.2 p.1 (Int.le_refl _)⟩
    | some j =>
      have q:=tr j e2
      show (_ ∨ _)∧row < (if endOf (gP pls j) < endOf (gP pls i) then endOf (gP pls j) else endOf (gP pls i))∧cntF (if endOf (gP pls j) < endOf (gP pls i) then endOf (gP pls j) else endOf (gP pls i)) pls < cntF row pls
      split
      · exact ⟨.inl (by simp),q.1,cntF_lt (Int.le_of_lt q.1) q.2 q.1 (Int.le_refl _)⟩
      · exact ⟨.inl (by simp),p.1,cntF_lt (Int.le_of_lt p.1) p.2 p.1 (Int.le_refl _)⟩
def standF (W:Int) (fls:List Fl) (pls:List Pl) (row:Int):Pl × List Tri :=
  (⟨(gF fls pls.length).nm,if (gF fls pls.length).lf=true then edL fls pls (papF W fls pls (gF fls pls.length).w (gF fls pls.length).h (cntF row pls) row).2 (gF fls pls.length).h
      else edR W fls pls (papF W fls pls (gF fls pls.length).w (gF fls pls.length).h (cntF row pls) row).2 (gF fls pls.length).h - (gF fls pls.length).w,
    (papF W fls pls (gF fls pls.length).w (gF fls pls.length).h (cntF row pls) row).2,(gF fls pls.length).w,(gF fls pls.length).h⟩,
    (papF W fls pls (gF fls pls.length).w (gF fls pls.length).h (cntF row pls) row).1)
def lastRow (pls:List Pl):Int:=match pls.getLast? with
  | none=>0
  | some p=>p.y
def allF (W:Int) (fls:List Fl):Nat→List Pl × List (List Tri)
  | 0=>([],[])
  | n + 1=>((allF W fls n).1 ++ [(standF W fls (allF W fls n).1 (lastRow (allF W fls n).1)).1],(allF W fls n).2 ++ [(standF W fls (allF W fls n).1 (lastRow (allF W fls n).1)).2])
theorem allF_len (W:Int) (fls:List Fl):∀ n,(allF W fls n).1.length=n∧(allF W fls n).2.length=n
  | 0=>⟨rfl,rfl⟩
  | n + 1=>by
    have:=allF_len W fls n
    unfold allF
    rw [List.length_append,List.length_append,this.1,this.2]
    exact ⟨rfl,rfl⟩
theorem lastRow_snoc (pls:List Pl) (p:Pl):lastRow (pls ++ [p])=p.y:=by
  unfold lastRow
  rw [List.getLast?_append]
  rfl
def PapsAt (H:Hp) (qa:List Addr) (pps:List (List Tri)):Prop:=qa.length=pps.length∧∀ (i:Nat) (q:Addr) (ts:List Tri),qa[i]?=some q→pps[i]?=some ts→∃ ta:List Addr,H q=some (.lst (ta.map V.ref))∧RowsOf H ta (ts.map triV)
theorem PapsAt.same {H H2:Hp} {qa:List Addr} {pps:List (List Tri)} (h:PapsAt H qa pps) (s:Same H H2):PapsAt H2 qa pps:=⟨h.1,fun i q ts e1 e2=>by
  obtain ⟨ta,h1,h2⟩:=h.2 i q ts e1 e2
  exact ⟨ta,s _ _ h1,h2.same s⟩⟩
theorem RowsOf.updL {H:Hp} {as:List Addr} {rows:List (List V)} {l:Addr} {xs:List V} {o:HO} (h:RowsOf H as rows) (hl:H l=some (.lst xs)):RowsOf (upd H l o) as rows:=⟨h.1,fun i p r e1 e2=>by
  have hp:=h.2 i p r e1 e2
  rw [upd_ne (ne_of hp hl (by intro z; cases z))]
  exact hp⟩
theorem PapsAt.updL {H:Hp} {qa:List Addr} {pps:List (List Tri)} {l:Addr} {xs:List V} {o:HO} (h:PapsAt H qa pps) (hl:H l=some (.lst xs)) (hn:∀ q ∈ qa,q ≠ l):PapsAt (upd H l o) qa pps:=⟨h.1,fun i q ts e1 e2=>by
  obtain ⟨ta,h1,h2⟩:=h.2 i q ts e1 e2
  exact ⟨ta,by rw [upd_ne (hn q (List.mem_of_getElem? e1))]; exact h1,h2.updL hl⟩⟩
theorem PapsAt.snoc {H:Hp} {qa:List Addr} {pps:List (List Tri)} {q:Addr} {ts:List Tri} {ta:List Addr} (h:PapsAt H qa pps) (hq:H q=some (.lst (ta.map V.ref))) (ht:RowsOf H ta (ts.map triV)):PapsAt H (qa ++ [q]) (pps ++ [ts]):=by
  refine ⟨by rw [List.length_append,List.length_append,h.1]; rfl,fun i p x e1 e2=>?_⟩
  by_cases hi:i < qa.length
  · rw [List.getElem?_append_left hi] at e1
    rw [List.getElem?_append_left (by rw [← h.1]; exact hi)] at e2
    exact h.2 i p x e1 e2
  · rw [List.getElem?_append_right (by omega)] at e1
    rw [List.getElem?_append_right (by rw [← h.1]; omega),← h.1] at e2
    cases e:i - qa.length with
    | zero =>
      rw [e] at e1 e2
      cases e1
      cases e2
      exact ⟨ta,hq,ht⟩
    | succ d=>rw [e] at e1; simp at e1
end S2
namespace S2
open PySem L2
structure InW (W row:Int) (p:Pl):Prop where
  x0:0 ≤ p.x
  xw:p.x + p.w ≤ W
  w0:0 < p.w
  h0:0 < p.h
  y:p.y ≤ row
theorem edL_ge {fls:List Fl} {pls:List Pl} {row h:Int} {i:Nat} (m:i ∈ tIdx fls pls true row h):(gP pls i).x + (gP pls i).w ≤ edL fls pls row h:=by
  unfold edL
  cases e:nrL fls pls row h with
  | none =>
    have:=bestR_none e
    rw [this] at m
    cases m
  | some j=>exact (bestR_some e).2 i m
theorem edR_le {W:Int} {fls:List Fl} {pls:List Pl} {row h:Int} {i:Nat} (m:i ∈ tIdx fls pls false row h):edR W fls pls row h ≤ (gP pls i).x:=by
  unfold edR
  cases e:nrR fls pls row h with
  | none =>
    have:=bestL_none e
    rw [this] at m
    cases m
  | some j=>exact (bestL_some e).2 i m
theorem edL_is (fls:List Fl) (pls:List Pl) (row h:Int):edL fls pls row h=0 ∨ ∃ i ∈ tIdx fls pls true row h,edL fls pls row h=(gP pls i).x + (gP pls i).w:=by
  unfold edL
  cases e:nrL fls pls row h with
  | none=>exact .inl rfl
  | some j=>exact .inr ⟨j,(bestR_some e).1,rfl⟩
theorem edR_is (W:Int) (fls:List Fl) (pls:List Pl) (row h:Int):edR W fls pls row h=W ∨ ∃ i ∈ tIdx fls pls false row h,edR W fls pls row h=(gP pls i).x:=by
  unfold edR
  cases e:nrR fls pls row h with
  | none=>exact .inl rfl
  | some j=>exact .inr ⟨j,(bestL_some e).1,rfl⟩
theorem edL_0 {W row0:Int} {fls:List Fl} {pls:List Pl} (hp:∀ p ∈ pls,InW W row0 p) (row h:Int):0 ≤ edL fls pls row h:=by
  rcases edL_is fls pls row h with e | ⟨i,m,e⟩
  · omega
  · have q:=hp _ (gP_mem (mem_tIdx.mp m).2.1)
    have:=q.x0
    have:=q.w0
    omega
theorem edR_W {W row0:Int} {fls:List Fl} {pls:List Pl} (hp:∀ p ∈ pls,InW W row0 p) (row h:Int):edR W fls pls row h ≤ W:=by
  rcases edR_is W fls pls row h with e | ⟨i,m,e⟩
  · omega
  · have q:=hp _ (gP_mem (mem_tIdx.mp m).2.1)
    have:=q.xw
    have:=q.w0
    omega
theorem tou_on {W row r h:Int} {p:Pl} (q:InW W row p) (hr:row ≤ r) (hh:0 < h) (he:r < endOf p):touB p r h=true:=by
  have:=q.y
  have:=q.h0
  unfold endOf at he
  exact touB_iff.mpr ⟨by omega,by omega,he,by omega⟩
theorem tight {W:Int} {fls:List Fl} {pls:List Pl} {w h row r:Int} (hp:∀ p ∈ pls,InW W row p) (hw:w ≤ W) (hh:0 < h) (hf:edR W fls pls row h - edL fls pls row h < w) (h1:row ≤ r) (h2:r < triRow pls (nrL fls pls row h) (nrR fls pls row h)) :
    edR W fls pls r h - edL fls pls r h < w:=by
  have L:edL fls pls row h ≤ edL fls pls r h:=by
    have z0:=edL_0 (fls:=fls) hp r h
    cases e:nrL fls pls row h with
    | none =>
      have:edL fls pls row h=0:=by unfold edL; rw [e]
      omega
    | some i =>
      have m:=mem_tIdx.mp (bestR_some e).1
      have ee:edL fls pls row h=(gP pls i).x + (gP pls i).w:=by unfold edL; rw [e]
      have he:r < endOf (gP pls i):=by
        rw [e] at h2
        cases e2:nrR fls pls row h with
        | none=>rw [e2] at h2; exact h2
        | some j =>
          rw [e2] at h2
          have h3:r < (if endOf (gP pls j) < endOf (gP pls i) then endOf (gP pls j) else endOf (gP pls i)):=h2
          split at h3 <;> omega
      have:=edL_ge (mem_tIdx.mpr ⟨m.1,m.2.1,m.2.2.1,tou_on (hp _ (gP_mem m.2.1)) h1 hh he⟩)
      omega
  have R:edR W fls pls r h ≤ edR W fls pls row h:=by
    have z0:=edR_W (fls:=fls) hp r h
    cases e:nrR fls pls row h with
    | none =>
      have:edR W fls pls row h=W:=by unfold edR; rw [e]
      omega
    | some i =>
      have m:=mem_tIdx.mp (bestL_some e).1
      have ee:edR W fls pls row h=(gP pls i).x:=by unfold edR; rw [e]
      have he:r < endOf (gP pls i):=by
        rw [e] at h2
        cases e2:nrL fls pls row h with
        | none=>rw [e2] at h2; exact h2
        | some j =>
          rw [e2] at h2
          have h3:r < (if endOf (gP pls i) < endOf (gP pls j) then endOf (gP pls i) else endOf (gP pls j)):=h2
          split at h3 <;> omega
      have:=edR_le (W:=W) (mem_tIdx.mpr ⟨m.1,m.2.1,m.2.2.1,tou_on (hp _ (gP_mem m.2.1)) h1 hh he⟩)
      omega
  omega
theorem InW.mono {W row row':Int} {p:Pl} (q:InW W row p) (h:row ≤ row'):InW W row' p:=⟨q.x0,q.xw,q.w0,q.h0,Int.le_trans q.y h⟩
theorem first_fit {W:Int} {fls:List Fl} {pls:List Pl} {w h:Int} (hw:w ≤ W) (hh:0 < h):∀ (n:Nat) (row:Int),(∀ p ∈ pls,InW W row p)→cntF row pls ≤ n →
    row ≤ (papF W fls pls w h n row).2∧w ≤ edR W fls pls (papF W fls pls w h n row).2 h - edL fls pls (papF W fls pls w h n row).2 h∧∀ r,row ≤ r→r < (papF W fls pls w h n row).2→edR W fls pls r h - edL fls pls r h < w:=by
  intro n
  induction n with
  | zero =>
    intro row hp hc
    refine ⟨Int.le_refl _,?_,fun r h1 h2=>absurd h1 (by have:r < row:=h2; omega)⟩
    show w ≤ edR W fls pls row h - edL fls pls row h
    by_cases hf:edR W fls pls row h - edL fls pls row h < w
    · have:=(noFit hw hf).2.2
      omega
    · omega
  | succ n ih =>
    intro row hp hc
    by_cases hf:edR W fls pls row h - edL fls pls row h < w
    · obtain ⟨_,n2,n3⟩:=noFit hw hf
      have q:=ih (triRow pls (nrL fls pls row h) (nrR fls pls row h)) (fun p hm=>(hp p hm).mono (by omega)) (by omega)
      have e:(papF W fls pls w h (n + 1) row).2=(papF W fls pls w h n (triRow pls (nrL fls pls row h) (nrR fls pls row h))).2:=by rw [papF,if_pos hf]
      rw [e]
      refine ⟨by omega,q.2.1,fun r h1 h2=>?_⟩
      by_cases hr:r < triRow pls (nrL fls pls row h) (nrR fls pls row h)
      · exact tight hp hw hh hf h1 hr
      · exact q.2.2 r (by omega) h2
    · have e:(papF W fls pls w h (n + 1) row).2=row:=by rw [papF,if_neg hf]
      rw [e]
      exact ⟨Int.le_refl _,by omega,fun r h1 h2=>by omega⟩
def FlsOk (W:Int) (fls:List Fl):Prop:=∀ f ∈ fls,0 < f.w∧f.w ≤ W∧0 < f.h
theorem gF_mem' {fls:List Fl} {i:Nat} (h:i < fls.length):gF fls i ∈ fls:=by
  rw [gF_of (List.getElem?_eq_getElem h)]
  exact List.getElem_mem h
structure StandOk (W:Int) (fls:List Fl) (pls:List Pl) (row:Int) (st:Pl):Prop where
  nm:st.nm=(gF fls pls.length).nm
  w:st.w=(gF fls pls.length).w
  h:st.h=(gF fls pls.length).h
  ge:row ≤ st.y
  x:st.x=if (gF fls pls.length).lf=true then edL fls pls st.y (gF fls pls.length).h else edR W fls pls st.y (gF fls pls.length).h - (gF fls pls.length).w
  fit:(gF fls pls.length).w ≤ edR W fls pls st.y (gF fls pls.length).h - edL fls pls st.y (gF fls pls.length).h
  first:∀ r,row ≤ r→r < st.y→edR W fls pls r (gF fls pls.length).h - edL fls pls r (gF fls pls.length).h < (gF fls pls.length).w
theorem standF_ok {W:Int} {fls:List Fl} {pls:List Pl} {row:Int} (hF:FlsOk W fls) (hl:pls.length < fls.length) (hp:∀ p ∈ pls,InW W row p):StandOk W fls pls row (standF W fls pls row).1:=by
  obtain ⟨f1,f2,f3⟩:=hF _ (gF_mem' hl)
  obtain ⟨q1,q2,q3⟩:=first_fit (fls:=fls) (pls:=pls) f2 f3 (cntF row pls) row hp (Nat.le_refl _)
  exact ⟨rfl,rfl,rfl,q1,rfl,q2,q3⟩
theorem allF_ok {W:Int} {fls:List Fl} (hF:FlsOk W fls):∀ n,n ≤ fls.length→0 ≤ lastRow (allF W fls n).1∧∀ p ∈ (allF W fls n).1,InW W (lastRow (allF W fls n).1) p
  | 0,_=>⟨Int.le_refl _,fun p hp=>by cases hp⟩
  | n + 1,hn=>by
    obtain ⟨q0,q1⟩:=allF_ok hF n (by omega)
    have ln:=(allF_len W fls n).1
    have st:=standF_ok (row:=lastRow (allF W fls n).1) hF (by rw [ln]; omega) q1
    have e:(allF W fls (n + 1)).1=(allF W fls n).1 ++ [(standF W fls (allF W fls n).1 (lastRow (allF W fls n).1)).1]:=rfl
    rw [e,lastRow_snoc]
    generalize (standF W fls (allF W fls n).1 (lastRow (allF W fls n).1)).1=s at *
    obtain ⟨f1,f2,f3⟩:=hF _ (gF_mem' (fls:=fls) (i:=(allF W fls n).1.length) (by rw [ln]; omega))
    have z0:=edL_0 (fls:=fls) q1 s.y (gF fls (allF W fls n).1.length).h
    have z1:=edR_W (fls:=fls) q1 s.y (gF fls (allF W fls n).1.length).h
    have hfit:=st.fit
    have hx:=st.x
    have hw:=st.w
    have hh:=st.h
    have hge:=st.ge
    refine ⟨by omega,fun p hp=>?_⟩
    rcases List.mem_append.mp hp with z | z
    · exact (q1 p z).mono hge
    · rw [List.mem_singleton.mp z]
      refine ⟨?_,?_,by omega,by omega,Int.le_refl _⟩
      · rw [hx]; split <;> omega
      · rw [hx,hw]; split <;> omega
end S2
namespace S2
open PySem L2
def lawTou (row high:Int) (p:Pl):Bool:=decide (p.y < row + high) && decide (row < p.y + p.h)
theorem gP_snoc_lt {pls:List Pl} {s:Pl} {i:Nat} (h:i < pls.length):gP (pls ++ [s]) i=gP pls i:=by
  rw [gP_of (List.getElem?_eq_getElem h),gP_of (p:=pls[i]) (by rw [List.getElem?_append_left h,List.getElem?_eq_getElem h])]
theorem gP_snoc_eq {pls:List Pl} {s:Pl}:gP (pls ++ [s]) pls.length=s:=gP_of (by rw [List.getElem?_append_right (Nat.le_refl _),Nat.sub_self]; rfl)
theorem lawTou_eq {W row0 row high:Int} {p:Pl} (q:InW W row0 p) (hh:0 < high):lawTou row high p=touB p row high:=by
  have:=q.h0
  rw [Bool.eq_iff_iff,touB_iff]
  unfold lawTou
  rw [Bool.and_eq_true,decide_eq_true_iff,decide_eq_true_iff]
  constructor
  · intro ⟨a,b⟩; exact ⟨by omega,a,b,by omega⟩
  · intro ⟨a,b,c,d⟩; exact ⟨b,c⟩
end S2
namespace L2
open PySem PySem.Spec PyProof.Rows
section
variable {X:Cx} {tg:Expr}
end
end L2
namespace L2
open PySem
namespace KpD
variable {α β:Type}
end KpD
end L2
namespace L2
open PySem
section
variable {prog:Program} {w:World} {A:Around} {E:Value→Shared→Prop} {h:Heap} {g:Array GenState} {d:Drawn} {t:Nat} {os:OsState}
variable {nm q:Str} {C N f:Addr} {bs bm bmB:List Value} {hdct:Bool} {sn:List Str} {sub:List Value} {ab:Bool} {col:Option Bool} {dd:Option Addr} {k0 k1 k2 k3 k5:Option Value} {B Bn newId nid initId inN:String} {bmN:List Value} {mN:Str→Option Value}
end
end L2
namespace L2
open PySem PySem.W PyProof.Rows Builtin Builtin.ObjectAttr
section
variable {prog:Program} {w:World} {A:Around} {K:Frag} {C x:Addr} {s:Shared} {R:Result→Shared→Prop}
end
end L2
namespace L2
open PySem PySem.W PyProof.Rows Builtin Builtin.ObjectAttr
section
variable {prog:Program} {w:World} {A:Around} {E:Value→Shared→Prop} {s:Shared} {K:Frag} {x C:Addr} {ox:Obj} {od:Option Obj} {name:Str} {expr:Bool} {Q:Value→Shared→Prop}
end
end L2
namespace L2
open PySem PySem.W PyProof.Rows Builtin Builtin.ObjectAttr
section
variable {prog:Program} {w:World} {A:Around} {E:Value→Shared→Prop} {s:Shared} {K:Frag} {x C:Addr} {ox:Obj} {od:Option Obj} {Q:Option Value→Shared→Prop}
end
end L2
namespace L2
open PySem PySem.W PyProof.Rows Builtin Builtin.ObjectAttr
section
variable {M:Model} {A:Around} {E:Value→Shared→Prop} {s:Shared} {K:Frag} {e C D:Addr} {oe:Obj} {b:Bool} {Q:Bool→Shared→Prop}
end
end L2
namespace L2
open PySem PySem.Spec PyProof.Rows
section
variable {P:Program} {w:World} {K:PySem.W.Frag} {mg:Str→Option Value} {base:Heap} {N:List Str} {qual:Str} {scope:Scope} {f:Addr} {cd:Value} {A:Around} {outer:List Env} {s:Shared} {H:Hp} {E:XK}
end
section
variable {P:Program} {w:World} {K:PySem.W.Frag} {mg:Str→Option Value} {base:Heap} {N:List Str} {qual:Str} {scope:Scope} {f:Addr} {cd:Value} {A:Around} {outer:List Env} {s:Shared} {H:Hp} {E:XK}
end
end L2
namespace L2
open PySem PySem.Spec PyProof.Rows
section
variable {P:Program} {w:World} {K:PySem.W.Frag} {mg:Str→Option Value} {base:Heap} {N:List Str} {qual:Str} {scope:Scope} {f:Addr} {cd:Value} {A:Around} {outer:List Env} {s₀:Shared} {H₀:Hp} {E:XK}
  {C fI:Addr} {dI:FuncData} {ps:List Str} {sp:Sp} {k:Nat} {x:Str} {np cpos pos:Pos} {e:Expr} {es:List Expr} {t:TA}
end
section
variable {X:Cx} {o value:Expr} {fl:Str} {pos pos':Pos} {ta tv:TE}
end
section
variable {X:Cx} {e:Expr} {fl:Str} {pos:Pos} {ta:TE}
end
end L2
namespace L2
open PySem PySem.Spec PyProof.Rows
section
variable {X:Cx} {pins:List (Addr × Obj)} {σ:St} {H:Hp} {s:Shared}
end
section
variable {X:Cx} {k:Nat} {f C1 C2:Addr} {fd:FuncData} {ps:List Str} {sp:Sp} {x y n c1 c2:Str} {p yp pos apos np1 np2 hp1 hp2 tpos:Pos} {e:Expr} {es:List Expr} {t:TA} {T1 T2:TS} {b1 b2:Stmt} {su1 su2:List Stmt} {iy i:Nat}
end
end L2
namespace L2
open PySem PySem.Spec PyProof.Rows
section
variable {X:Cx} {C1:Addr} {n c1:Str} {np1 hp1 tpos:Pos} {tb:XK→TS} {T1:TS} {b1:Stmt} {su1 body:List Stmt} {i:Nat}
end
section
variable {X:Cx} {tg:Expr}
end
section
variable {X:Cx}
end
end L2
namespace B69
open PySem L2 S2
def top (i:Nat):Stmt:=PySem.Challenge.pw_boxgalley_k69_what_the_checker_lets_by.main.body.getD i (.Pass ⟨0,0,0,0⟩)
abbrev sTou:Stmt:=top 4
abbrev sTouching:Stmt:=top 5
abbrev sLEnd:Stmt:=top 6
abbrev sREnd:Stmt:=top 7
abbrev sNear:Stmt:=top 8
abbrev sEdges:Stmt:=top 9
abbrev sAcross:Stmt:=top 10
abbrev sTriple:Stmt:=top 11
abbrev sStand:Stmt:=top 12
abbrev sStandAll:Stmt:=top 13
abbrev sWhole:Stmt:=top 15
abbrev sTupOf:Stmt:=top 16
abbrev sLstOf:Stmt:=top 17
abbrev sPlaced:Stmt:=top 19
abbrev sIsTri:Stmt:=top 20
abbrev sPaper:Stmt:=top 21
abbrev sWay:Stmt:=top 22
abbrev sCant:Stmt:=top 23
abbrev sStands:Stmt:=top 24
abbrev sStood:Stmt:=top 25
abbrev sCell:Stmt:=top 27
abbrev sNumbers:Stmt:=top 28
abbrev sLNames:Stmt:=top 29
abbrev sLFloats:Stmt:=top 30
abbrev sLTouch:Stmt:=top 31
abbrev sLEdges:Stmt:=top 32
abbrev sLWhole:Stmt:=top 33
abbrev sLStands:Stmt:=top 34
abbrev sLBars:Stmt:=top 35
abbrev sLShows:Stmt:=top 36
abbrev sLDue:Stmt:=top 37
abbrev sLPlace:Stmt:=top 38
abbrev sLPaper:Stmt:=top 39
abbrev sLCut:Stmt:=top 40
abbrev sLaw:Stmt:=top 41
structure Names (mg:Str→Option Value):Prop where
  len:mg "len"=none
  max:mg "max"=none
  min:mg "min"=none
  zip:mg "zip"=none
  list:mg "list"=none
  tuple:mg "tuple"=none
  int:mg "int"=none
  inst:mg "isinstance"=none
  enum:mg "enumerate"=none
  range:mg "range"=none
  all:mg "all"=none
  str:mg "str"=none
  bool:mg "bool"=none
theorem asg_join {te:TE} {g:TG} {D:Ends} {σ:St} {H:Hp} (v:V) (ht:∀ Q',(∀ H',Same H H'→Q' v H')→te σ H Q') (h:∀ H',Same H H'→g v σ H' D.nx):tAsg te g D σ H:=ht _ h
theorem rmaxK_of {K:PySem.W.Frag} {f:Addr} {sp:Sp} {H:Hp} {Q:VK} {l:Addr} {as:List Addr} {kf:Nat→Int} (hS:SqL K H l (as.map V.ref)) (hk:KeyOk sp H as kf)
    (v:V) (hv:v=match as[argBest (fun i j=>decide (kf i > kf j)) (as.length - 1)]? with | none=>.non | some a=>.ref a) (h:∀ H',Same H H'→Q v H'):rmaxK K f sp [.ref l] [.ref f,.non] H Q:=by
  subst hv
  refine ⟨l,as,kf,rfl,rfl,hS,hk,fun e H' s'=>?_,fun a H' e s'=>?_⟩
  · subst e
    exact h H' s'
  · have:=h H' s'
    rw [e] at this
    exact this
theorem rminK_of {K:PySem.W.Frag} {f:Addr} {sp:Sp} {H:Hp} {Q:VK} {l:Addr} {as:List Addr} {kf:Nat→Int} (hS:SqL K H l (as.map V.ref)) (hk:KeyOk sp H as kf)
    (v:V) (hv:v=match as[argBest (fun i j=>decide (kf i < kf j)) (as.length - 1)]? with | none=>.non | some a=>.ref a) (h:∀ H',Same H H'→Q v H'):rminK K f sp [.ref l] [.ref f,.non] H Q:=by
  subst hv
  refine ⟨l,as,kf,rfl,rfl,hS,hk,fun e H' s'=>?_,fun a H' e s'=>?_⟩
  · subst e
    exact h H' s'
  · have:=h H' s'
    rw [e] at this
    exact this
theorem pg_twoK {X:Cx} {K:PySem.W.Frag} (hK:X.K=K) {x y:Str} {px py pt:Pos} {kk:Nat} (hc:X.calm=true) (hN:X.N.Nodup) (h0:X.N[0]?=some x) (h1:X.N[1]?=some y) (hx:X.env.scope.names.lookup x=some .local) (hy:X.env.scope.names.lookup y=some .local)
    (ha:(assignEach [.Name x px,.Name y py] X.env).map (·.2)=[assign (.Name x px) X.env,assign (.Name y py) X.env]:=by rfl) (hb:(assignEach [.Name y py] X.env).map (·.2)=[assign (.Name y py) X.env]:=by rfl)
    (hn:(assignEach [.Name x px,.Name y py] X.env).length=2:=by rfl) (hst:(assignEach [.Name x px,.Name y py] X.env).findIdx? (·.1)=none:=by rfl):PG X (.Tuple [.Name x px,.Name y py] kk pt) (gTwo K):=by
  subst hK
  exact pg_tup hc (pgs_cons (pg_name hN h0 (.inl hx) (.inr hx)) (pgs_cons (pg_name hN h1 (.inl hy) (.inr hy)) pgs_nil (by rw [hb]; rfl)) (by rw [ha,hb])) hn hst
def FlAt (H:Hp) (a:Addr) (fa:List Addr) (fls:List Fl):Prop:=H a=some (.lst (fa.map V.ref))∧RowsOf H fa (fls.map flRow)∧fls.length ≤ 100
def PlAt (H:Hp) (b:Addr) (pa:List Addr) (pls:List Pl):Prop:=H b=some (.lst (pa.map V.ref))∧RowsOf H pa (pls.map plRow)∧pls.length ≤ 100
theorem FlAt.same {H H2:Hp} {a:Addr} {fa:List Addr} {fls:List Fl} (h:FlAt H a fa fls) (s:Same H H2):FlAt H2 a fa fls:=⟨s _ _ h.1,h.2.1.same s,h.2.2⟩
theorem PlAt.same {H H2:Hp} {a:Addr} {fa:List Addr} {fls:List Pl} (h:PlAt H a fa fls) (s:Same H H2):PlAt H2 a fa fls:=⟨s _ _ h.1,h.2.1.same s,h.2.2⟩
theorem row_map {α:Type} {f:α→List V} {xs:List α} {i:Nat} {r:List V} (h:(xs.map f)[i]?=some r):∃ x,xs[i]?=some x∧r=f x:=by
  rw [List.getElem?_map] at h
  cases e:xs[i]? with
  | none=>rw [e] at h; cases h
  | some x=>rw [e] at h; exact ⟨x,rfl,(Option.some.inj h).symm⟩
theorem PlAt.get {H:Hp} {b:Addr} {pa:List Addr} {pls:List Pl} (h:PlAt H b pa pls) {i:Nat} (hi:i < pls.length):pa[i]?=some (pa.getD i 0)∧H (pa.getD i 0)=some (.tup (plRow (gP pls i))):=by
  have hl:pa.length=pls.length:=by rw [h.2.1.1,List.length_map]
  have e1:pa[i]?=some (pa.getD i 0):=by
    rw [List.getD_eq_getElem?_getD,List.getElem?_eq_getElem (by omega)]
    rfl
  refine ⟨e1,h.2.1.2 i _ _ e1 ?_⟩
  rw [List.getElem?_map,List.getElem?_eq_getElem hi]
  rw [gP_of (List.getElem?_eq_getElem hi)]
  rfl
def spTou:Sp:=fun vs H Q _=>∃ (a:Addr) (p:Pl) (row high:Int),vs=[.ref a,.int row,.int high]∧H a=some (.tup (plRow p))∧Q (.bl (touB p row high)) H
def spTouching:Sp:=fun vs H Q _=>∃ (a b:Addr) (fa pa:List Addr) (fls:List Fl) (pls:List Pl) (sd:Bool) (row high:Int),vs=[.ref a,.ref b,.str (sideOf sd),.int row,.int high]∧FlAt H a fa fls∧PlAt H b pa pls ∧
  ∀ D H',H D=none→Same H H'→H' D=some (.lst ((tIdx fls pls sd row high).map fun i=>V.ref (pa.getD i 0)))→Q (.ref D) H'
def spLEnd:Sp:=fun vs H Q _=>∃ (a:Addr) (p:Pl),vs=[.ref a]∧H a=some (.tup (plRow p))∧Q (.int p.x) H
def spREnd:Sp:=fun vs H Q _=>∃ (a:Addr) (p:Pl),vs=[.ref a]∧H a=some (.tup (plRow p))∧Q (.int (p.x + p.w)) H
def spNear:Sp:=fun vs H Q _=>∃ (a b:Addr) (fa pa:List Addr) (fls:List Fl) (pls:List Pl) (row high:Int),vs=[.ref a,.ref b,.int row,.int high]∧FlAt H a fa fls∧PlAt H b pa pls ∧
  ∀ t H',H t=none→Same H H'→H' t=some (.tup [optV pa (nrL fls pls row high),optV pa (nrR fls pls row high)])→Q (.ref t) H'
def spEdges:Sp:=fun vs H Q _=>∃ (a b:Addr) (fa pa:List Addr) (fls:List Fl) (pls:List Pl) (W row high:Int),vs=[.int W,.ref a,.ref b,.int row,.int high]∧FlAt H a fa fls∧PlAt H b pa pls ∧
  ∀ t H',H t=none→Same H H'→H' t=some (.tup [.int (edL fls pls row high),.int (edR W fls pls row high)])→Q (.ref t) H'
section
variable {P:Program} {w:World} {K:PySem.W.Frag} {mg:Str→Option Value} {base:Heap}
theorem scTou:FnScope ["placed","row","high"] ["placed","row","high"] (defScope sTou):=⟨rfl,rfl,rfl,by decide +kernel,rfl,by decide +kernel,by decide +kernel⟩
theorem ok_tou {f:Addr} {fd:FuncData} (F:Fun K "touches" "touches" sTou f fd) (N:Names mg):FnOk P w K mg base CX0 1 f fd ["placed","row","high"] spTou:=by
  refine F.ok scTou (fun vs H Q E h=>?_) (fun cdv A outer s H vs Q E hr h=>?_)
  · obtain ⟨a,p,row,high,e,_⟩:=h
    rw [e]
    rfl
  · obtain ⟨a,p,row,high,e,ha,k⟩:=h
    subst e
    refine ⟨_,pss_one (ps_ret (pe_cmpR op_lt (pe_callB (call_max2 rfl) (by rfl) N.max PyProof.Rows.boot_max (pa_cons (pe_ix ix_tup (pv 0) pe_int (fun _ _=>rfl)) (pa_cons (pv 1) pa_nil)))
      (pe_callB (call_min2 rfl) (by rfl) N.min PyProof.Rows.boot_min (pa_cons (pe_op op_add (pe_ix ix_tup (pv 0) pe_int (fun _ _=>rfl)) (pe_ix ix_tup (pv 0) pe_int (fun _ _=>rfl))) (pa_cons (pe_op op_add (pv 1) (pv 2)) pa_nil))) (nomark _))),?_⟩
    refine ⟨_,rfl,a,_,_,_,rfl,rfl,SqT.of ha,atI_nat (j:=2) rfl,_,rfl,_,_,rfl,?_⟩
    refine ⟨_,rfl,a,_,_,_,rfl,rfl,SqT.of ha,atI_nat (j:=2) rfl,_,rfl,a,_,_,_,rfl,rfl,SqT.of ha,atI_nat (j:=4) rfl,_,_,rfl,rfl,_,rfl,_,rfl,_,_,rfl,rfl,_,_,rfl,_,_,rfl,rfl,?_⟩
    exact k
theorem scLEnd:FnScope ["placed"] ["placed"] (defScope sLEnd):=⟨rfl,rfl,rfl,by decide +kernel,rfl,by decide +kernel,by decide +kernel⟩
theorem ok_lend {f:Addr} {fd:FuncData} (F:Fun K "left_end" "left_end" sLEnd f fd):FnOk P w K mg base CX0 1 f fd ["placed"] spLEnd:=by
  refine F.ok scLEnd (fun vs H Q E h=>?_) (fun cdv A outer s H vs Q E hr h=>?_)
  · obtain ⟨a,p,e,_⟩:=h
    rw [e]
    rfl
  · obtain ⟨a,p,e,ha,k⟩:=h
    subst e
    refine ⟨_,pss_one (ps_ret (pe_ix ix_tup (pv 0) pe_int (fun _ _=>rfl))),?_⟩
    exact ⟨_,rfl,a,_,_,_,rfl,rfl,SqT.of ha,atI_nat (j:=1) rfl,k⟩
theorem scREnd:FnScope ["placed"] ["placed"] (defScope sREnd):=⟨rfl,rfl,rfl,by decide +kernel,rfl,by decide +kernel,by decide +kernel⟩
theorem ok_rend {f:Addr} {fd:FuncData} (F:Fun K "right_end" "right_end" sREnd f fd):FnOk P w K mg base CX0 1 f fd ["placed"] spREnd:=by
  refine F.ok scREnd (fun vs H Q E h=>?_) (fun cdv A outer s H vs Q E hr h=>?_)
  · obtain ⟨a,p,e,_⟩:=h
    rw [e]
    rfl
  · obtain ⟨a,p,e,ha,k⟩:=h
    subst e
    refine ⟨_,pss_one (ps_ret (pe_op op_add (pe_ix ix_tup (pv 0) pe_int (fun _ _=>rfl)) (pe_ix ix_tup (pv 0) pe_int (fun _ _=>rfl)))),?_⟩
    exact ⟨_,rfl,a,_,_,_,rfl,rfl,SqT.of ha,atI_nat (j:=1) rfl,_,rfl,a,_,_,_,rfl,rfl,SqT.of ha,atI_nat (j:=3) rfl,_,_,rfl,rfl,k⟩
abbrev nTouching:List Str:=["floats","standing","side","row","high"]
theorem scTouching:FnScope nTouching nTouching (defScope sTouching):=⟨rfl,rfl,rfl,by decide +kernel,rfl,by decide +kernel,by decide +kernel⟩
theorem ndTouching:(["thing","placed","floats","standing","side","row","high"]:List Str).Nodup:=by decide +kernel
set_option maxHeartbeats 2000000 in
theorem ok_touching {f f1:Addr} {fd d1:FuncData} (F:Fun K "touching" "touching" sTouching f fd) (N:Names mg) (G1:FnOk P w K mg base CX0 1 f1 d1 ["placed","row","high"] spTou) (b1:Binds K d1 ["placed","row","high"] []) (m1:mg "touches"=some (.ref f1)) (k1:PySem.W.keepIn K (.ref f1)=true) :
    FnOk P w K mg base CX0 2 f fd nTouching spTouching:=by
  refine F.ok scTouching (fun vs H Q E h=>?_) (fun cdv A outer s H vs Q E hr h=>?_)
  · obtain ⟨a,b,fa,pa,fls,pls,sd,row,high,e,_⟩:=h
    rw [e]
    rfl
  · obtain ⟨a,b,fa,pa,fls,pls,sd,row,high,e,hF,hP,k⟩:=h
    subst e
    refine ⟨_,pss_one (ps_ret (pe_compN (k:=2) (N':=["thing","placed","floats","standing","side","row","high"]) (compScN_mk (fs:=defScope sTouching) (N:=nTouching) rfl rfl (by decide +kernel)) rfl
      (pi_zip rfl N.zip (pa_cons (pv 0) (pa_cons (pv 1) pa_nil))) (fun _ _ _ _ _=>pg_twoK (K:=K) rfl rfl ndTouching rfl rfl rfl rfl)
      (fun _ _ _ _ _=>pts_one (pw_and (pt_cmpR op_eq (pe_ix (r:=rIxT K) ix_tup (pv 0) pe_int (fun _ _=>rfl)) (pv 4) (nomark _)) (pw_and1 (pt_val (pe_call G1 hr (by rfl) m1 k1 b1 .nil pass0 (pa_cons (pv 1) (pa_cons (pv 5) (pa_cons (pv 6) pa_nil))))))).pt)
      (fun _ _ _ _ _=>pv 1))),?_⟩
    have lf:fa.length=fls.length:=by rw [hF.2.1.1,List.length_map]
    have lp:pa.length=pls.length:=by rw [hP.2.1.1,List.length_map]
    refine ⟨_,rfl,_,rfl,a,b,rfl,⟨_,SqL.of hF.1⟩,⟨_,SqL.of hP.1⟩,?_⟩
    refine comp_zipP (K:=K) (a:=a) (b:=b) (fun i=>decide (sideOf (gF fls i).lf=sideOf sd) && touB (gP pls i) row high) (fun i=>V.ref (pa.getD i 0)) (SqL.of hF.1) (SqL.of hP.1) (small (by rw [List.length_map,List.length_map]; have:=hF.2.2; omega)) ?_ ?_ ?_
    · intro i x y H' Q' hx hy s1 hq
      obtain ⟨p,r,rfl,ep,er,hp⟩:=hF.2.1.get hx
      obtain ⟨p2,r2,rfl,ep2,er2,hp2⟩:=hP.2.1.get hy
      obtain ⟨fl,efl,rfl⟩:=row_map er
      obtain ⟨pl,epl,rfl⟩:=row_map er2
      refine ⟨_,rfl,p,_,_,_,rfl,rfl,SqT.of (s1 _ _ hp),atI_nat (j:=1) rfl,_,rfl,rfl,_,rfl,?_⟩
      have hq0:=hq H' (Same.refl _)
      rw [gF_of efl,gP_of epl] at hq0
      refine ite2 (fun hc=>?_) (fun hc=>?_)
      · refine ⟨_,rfl,_,rfl,_,rfl,p2,pl,row,high,rfl,s1 _ _ hp2,_,rfl,?_⟩
        have e1:(sideOf fl.lf=sideOf sd):=by simpa using of_decide_eq_true hc
        rw [decide_eq_true e1,Bool.true_and] at hq0
        exact hq0
      · have e1:¬ (sideOf fl.lf=sideOf sd):=fun z=>hc (decide_eq_true (by rw [z]))
        rw [decide_eq_false e1,Bool.false_and] at hq0
        exact hq0
    · intro i x y H' Q' hc hx hy s1 hq
      obtain ⟨p2,r2,rfl,ep2,er2,hp2⟩:=hP.2.1.get hy
      have e3:pa.getD i 0=p2:=by rw [List.getD_eq_getElem?_getD,ep2]; rfl
      refine ⟨_,rfl,?_⟩
      rw [← e3]
      exact hq H' (Same.refl _)
    · intro D H' hD s1 hl
      refine k D H' hD s1 ?_
      rw [hl]
      unfold tIdx
      rw [List.length_map,List.length_map,lf,lp]
end
section
variable {P:Program} {w:World} {K:PySem.W.Frag} {mg:Str→Option Value} {base:Heap}
theorem scNear:FnScope ["floats","standing","row","high","lefts","rights"] ["floats","standing","row","high"] (defScope sNear):=⟨rfl,rfl,rfl,by decide +kernel,rfl,by decide +kernel,by decide +kernel⟩
theorem idx_map (pa:List Addr) (ix:List Nat):(ix.map fun i=>V.ref (pa.getD i 0))=(ix.map fun i=>pa.getD i 0).map V.ref:=by rw [List.map_map]; rfl
theorem keyR {H:Hp} {b:Addr} {pa:List Addr} {pls:List Pl} {ix:List Nat} (hP:PlAt H b pa pls) (hix:∀ i ∈ ix,i < pls.length):KeyOk spREnd H (ix.map fun i=>pa.getD i 0) (fun i=>(gP pls (ix.getD i 0)).x + (gP pls (ix.getD i 0)).w):=by
  intro i a H' Q e s1 hq
  rw [List.getElem?_map] at e
  cases e1:ix[i]? with
  | none=>rw [e1] at e; cases e
  | some j =>
    rw [e1] at e
    have ea:pa.getD j 0=a:=Option.some.inj e
    subst ea
    refine ⟨_,gP pls j,rfl,s1 _ _ (hP.get (hix j (List.mem_of_getElem? e1))).2,?_⟩
    have:=hq H' (Same.refl _)
    dsimp only at this
    rw [getD_of e1] at this
    exact this
theorem keyL {H:Hp} {b:Addr} {pa:List Addr} {pls:List Pl} {ix:List Nat} (hP:PlAt H b pa pls) (hix:∀ i ∈ ix,i < pls.length):KeyOk spLEnd H (ix.map fun i=>pa.getD i 0) (fun i=>(gP pls (ix.getD i 0)).x):=by
  intro i a H' Q e s1 hq
  rw [List.getElem?_map] at e
  cases e1:ix[i]? with
  | none=>rw [e1] at e; cases e
  | some j =>
    rw [e1] at e
    have ea:pa.getD j 0=a:=Option.some.inj e
    subst ea
    refine ⟨_,gP pls j,rfl,s1 _ _ (hP.get (hix j (List.mem_of_getElem? e1))).2,?_⟩
    have:=hq H' (Same.refl _)
    dsimp only at this
    rw [getD_of e1] at this
    exact this
theorem optV_eq (pa:List Addr) (ix:List Nat) (k:Nat):optV pa ix[k]?=(match (ix.map fun i=>pa.getD i 0)[k]? with | none=>V.non | some a=>.ref a):=by
  rw [List.getElem?_map]
  cases ix[k]? with
  | none=>rfl
  | some j=>rfl
set_option maxHeartbeats 2000000 in
theorem ok_near {f f1 f2 f3:Addr} {fd d1 d2 d3:FuncData} (F:Fun K "nearest" "nearest" sNear f fd) (N:Names mg) (G1:FnOk P w K mg base CX0 2 f1 d1 nTouching spTouching) (b1:Binds K d1 nTouching []) (m1:mg "touching"=some (.ref f1)) (k1:PySem.W.keepIn K (.ref f1)=true)
    (G2:FnOk P w K mg base CX0 1 f2 d2 ["placed"] spREnd) (b2:Binds K d2 ["placed"] []) (m2:mg "right_end"=some (.ref f2)) (G3:FnOk P w K mg base CX0 1 f3 d3 ["placed"] spLEnd) (b3:Binds K d3 ["placed"] []) (m3:mg "left_end"=some (.ref f3)) :
    FnOk P w K mg base CX0 3 f fd ["floats","standing","row","high"] spNear:=by
  refine F.ok scNear (fun vs H Q E h=>?_) (fun cdv A outer s H vs Q E hr h=>?_)
  · obtain ⟨a,b,fa,pa,fls,pls,row,high,e,_⟩:=h
    rw [e]
    rfl
  · obtain ⟨a,b,fa,pa,fls,pls,row,high,e,hF,hP,k⟩:=h
    subst e
    refine ⟨_,pss_cons (ps_set (i:=4) scNear.nd rfl (Or.inl rfl) (pe_call G1 hr rfl m1 k1 b1 .nil pass0 (pa_cons (pv 0) (pa_cons (pv 1) (pa_cons pe_str (pa_cons (pv 2) (pa_cons (pv 3) pa_nil)))))))
      (pss_cons (ps_set (i:=5) scNear.nd rfl (Or.inl rfl) (pe_call G1 hr rfl m1 k1 b1 .nil pass0 (pa_cons (pv 0) (pa_cons (pv 1) (pa_cons pe_str (pa_cons (pv 2) (pa_cons (pv 3) pa_nil)))))))
      (pss_one (ps_ret (pe_tup (pa_cons (pe_maxK G2 hr b2 rfl rfl N.max (pa_cons (pv 4) pa_nil) (pk_cons (pe_glob (v:=.ref f2) rfl m2 rfl) (pk_cons pe_non pk_nil))) (pa_cons (pe_minK G3 hr b3 rfl rfl N.min (pa_cons (pv 5) pa_nil) (pk_cons (pe_glob (v:=.ref f3) rfl m3 rfl) (pk_cons pe_non pk_nil))) pa_nil)))))),?_⟩
    refine ⟨_,rfl,_,rfl,_,rfl,_,rfl,a,b,fa,pa,fls,pls,true,row,high,rfl,hF,hP,fun l1 H1 hl1 s1 h1=>?_⟩
    refine ⟨_,rfl,_,rfl,_,rfl,_,rfl,a,b,fa,pa,fls,pls,false,row,high,rfl,hF.same s1,hP.same s1,fun l2 H2 hl2 s2 h2=>?_⟩
    have s12:=Same.trans s1 s2
    have h1':=s2 _ _ h1
    rw [idx_map] at h1' h2
    refine ⟨_,rfl,?_⟩
    dsimp only [tNil,tCons,tC]
    refine rmaxK_of (SqL.of h1') (keyR (hP.same s12) fun i hi=>(mem_tIdx.mp hi).2.1) (optV pa (nrL fls pls row high)) (by rw [List.length_map]; exact optV_eq _ _ _) fun H3 s3=>?_
    have s13:=Same.trans s12 s3
    refine ⟨_,rfl,?_⟩
    dsimp only [tNil,tCons,tC]
    refine rminK_of (SqL.of (s3 _ _ h2)) (keyL (hP.same s13) fun i hi=>(mem_tIdx.mp hi).2.1) (optV pa (nrR fls pls row high)) (by rw [List.length_map]; exact optV_eq _ _ _) fun H4 s4=>?_
    have s14:=Same.trans s13 s4
    refine ⟨by show 2 ≤ sizeLine; decide,fun t ht=>?_⟩
    have ft:H t=none:=same_none s14 ht
    exact k t _ ft (Same.put s14 ft) upd_same
theorem scEdges:FnScope ["W","floats","standing","row","high","near","left","right"] ["W","floats","standing","row","high"] (defScope sEdges):=⟨rfl,rfl,rfl,by decide +kernel,rfl,by decide +kernel,by decide +kernel⟩
theorem nrL_lt {fls:List Fl} {pls:List Pl} {row high:Int} {i:Nat} (h:nrL fls pls row high=some i):i < pls.length:=(mem_tIdx.mp (bestR_some h).1).2.1
theorem nrR_lt {fls:List Fl} {pls:List Pl} {row high:Int} {i:Nat} (h:nrR fls pls row high=some i):i < pls.length:=(mem_tIdx.mp (bestL_some h).1).2.1
set_option maxHeartbeats 2000000 in
theorem ok_edges {f f1 f2 f3:Addr} {fd d1 d2 d3:FuncData} (F:Fun K "edges_at" "edges_at" sEdges f fd) (G1:FnOk P w K mg base CX0 3 f1 d1 ["floats","standing","row","high"] spNear) (b1:Binds K d1 ["floats","standing","row","high"] []) (m1:mg "nearest"=some (.ref f1)) (k1:PySem.W.keepIn K (.ref f1)=true)
    (G2:FnOk P w K mg base CX0 1 f2 d2 ["placed"] spREnd) (b2:Binds K d2 ["placed"] []) (m2:mg "right_end"=some (.ref f2)) (k2:PySem.W.keepIn K (.ref f2)=true) (G3:FnOk P w K mg base CX0 1 f3 d3 ["placed"] spLEnd) (b3:Binds K d3 ["placed"] []) (m3:mg "left_end"=some (.ref f3)) (k3:PySem.W.keepIn K (.ref f3)=true) :
    FnOk P w K mg base CX0 4 f fd ["W","floats","standing","row","high"] spEdges:=by
  refine F.ok scEdges (fun vs H Q E h=>?_) (fun cdv A outer s H vs Q E hr h=>?_)
  · obtain ⟨a,b,fa,pa,fls,pls,W,row,high,e,_⟩:=h
    rw [e]
    rfl
  · obtain ⟨a,b,fa,pa,fls,pls,W,row,high,e,hF,hP,k⟩:=h
    subst e
    have hr1:=hr.mono (j:=1) (by decide)
    refine ⟨_,pss_cons (ps_set (i:=5) scEdges.nd rfl (Or.inl rfl) (pe_call G1 hr rfl m1 k1 b1 .nil pass0 (pa_cons (pv 1) (pa_cons (pv 2) (pa_cons (pv 3) (pa_cons (pv 4) pa_nil))))))
      (pss_cons (ps_set (i:=6) scEdges.nd rfl (Or.inl rfl) (pe_ifExp (pt_cmp (pc_isN (pe_ix ix_tup (pv 5) pe_int (fun _ _=>rfl)))) pe_int (pe_call G2 hr1 rfl m2 k2 b2 .nil pass0 (pa_cons (pe_ix ix_tup (pv 5) pe_int (fun _ _=>rfl)) pa_nil))))
      (pss_cons (ps_set (i:=7) scEdges.nd rfl (Or.inl rfl) (pe_ifExp (pt_cmp (pc_isN (pe_ix ix_tup (pv 5) pe_int (fun _ _=>rfl)))) (pv 0) (pe_call G3 hr1 rfl m3 k3 b3 .nil pass0 (pa_cons (pe_ix ix_tup (pv 5) pe_int (fun _ _=>rfl)) pa_nil))))
      (pss_one (ps_ret (pe_tup (pa_cons (pv 6) (pa_cons (pv 7) pa_nil))))))),?_⟩
    refine ⟨_,rfl,_,rfl,_,rfl,_,rfl,a,b,fa,pa,fls,pls,row,high,rfl,hF,hP,fun n H1 hn s1 h1=>?_⟩
    have hP1:=hP.same s1
    dsimp only [gName,tSeq]
    refine asg_join (.int (edL fls pls row high)) (fun Q' hq=>?_) (fun H2 s2=>?_)
    · refine ⟨_,rfl,n,_,_,_,rfl,rfl,SqT.of h1,atI_nat (j:=0) rfl,_,rfl,?_⟩
      cases e:nrL fls pls row high with
      | none =>
        have:=hq H1 (Same.refl _)
        unfold edL at this
        rw [e] at this
        exact this
      | some i =>
        have hp:=(hP1.get (nrL_lt e)).2
        have:=hq H1 (Same.refl _)
        unfold edL at this
        rw [e] at this h1
        exact ⟨_,rfl,n,_,_,_,rfl,rfl,SqT.of h1,atI_nat (j:=0) rfl,_,gP pls i,rfl,hp,this⟩
    have h2:=s2 _ _ h1
    have hP2:=hP1.same s2
    dsimp only [gName,tSeq]
    refine asg_join (.int (edR W fls pls row high)) (fun Q' hq=>?_) (fun H3 s3=>?_)
    · refine ⟨_,rfl,n,_,_,_,rfl,rfl,SqT.of h2,atI_nat (j:=1) rfl,_,rfl,?_⟩
      cases e:nrR fls pls row high with
      | none =>
        have:=hq H2 (Same.refl _)
        unfold edR at this
        rw [e] at this
        exact ⟨_,rfl,this⟩
      | some i =>
        have hp:=(hP2.get (nrR_lt e)).2
        have:=hq H2 (Same.refl _)
        unfold edR at this
        rw [e] at this h2
        exact ⟨_,rfl,n,_,_,_,rfl,rfl,SqT.of h2,atI_nat (j:=1) rfl,_,gP pls i,rfl,hp,this⟩
    refine ⟨_,rfl,_,rfl,by show 2 ≤ sizeLine; decide,fun t ht=>?_⟩
    have s13:=Same.trans s1 (Same.trans s2 s3)
    have ft:H t=none:=same_none s13 ht
    exact k t _ ft (Same.put s13 ft) upd_same
end
def spAcross:Sp:=fun vs H Q _=>∃ (e:Addr) (b:Bool) (w l r:Int),vs=[.str (sideOf b),.int w,.ref e]∧H e=some (.tup [.int l,.int r])∧Q (.int (if b=true then l else r - w)) H
def spTriple:Sp:=fun vs H Q _=>∃ (n b:Addr) (pa:List Addr) (pls:List Pl) (i j:Option Nat),vs=[.ref n]∧PlAt H b pa pls∧H n=some (.tup [optV pa i,optV pa j])∧(∀ k,i=some k→k < pls.length)∧(∀ k,j=some k→k < pls.length)∧(i ≠ none ∨ j ≠ none) ∧
  ∀ t H',H t=none→Same H H'→H' t=some (.tup (triV (triRow pls i j,nmOf pls i,nmOf pls j)))→Q (.ref t) H'
def spStand:Sp:=fun vs H Q _=>∃ (a b:Addr) (fa pa:List Addr) (fls:List Fl) (pls:List Pl) (W row:Int),vs=[.int W,.ref a,.ref b,.int row]∧FlAt H a fa fls∧PlAt H b pa pls∧pls.length < fls.length∧(gF fls pls.length).w ≤ W ∧
  ∀ (t tp l:Addr) (ta:List Addr) (H':Hp),H l=none→Same H H'→H' t=some (.tup [.ref tp,.ref l])→H' tp=some (.tup (plRow (standF W fls pls row).1))→H' l=some (.lst (ta.map V.ref))→RowsOf H' ta ((standF W fls pls row).2.map triV)→Q (.ref t) H'
section
variable {P:Program} {w:World} {K:PySem.W.Frag} {mg:Str→Option Value} {base:Heap}
theorem scAcross:FnScope ["side","wide","edges"] ["side","wide","edges"] (defScope sAcross):=⟨rfl,rfl,rfl,by decide +kernel,rfl,by decide +kernel,by decide +kernel⟩
theorem ok_across {f:Addr} {fd:FuncData} (F:Fun K "place_across" "place_across" sAcross f fd):FnOk P w K mg base CX0 1 f fd ["side","wide","edges"] spAcross:=by
  refine F.ok scAcross (fun vs H Q E h=>?_) (fun cdv A outer s H vs Q E hr h=>?_)
  · obtain ⟨e,b,w,l,r,e1,_⟩:=h
    rw [e1]
    rfl
  · obtain ⟨e,b,w,l,r,e1,he,k⟩:=h
    subst e1
    refine ⟨_,pss_one (ps_ret (pe_ifExp (pt_cmpR op_eq (pv 0) pe_str (nomark _)) (pe_ix ix_tup (pv 2) pe_int (fun _ _=>rfl)) (pe_op op_sub (pe_ix ix_tup (pv 2) pe_int (fun _ _=>rfl)) (pv 1)))),?_⟩
    refine ⟨_,rfl,rfl,_,rfl,?_⟩
    cases b with
    | true=>exact iteT ⟨_,rfl,e,_,_,_,rfl,rfl,SqT.of he,atI_nat (j:=0) rfl,k⟩
    | false=>exact iteF ⟨_,rfl,e,_,_,_,rfl,rfl,SqT.of he,atI_nat (j:=1) rfl,_,rfl,_,_,rfl,rfl,k⟩
theorem scTriple:FnScope ["near","ends","names"] ["near"] (defScope sTriple):=⟨rfl,rfl,rfl,by decide +kernel,rfl,by decide +kernel,by decide +kernel⟩
abbrev nTriple:List Str:=["near","ends","names"]
theorem optV_non {pa:List Addr} {i:Option Nat}:decide (optV pa i=.non)=i.isNone:=by
  cases i with
  | none=>rfl
  | some k=>rfl
set_option maxHeartbeats 4000000 in
theorem ok_triple {f:Addr} {fd:FuncData} (F:Fun K "triple_of" "triple_of" sTriple f fd) (N:Names mg):FnOk P w K mg base CX0 1 f fd ["near"] spTriple:=by
  refine F.ok scTriple (fun vs H Q E h=>?_) (fun cdv A outer s H vs Q E hr h=>?_)
  · obtain ⟨n,b,pa,pls,i,j,e,_⟩:=h
    rw [e]
    rfl
  · obtain ⟨n,b,pa,pls,i,j,e,hP,hn,hi,hj,hij,k⟩:=h
    subst e
    refine ⟨_,pss_cons (ps_setComp (i:=1) (compSc_mk (fs:=defScope sTriple) (N:=nTriple) rfl rfl (by decide +kernel)) rfl scTriple.nd rfl (Or.inl rfl) (pi_tup (pv 0)) (fun _ _ _ _ _=>pts_one (pt_cmp (pc_notN (pv 0))))
        (fun _ _ _ _ _=>pe_op op_add (pe_ix (r:=rIxT K) ix_tup (pv 0) pe_int (fun _ _=>rfl)) (pe_ix (r:=rIxT K) ix_tup (pv 0) pe_int (fun _ _=>rfl))) rfl)
      (pss_cons (ps_setComp (i:=2) (compSc_mk (fs:=defScope sTriple) (N:=nTriple) rfl rfl (by decide +kernel)) rfl scTriple.nd rfl (Or.inl rfl) (pi_tup (pv 0)) (fun _ _ _ _ _=>pts_nil)
        (fun _ _ _ _ _=>pe_ifExp (pt_cmp (pc_isN (pv 0))) pe_str (pe_ix (r:=rIxT K) ix_tup (pv 0) pe_int (fun _ _=>rfl))) rfl)
      (pss_one (ps_ret (pe_tup (pa_cons (pe_callB (call_minL rfl) (by rfl) N.min PyProof.Rows.boot_min (pa_cons (pv 1) pa_nil)) (pa_cons (pe_ix ix_list (pv 2) pe_int (fun _ _=>rfl)) (pa_cons (pe_ix ix_list (pv 2) pe_int (fun _ _=>rfl)) pa_nil))))))),?_⟩
    have op:∀ m:Nat,m < 2→[optV pa i,optV pa j][m]?=some (optV pa (if m=0 then i else j)):=fun m hm=>by
      match m,hm with
      | 0,_=>rfl
      | 1,_=>rfl
    have vd:∀ m:Nat,∀ q,(if m=0 then i else j)=some q→q < pls.length:=fun m q e=>by
      split at e
      · exact hi q e
      · exact hj q e
    have x2:∀ {m:Nat} {x:V},[optV pa i,optV pa j][m]?=some x→m < 2∧x=optV pa (if m=0 then i else j):=fun {m x} hx=>by
      have hm:m < 2:=get_lt hx
      rw [op m hm] at hx
      exact ⟨hm,(Option.some.inj hx).symm⟩
    refine ⟨_,rfl,n,rfl,⟨_,SqT.of hn⟩,?_⟩
    refine comp_tupP (K:=K) (a:=n) (fun m=>(if m=0 then i else j).isSome) (fun m=>match (if m=0 then i else j) with | none=>.int 0 | some q=>.int (endOf (gP pls q))) hn (by show 2 < sizeLine; decide) ?_ ?_ ?_
    · intro m x H' Q' hx s1 hq
      obtain ⟨hm,rfl⟩:=x2 hx
      refine ⟨_,rfl,_,rfl,?_⟩
      have:=hq H' (Same.refl _)
      rw [optV_non]
      cases e:(if m=0 then i else j) with
      | none=>rw [e] at this; exact this
      | some q=>rw [e] at this; exact this
    · intro m x H' Q' hc hx s1 hq
      obtain ⟨hm,rfl⟩:=x2 hx
      have:=hq H' (Same.refl _)
      cases e:(if m=0 then i else j) with
      | none=>rw [e] at hc; cases hc
      | some q =>
        have hp:=s1 _ _ (hP.get (vd m q e)).2
        rw [e] at this
        exact ⟨_,rfl,_,_,_,_,rfl,rfl,SqT.of hp,atI_nat (j:=2) rfl,_,rfl,_,_,_,_,rfl,rfl,SqT.of hp,atI_nat (j:=4) rfl,_,_,rfl,rfl,this⟩
    intro le H1 hle s1 h1
    have hn1:=s1 _ _ hn
    refine ⟨_,rfl,n,rfl,⟨_,SqT.of hn1⟩,?_⟩
    refine comp_tupP (K:=K) (a:=n) (fun m=>true) (fun m=>V.str (nmOf pls (if m=0 then i else j))) hn1 (by show 2 < sizeLine; decide) (fun m x H' Q' hx s2 hq=>hq H' (Same.refl _)) ?_ ?_
    · intro m x H' Q' hc hx s2 hq
      obtain ⟨hm,rfl⟩:=x2 hx
      have:=hq H' (Same.refl _)
      refine ⟨_,rfl,_,rfl,?_⟩
      rw [optV_non]
      cases e:(if m=0 then i else j) with
      | none=>rw [e] at this; exact this
      | some q =>
        have hp:=s2 _ _ (s1 _ _ (hP.get (vd m q e)).2)
        rw [e] at this
        exact ⟨_,rfl,_,_,_,_,rfl,rfl,SqT.of hp,atI_nat (j:=0) rfl,this⟩
    intro ln H2 hln s2 h2
    have h1':=s2 _ _ h1
    have s12:=Same.trans s1 s2
    obtain ⟨ns,ens,hne,hall⟩:∃ ns:List Int,(((List.range [optV pa i,optV pa j].length).filter fun m=>(if m=0 then i else j).isSome).map fun m=>(match (if m=0 then i else j) with | none=>V.int 0 | some q=>V.int (endOf (gP pls q))))=ns.map V.int∧0 < ns.length ∧
        ∀ M,M ∈ ns→(∀ c ∈ ns,M ≤ c)→M=triRow pls i j:=by
      cases i with
      | none =>
        cases j with
        | none=>exact absurd rfl (hij.elim (fun z=>z) fun z=>z)
        | some q=>exact ⟨[endOf (gP pls q)],rfl,by show 0 < 1; decide,fun M hM _=>List.mem_singleton.mp hM⟩
      | some p =>
        cases j with
        | none=>exact ⟨[endOf (gP pls p)],rfl,by show 0 < 1; decide,fun M hM _=>List.mem_singleton.mp hM⟩
        | some q =>
          refine ⟨[endOf (gP pls p),endOf (gP pls q)],rfl,by show 0 < 2; decide,fun M hM hb=>?_⟩
          have b1:=hb _ (List.mem_cons_self ..)
          have b2:=hb (endOf (gP pls q)) (by simp)
          show M=(if endOf (gP pls q) < endOf (gP pls p) then endOf (gP pls q) else endOf (gP pls p))
          rcases List.mem_cons.mp hM with z | z
          · subst z
            split <;> omega
          · have z:M=endOf (gP pls q):=by simpa using z
            subst z
            split <;> omega
    rw [ens] at h1'
    refine ⟨_,rfl,le,ns,rfl,SqL.of h1',hne,fun M hM hb=>?_⟩
    have eM:=hall M hM hb
    subst eM
    refine ⟨_,rfl,ln,_,_,_,rfl,rfl,SqL.of h2,atI_nat (j:=0) rfl,_,rfl,ln,_,_,_,rfl,rfl,SqL.of h2,atI_nat (j:=1) rfl,(by show 3 ≤ sizeLine; decide),fun t ht=>?_⟩
    have ft:H t=none:=same_none s12 ht
    exact k t _ ft (Same.put s12 ft) upd_same
end
end B69
namespace B69
open PySem L2 S2
theorem scStand:FnScope ["W","floats","standing","row","thing","wide","high","paper","edges"] ["W","floats","standing","row"] (defScope sStand):=⟨rfl,rfl,rfl,by decide +kernel,rfl,by decide +kernel,by decide +kernel⟩
theorem FlAt.get {H:Hp} {b:Addr} {fa:List Addr} {fls:List Fl} (h:FlAt H b fa fls) {i:Nat} (hi:i < fls.length):fa[i]?=some (fa.getD i 0)∧H (fa.getD i 0)=some (.tup (flRow (gF fls i))):=by
  have hl:fa.length=fls.length:=by rw [h.2.1.1,List.length_map]
  have e1:fa[i]?=some (fa.getD i 0):=by
    rw [List.getD_eq_getElem?_getD,List.getElem?_eq_getElem (by omega)]
    rfl
  refine ⟨e1,h.2.1.2 i _ _ e1 ?_⟩
  rw [List.getElem?_map,List.getElem?_eq_getElem hi,gF_of (List.getElem?_eq_getElem hi)]
  rfl
theorem papF_fit {W:Int} {fls:List Fl} {pls:List Pl} {w h:Int} {n:Nat} {row:Int} (hf:¬ (edR W fls pls row h - edL fls pls row h < w)):papF W fls pls w h n row=([],row):=by
  cases n with
  | zero=>rfl
  | succ n=>unfold papF; rw [if_neg hf]
theorem papF_no {W:Int} {fls:List Fl} {pls:List Pl} {w h:Int} {n:Nat} {row:Int} (hf:edR W fls pls row h - edL fls pls row h < w) :
    papF W fls pls w h (n + 1) row=((triRow pls (nrL fls pls row h) (nrR fls pls row h),nmOf pls (nrL fls pls row h),nmOf pls (nrR fls pls row h)) :: (papF W fls pls w h n (triRow pls (nrL fls pls row h) (nrR fls pls row h))).1,
        (papF W fls pls w h n (triRow pls (nrL fls pls row h) (nrR fls pls row h))).2):=by
  rw [papF,if_pos hf]
section
variable {P:Program} {w:World} {K:PySem.W.Frag} {mg:Str→Option Value} {base:Heap}
set_option maxHeartbeats 4000000 in
theorem ok_stand {f f1 f2 f3 f4:Addr} {fd d1 d2 d3 d4:FuncData} (F:Fun K "stand_float" "stand_float" sStand f fd) (N:Names mg)
    (G1:FnOk P w K mg base CX0 4 f1 d1 ["W","floats","standing","row","high"] spEdges) (b1:Binds K d1 ["W","floats","standing","row","high"] []) (m1:mg "edges_at"=some (.ref f1)) (k1:PySem.W.keepIn K (.ref f1)=true)
    (G2:FnOk P w K mg base CX0 3 f2 d2 ["floats","standing","row","high"] spNear) (b2:Binds K d2 ["floats","standing","row","high"] []) (m2:mg "nearest"=some (.ref f2)) (k2:PySem.W.keepIn K (.ref f2)=true)
    (G3:FnOk P w K mg base CX0 1 f3 d3 ["near"] spTriple) (b3:Binds K d3 ["near"] []) (m3:mg "triple_of"=some (.ref f3)) (k3:PySem.W.keepIn K (.ref f3)=true)
    (G4:FnOk P w K mg base CX0 1 f4 d4 ["side","wide","edges"] spAcross) (b4:Binds K d4 ["side","wide","edges"] []) (m4:mg "place_across"=some (.ref f4)) (k4:PySem.W.keepIn K (.ref f4)=true) :
    FnOk P w K mg base CX0 5 f fd ["W","floats","standing","row"] spStand:=by
  refine F.ok scStand (fun vs H Q E h=>?_) (fun cdv A outer s H vs Q E hr h=>?_)
  · obtain ⟨a,b,fa,pa,fls,pls,W,row,e,_⟩:=h
    rw [e]
    rfl
  · obtain ⟨a,b,fa,pa,fls,pls,W,row,e,hF,hP,hlt,hw,k⟩:=h
    subst e
    have hr3:=hr.mono (j:=3) (by decide)
    have hr1:=hr.mono (j:=1) (by decide)
    have lp:pa.length=pls.length:=by rw [hP.2.1.1,List.length_map]
    refine ⟨_,pss_cons (ps_set (i:=4) scStand.nd rfl (Or.inl rfl) (pe_ix ix_list (pv 1) (pe_callB call_len_seq (by rfl) N.len PySem.boot_len (pa_cons (pv 2) pa_nil)) (fun _ _=>rfl)))
      (pss_cons (ps_set (i:=5) scStand.nd rfl (Or.inl rfl) (pe_ix ix_tup (pv 4) pe_int (fun _ _=>rfl)))
      (pss_cons (ps_set (i:=6) scStand.nd rfl (Or.inl rfl) (pe_ix ix_tup (pv 4) pe_int (fun _ _=>rfl)))
      (pss_cons (ps_set (i:=7) scStand.nd rfl (Or.inl rfl) (pe_lst pa_nil))
      (pss_cons (ps_set (i:=8) scStand.nd rfl (Or.inl rfl) (pe_call G1 hr rfl m1 k1 b1 .nil pass0 (pa_cons (pv 0) (pa_cons (pv 1) (pa_cons (pv 2) (pa_cons (pv 3) (pa_cons (pv 6) pa_nil)))))))
      (pss_cons (ps_while PassesOwn.never (pt_cmpR op_lt (pe_op op_sub (pe_ix ix_tup (pv 8) pe_int (fun _ _=>rfl)) (pe_ix ix_tup (pv 8) pe_int (fun _ _=>rfl))) (pv 5) (nomark _))
        (pss_cons (ps_expr (pe_bm PySem.F.plainAttrs_list PySem.F.slot_list_append PySem.F.type_list_append mt_append (pv 7) (pa_cons (pe_call G3 hr1 rfl m3 k3 b3 .nil pass0 (pa_cons (pe_call G2 hr3 rfl m2 k2 b2 .nil pass0 (pa_cons (pv 1) (pa_cons (pv 2) (pa_cons (pv 3) (pa_cons (pv 6) pa_nil))))) pa_nil)) pa_nil)))
        (pss_cons (ps_set (i:=3) scStand.nd rfl (Or.inl rfl) (pe_ix ix_tup (pe_ix ix_list (pv 7) (pe_un un_neg pe_int) (fun _ _=>rfl)) pe_int (fun _ _=>rfl)))
        (pss_one (ps_set (i:=8) scStand.nd rfl (Or.inl rfl) (pe_call G1 hr rfl m1 k1 b1 .nil pass0 (pa_cons (pv 0) (pa_cons (pv 1) (pa_cons (pv 2) (pa_cons (pv 3) (pa_cons (pv 6) pa_nil)))))))))))
      (pss_one (ps_ret (pe_tup (pa_cons (pe_tup (pa_cons (pe_ix ix_tup (pv 4) pe_int (fun _ _=>rfl)) (pa_cons (pe_call G4 hr1 rfl m4 k4 b4 .nil pass0 (pa_cons (pe_ix ix_tup (pv 4) pe_int (fun _ _=>rfl)) (pa_cons (pv 5) (pa_cons (pv 8) pa_nil)))) (pa_cons (pv 3) (pa_cons (pv 5) (pa_cons (pv 6) pa_nil)))))) (pa_cons (pv 7) pa_nil)))))))))),?_⟩
    obtain ⟨ef,hft⟩:=hF.get hlt
    refine ⟨_,rfl,_,rfl,b,_,rfl,.inl (SqL.of hP.1),a,_,_,_,rfl,rfl,SqL.of hF.1,atI_of (j:=pls.length) (by rw [List.length_map,lp]) (by rw [List.getElem?_map,ef]; rfl),?_⟩
    generalize hfl:gF fls pls.length=fl at *
    generalize fa.getD pls.length 0=g at *
    refine ⟨_,rfl,g,_,_,_,rfl,rfl,SqT.of hft,atI_nat (j:=2) rfl,?_⟩
    refine ⟨_,rfl,g,_,_,_,rfl,rfl,SqT.of hft,atI_nat (j:=3) rfl,?_⟩
    refine ⟨smallE (by simp),fun l hl=>?_⟩
    have s1:Same H (upd H l (.lst [])):=Same.put (Same.refl H) hl
    have h1:(upd H l (.lst [])) l=some (.lst []):=upd_same
    generalize upd H l (.lst [])=H1 at *
    refine ⟨_,rfl,_,rfl,_,rfl,_,rfl,_,rfl,a,b,fa,pa,fls,pls,W,row,fl.h,rfl,hF.same s1,hP.same s1,fun e0 H2 he0 s2 h2=>?_⟩
    have s12:=Same.trans s1 s2
    have hl2:=s2 _ _ h1
    generalize hq0:papF W fls pls fl.w fl.h (cntF row pls) row=q0 at *
    have eS1:(standF W fls pls row).1=⟨fl.nm,if fl.lf=true then edL fls pls q0.2 fl.h else edR W fls pls q0.2 fl.h - fl.w,q0.2,fl.w,fl.h⟩:=by
      unfold standF
      rw [hfl,hq0]
    have eS2:(standF W fls pls row).2=q0.1:=by
      unfold standF
      rw [hfl,hq0]
    refine ⟨fun m' σ H3=>∃ (r:Int) (e:Addr) (ts:List Tri) (ta:List Addr),σ=[some (.int W),some (.ref a),some (.ref b),some (.int r),some (.ref g),some (.int fl.w),some (.int fl.h),some (.ref l),some (.ref e)]∧Same H H3∧H3 e=some (.tup [.int (edL fls pls r fl.h),.int (edR W fls pls r fl.h)]) ∧
      H3 l=some (.lst (ta.map V.ref))∧RowsOf H3 ta (ts.map triV)∧cntF r pls ≤ m'∧ts ++ (papF W fls pls fl.w fl.h m' r).1=q0.1∧(papF W fls pls fl.w fl.h m' r).2=q0.2∧ts.length + m' ≤ cntF row pls,
      ⟨cntF row pls,row,e0,[],[],rfl,s12,h2,hl2,RowsOf.nil,Nat.le_refl _,by rw [hq0]; rfl,by rw [hq0],by simp⟩,?_⟩
    rintro m' σ H3 ⟨r,e,ts,ta,rfl,s3,he,hl3,hta,hbot,hts,hfin,hlen⟩
    refine ⟨_,rfl,e,_,_,_,rfl,rfl,SqT.of he,atI_nat (j:=1) rfl,_,rfl,e,_,_,_,rfl,rfl,SqT.of he,atI_nat (j:=0) rfl,_,_,rfl,rfl,_,rfl,_,_,rfl,rfl,_,rfl,?_⟩
    have lta:ta.length=ts.length:=by rw [hta.1,List.length_map]
    refine ite2 (fun hc=>?_) (fun hc=>?_)
    · have hc':edR W fls pls r fl.h - edL fls pls r fl.h < fl.w:=of_decide_eq_true hc
      obtain ⟨nn,rlt,rbot⟩:=noFit hw hc'
      have cl:=cntF_le row pls
      have pl100:=hP.2.2
      cases m' with
      | zero=>exact absurd hbot (by omega)
      | succ n =>
        rw [papF_no hc'] at hts hfin
        refine ⟨fun σ' H'=>∃ (e:Addr) (ta':List Addr),σ'=[some (.int W),some (.ref a),some (.ref b),some (.int (triRow pls (nrL fls pls r fl.h) (nrR fls pls r fl.h))),some (.ref g),some (.int fl.w),some (.int fl.h),some (.ref l),some (.ref e)]∧Same H H' ∧
            H' e=some (.tup [.int (edL fls pls (triRow pls (nrL fls pls r fl.h) (nrR fls pls r fl.h)) fl.h),.int (edR W fls pls (triRow pls (nrL fls pls r fl.h) (nrR fls pls r fl.h)) fl.h)]) ∧
            H' l=some (.lst (ta'.map V.ref))∧RowsOf H' ta' ((ts ++ [(triRow pls (nrL fls pls r fl.h) (nrR fls pls r fl.h),nmOf pls (nrL fls pls r fl.h),nmOf pls (nrR fls pls r fl.h))]).map triV),
          fun σ' H' ⟨e,ta',z1,z2,z3,z4,z5⟩=>⟨n,Nat.lt_succ_self n,_,e,_,ta',z1,z2,z3,z4,z5,by omega,by rw [List.append_assoc]; exact hts,hfin,by rw [List.length_append,List.length_singleton]; omega⟩,?_⟩
        refine ⟨_,rfl,.inl ⟨rfl,_,SqL.of hl3⟩,_,rfl,_,rfl,_,rfl,_,rfl,a,b,fa,pa,fls,pls,r,fl.h,rfl,hF.same s3,hP.same s3,fun n1 H4 hn1 s4 h4=>?_⟩
        have s34:=Same.trans s3 s4
        refine ⟨n1,b,pa,pls,_,_,rfl,hP.same s34,h4,fun k e=>nrL_lt e,fun k e=>nrR_lt e,nn,fun t H5 ht s5 h5=>?_⟩
        have s35:=Same.trans s34 s5
        have hl5:=s5 _ _ (s4 _ _ hl3)
        have hta5:=hta.same (Same.trans s4 s5)
        refine ⟨l,_,_,rfl,rfl,hl5,small (by rw [List.length_map,lta]; omega),?_⟩
        have ep:(ta.map V.ref) ++ [V.ref t]=(ta ++ [t]).map V.ref:=by rw [List.map_append]; rfl
        rw [ep]
        have nlt:t ≠ l:=ne_of h5 hl5 (by intro z; cases z)
        have s6:Same H (upd H5 l (.lst ((ta ++ [t]).map V.ref))):=Same.put s35 hl
        have l6:(upd H5 l (.lst ((ta ++ [t]).map V.ref))) l=some (.lst ((ta ++ [t]).map V.ref)):=upd_same
        have t6:(upd H5 l (.lst ((ta ++ [t]).map V.ref))) t=some (.tup (triV (triRow pls (nrL fls pls r fl.h) (nrR fls pls r fl.h),nmOf pls (nrL fls pls r fl.h),nmOf pls (nrR fls pls r fl.h)))):=by rw [upd_ne nlt]; exact h5
        have r6:RowsOf (upd H5 l (.lst ((ta ++ [t]).map V.ref))) (ta ++ [t]) ((ts ++ [(triRow pls (nrL fls pls r fl.h) (nrR fls pls r fl.h),nmOf pls (nrL fls pls r fl.h),nmOf pls (nrR fls pls r fl.h))]).map triV):=by
          have em:∀ x:Tri,(ts ++ [x]).map triV=ts.map triV ++ [triV x]:=fun x=>by rw [List.map_append]; rfl
          rw [em]
          exact RowsOf.snoc (hta5.updL hl5) (Same.refl _) t6
        generalize upd H5 l (.lst ((ta ++ [t]).map V.ref))=H6 at *
        refine ⟨_,rfl,_,rfl,l,_,_,_,rfl,rfl,SqL.of l6,?_,t,_,_,_,rfl,rfl,SqT.of t6,atI_nat (j:=0) rfl,?_⟩
        · rw [← ep]
          exact atI_last _ _
        refine ⟨_,rfl,_,rfl,_,rfl,_,rfl,_,rfl,a,b,fa,pa,fls,pls,W,_,fl.h,rfl,hF.same s6,hP.same s6,fun e7 H7 he7 s7 h7=>?_⟩
        exact ⟨e7,ta ++ [t],rfl,Same.trans s6 s7,h7,s7 _ _ l6,r6.same s7⟩
    · have hc':¬ (edR W fls pls r fl.h - edL fls pls r fl.h < fl.w):=fun z=>hc (decide_eq_true z)
      rw [papF_fit hc'] at hts hfin
      dsimp only at hts hfin
      rw [List.append_nil] at hts
      have hft3:=s3 _ _ hft
      refine ⟨_,rfl,g,_,_,_,rfl,rfl,SqT.of hft3,atI_nat (j:=0) rfl,_,rfl,g,_,_,_,rfl,rfl,SqT.of hft3,atI_nat (j:=1) rfl,_,rfl,_,rfl,e,fl.lf,fl.w,_,_,rfl,he,_,rfl,_,rfl,_,rfl,(by show 5 ≤ sizeLine; decide),fun tp htp=>?_⟩
      have s4:Same H3 (upd H3 tp (.tup [.str fl.nm,.int (if fl.lf=true then edL fls pls r fl.h else edR W fls pls r fl.h - fl.w),.int r,.int fl.w,.int fl.h])):=Same.put (Same.refl _) htp
      have h4:(upd H3 tp (.tup [.str fl.nm,.int (if fl.lf=true then edL fls pls r fl.h else edR W fls pls r fl.h - fl.w),.int r,.int fl.w,.int fl.h])) tp=some (.tup [.str fl.nm,.int (if fl.lf=true then edL fls pls r fl.h else edR W fls pls r fl.h - fl.w),.int r,.int fl.w,.int fl.h]):=upd_same
      refine ⟨_,rfl,(by show 2 ≤ sizeLine; decide),fun t ht=>?_⟩
      generalize upd H3 tp (.tup [.str fl.nm,.int (if fl.lf=true then edL fls pls r fl.h else edR W fls pls r fl.h - fl.w),.int r,.int fl.w,.int fl.h])=H4 at *
      have s5:Same H4 (upd H4 t (.tup [.ref tp,.ref l])):=Same.put (Same.refl _) ht
      have s45:=Same.trans s4 s5
      refine k t tp l ta _ hl (Same.trans s3 s45) upd_same ?_ (s45 _ _ hl3) ?_
      · rw [eS1,← hfin]
        exact s5 _ _ h4
      · rw [eS2,← hts]
        exact hta.same s45
end
def spStandAll:Sp:=fun vs H Q _=>∃ (a:Addr) (fa:List Addr) (fls:List Fl) (W:Int),vs=[.int W,.ref a]∧FlAt H a fa fls∧(∀ f ∈ fls,f.w ≤ W) ∧
  ∀ (t ls lp:Addr) (pa qa:List Addr) (H':Hp),H ls=none→H lp=none→ls ≠ lp→Same H H'→H' t=some (.tup [.ref ls,.ref lp])→PlAt H' ls pa (allF W fls fls.length).1→H' lp=some (.lst (qa.map V.ref))→PapsAt H' qa (allF W fls fls.length).2→(∀ q ∈ qa,q ≠ ls∧q ≠ lp)→Q (.ref t) H'
theorem scStandAll:FnScope ["W","floats","name","side","wide","high","standing","papers","row","told"] ["W","floats"] (defScope sStandAll):=⟨rfl,rfl,rfl,by decide +kernel,rfl,by decide +kernel,by decide +kernel⟩
theorem gF_mem {fls:List Fl} {i:Nat} (h:i < fls.length):gF fls i ∈ fls:=by
  rw [gF_of (List.getElem?_eq_getElem h)]
  exact List.getElem_mem h
theorem map_snoc {α β:Type} (f:α→β) (xs:List α) (x:α):(xs ++ [x]).map f=xs.map f ++ [f x]:=by rw [List.map_append]; rfl
section
variable {P:Program} {w:World} {K:PySem.W.Frag} {mg:Str→Option Value} {base:Heap}
set_option maxHeartbeats 4000000 in
theorem ok_standAll {f f1:Addr} {fd d1:FuncData} (F:Fun K "stand_floats" "stand_floats" sStandAll f fd) (N:Names mg)
    (G1:FnOk P w K mg base CX0 5 f1 d1 ["W","floats","standing","row"] spStand) (b1:Binds K d1 ["W","floats","standing","row"] []) (m1:mg "stand_float"=some (.ref f1)) (k1:PySem.W.keepIn K (.ref f1)=true) :
    FnOk P w K mg base CX0 6 f fd ["W","floats"] spStandAll:=by
  refine F.ok scStandAll (fun vs H Q E h=>?_) (fun cdv A outer s H vs Q E hr h=>?_)
  · obtain ⟨a,fa,fls,W,e,_⟩:=h
    rw [e]
    rfl
  · obtain ⟨a,fa,fls,W,e,hF,hW,k⟩:=h
    subst e
    have lf:fa.length=fls.length:=by rw [hF.2.1.1,List.length_map]
    have f100:=hF.2.2
    refine ⟨_,pss_cons (ps_for PassesOwn.never rfl (pi_list (pv 1)) (pg_tup rfl (pgs_cons (pg_name (i:=2) scStandAll.nd rfl (Or.inl rfl)) (pgs_cons (pg_name (i:=3) scStandAll.nd rfl (Or.inl rfl)) (pgs_cons (pg_name (i:=4) scStandAll.nd rfl (Or.inl rfl)) (pgs_cons (pg_name (i:=5) scStandAll.nd rfl (Or.inl rfl)) pgs_nil)))))
        (pss_one (ps_if (pt_cmpR op_gt (pv 4) (pv 0) (nomark _)) (pss_one ps_never) pss_nil)))
      (pss_cons (ps_set (i:=6) scStandAll.nd rfl (Or.inl rfl) (pe_lst pa_nil))
      (pss_cons (ps_set (i:=7) scStandAll.nd rfl (Or.inl rfl) (pe_lst pa_nil))
      (pss_cons (ps_set (i:=8) scStandAll.nd rfl (Or.inl rfl) pe_int)
      (pss_cons (ps_while PassesOwn.never (pt_cmpR op_lt (pe_callB call_len_seq (by rfl) N.len PySem.boot_len (pa_cons (pv 6) pa_nil)) (pe_callB call_len_seq (by rfl) N.len PySem.boot_len (pa_cons (pv 1) pa_nil)) (nomark _))
        (pss_cons (ps_set (i:=9) scStandAll.nd rfl (Or.inl rfl) (pe_call G1 hr rfl m1 k1 b1 .nil pass0 (pa_cons (pv 0) (pa_cons (pv 1) (pa_cons (pv 6) (pa_cons (pv 8) pa_nil))))))
        (pss_cons (ps_expr (pe_bm PySem.F.plainAttrs_list PySem.F.slot_list_append PySem.F.type_list_append mt_append (pv 6) (pa_cons (pe_ix ix_tup (pv 9) pe_int (fun _ _=>rfl)) pa_nil)))
        (pss_cons (ps_expr (pe_bm PySem.F.plainAttrs_list PySem.F.slot_list_append PySem.F.type_list_append mt_append (pv 7) (pa_cons (pe_ix ix_tup (pv 9) pe_int (fun _ _=>rfl)) pa_nil)))
        (pss_one (ps_set (i:=8) scStandAll.nd rfl (Or.inl rfl) (pe_ix ix_tup (pe_ix ix_tup (pv 9) pe_int (fun _ _=>rfl)) pe_int (fun _ _=>rfl))))))))
      (pss_one (ps_ret (pe_tup (pa_cons (pv 6) (pa_cons (pv 7) pa_nil))))))))),?_⟩
    refine ⟨_,rfl,a,rfl,⟨_,SqL.of hF.1⟩,for_list (K:=K) (a:=a) (xs:=fa.map V.ref) (fun i σ H9=>(∃ u2 u3 u4 u5,σ=[some (.int W),some (.ref a),u2,u3,u4,u5,none,none,none,none])∧H9=H) ⟨⟨_,_,_,_,rfl⟩,rfl⟩ (fun i σ H9 _ h9=>by rw [h9.2]; exact SqL.of hF.1) ?_ ?_⟩
    · rintro i y σ H9 hy ⟨⟨u2,u3,u4,u5,rfl⟩,rfl⟩
      obtain ⟨p,r,rfl,ep,er,hp⟩:=hF.2.1.get hy
      obtain ⟨fl,efl,rfl⟩:=row_map er
      refine ⟨p,_,rfl,SqT.of hp,rfl,_,_,rfl,_,_,rfl,_,_,rfl,_,_,rfl,rfl,?_⟩
      have hwf:=hW fl (List.mem_of_getElem? efl)
      refine ⟨_,rfl,_,rfl,_,_,rfl,rfl,_,rfl,iteC (decide_eq_false (by omega)) ?_⟩
      exact ⟨⟨_,_,_,_,rfl⟩,rfl⟩
    rintro σ H9 ⟨⟨u2,u3,u4,u5,rfl⟩,rfl⟩
    refine ⟨smallE (by simp),fun ls hls=>?_⟩
    have s1:Same H9 (upd H9 ls (.lst [])):=Same.put (Same.refl H9) hls
    have h1:(upd H9 ls (.lst [])) ls=some (.lst []):=upd_same
    generalize upd H9 ls (.lst [])=H1 at *
    refine ⟨smallE (by simp),fun lp hlp=>?_⟩
    have hlp9:H9 lp=none:=same_none s1 hlp
    have nsp:ls ≠ lp:=ne_of_none h1 hlp
    have s2:Same H9 (upd H1 lp (.lst [])):=Same.put s1 hlp9
    have h2:(upd H1 lp (.lst [])) lp=some (.lst []):=upd_same
    have h1':(upd H1 lp (.lst [])) ls=some (.lst []):=by rw [upd_ne nsp]; exact h1
    generalize upd H1 lp (.lst [])=H2 at *
    refine ⟨fun m' σ H3=>∃ (n:Nat) (pa qa:List Addr) (v2 v3 v4 v5 v9:Option V),σ=[some (.int W),some (.ref a),v2,v3,v4,v5,some (.ref ls),some (.ref lp),some (.int (lastRow (allF W fls n).1)),v9]∧Same H9 H3∧PlAt H3 ls pa (allF W fls n).1∧H3 lp=some (.lst (qa.map V.ref))∧PapsAt H3 qa (allF W fls n).2∧(∀ q ∈ qa,q ≠ ls∧q ≠ lp)∧n ≤ fls.length∧m'=fls.length - n,
      ⟨fls.length,0,[],[],u2,u3,u4,u5,none,rfl,s2,⟨h1',RowsOf.nil,by show 0 ≤ 100; decide⟩,h2,⟨rfl,fun i q ts e=>by simp at e⟩,fun q hq=>by simp at hq,Nat.zero_le _,rfl⟩,?_⟩
    rintro m' σ H3 ⟨n,pa,qa,v2,v3,v4,v5,v9,rfl,s3,hPl,hlp3,hPp,hqn,hn,rfl⟩
    have ln:=allF_len W fls n
    have lpa:pa.length=n:=by rw [hPl.2.1.1,List.length_map,ln.1]
    have lqa:qa.length=n:=by rw [hPp.1,ln.2]
    have hF3:=hF.same s3
    refine ⟨_,rfl,ls,_,rfl,.inl (SqL.of hPl.1),_,rfl,a,_,rfl,.inl (SqL.of hF3.1),_,_,rfl,rfl,_,rfl,?_⟩
    refine ite2 (fun hc=>?_) (fun hc=>?_)
    · have hlt:n < fls.length:=by
        have:=of_decide_eq_true hc
        rw [List.length_map,List.length_map,lpa,lf] at this
        omega
      refine ⟨fun σ' H'=>∃ (pa qa:List Addr) (v2 v3 v4 v5 v9:Option V),σ'=[some (.int W),some (.ref a),v2,v3,v4,v5,some (.ref ls),some (.ref lp),some (.int (lastRow (allF W fls (n + 1)).1)),v9]∧Same H9 H'∧PlAt H' ls pa (allF W fls (n + 1)).1∧H' lp=some (.lst (qa.map V.ref))∧PapsAt H' qa (allF W fls (n + 1)).2∧(∀ q ∈ qa,q ≠ ls∧q ≠ lp),
        fun σ' H' ⟨pa,qa,v2,v3,v4,v5,v9,z1,z2,z3,z4,z5,z6⟩=>⟨fls.length - (n + 1),by omega,n + 1,pa,qa,v2,v3,v4,v5,v9,z1,z2,z3,z4,z5,z6,hlt,rfl⟩,?_⟩
      refine ⟨_,rfl,_,rfl,_,rfl,_,rfl,a,ls,fa,pa,fls,(allF W fls n).1,W,_,rfl,hF3,hPl,by rw [ln.1]; exact hlt,hW _ (gF_mem (by rw [ln.1]; exact hlt)),fun t tp l ta H4 hl s4 ht htp hl4 hta=>?_⟩
      have e1:(allF W fls (n + 1)).1=(allF W fls n).1 ++ [(standF W fls (allF W fls n).1 (lastRow (allF W fls n).1)).1]:=rfl
      have e2:(allF W fls (n + 1)).2=(allF W fls n).2 ++ [(standF W fls (allF W fls n).1 (lastRow (allF W fls n).1)).2]:=rfl
      generalize standF W fls (allF W fls n).1 (lastRow (allF W fls n).1)=st at *
      have s34:=Same.trans s3 s4
      have nls:l ≠ ls:=fun z=>by rw [z,hPl.1] at hl; cases hl
      have nlp:l ≠ lp:=fun z=>by rw [z,hlp3] at hl; cases hl
      have hPl4:=hPl.same s4
      have hlp4:=s4 _ _ hlp3
      have hPp4:=hPp.same s4
      refine ⟨_,rfl,.inl ⟨rfl,_,SqL.of hPl4.1⟩,_,rfl,t,_,_,_,rfl,rfl,SqT.of ht,atI_nat (j:=0) rfl,ls,_,_,rfl,rfl,hPl4.1,small (by rw [List.length_map]; omega),?_⟩
      rw [show (pa.map V.ref) ++ [V.ref tp]=(pa ++ [tp]).map V.ref from (map_snoc _ _ _).symm]
      have s5:Same H9 (upd H4 ls (.lst ((pa ++ [tp]).map V.ref))):=Same.put s34 hls
      have tp5:(upd H4 ls (.lst ((pa ++ [tp]).map V.ref))) tp=some (.tup (plRow st.1)):=by rw [upd_ne (ne_of htp hPl4.1 (by intro z; cases z))]; exact htp
      have p5:PlAt (upd H4 ls (.lst ((pa ++ [tp]).map V.ref))) ls (pa ++ [tp]) (allF W fls (n + 1)).1:=by
        refine ⟨upd_same,?_,by rw [(allF_len W fls (n + 1)).1]; omega⟩
        rw [e1,map_snoc plRow]
        exact RowsOf.snoc (hPl4.2.1.updL (o:=.lst ((pa ++ [tp]).map V.ref)) hPl4.1) (Same.refl _) tp5
      have lp5:(upd H4 ls (.lst ((pa ++ [tp]).map V.ref))) lp=some (.lst (qa.map V.ref)):=by rw [upd_ne (Ne.symm nsp)]; exact hlp4
      have q5:=hPp4.updL (o:=.lst ((pa ++ [tp]).map V.ref)) hPl4.1 fun q hq=>(hqn q hq).1
      have t5:(upd H4 ls (.lst ((pa ++ [tp]).map V.ref))) t=some (.tup [.ref tp,.ref l]):=by rw [upd_ne (ne_of ht hPl4.1 (by intro z; cases z))]; exact ht
      have l5:(upd H4 ls (.lst ((pa ++ [tp]).map V.ref))) l=some (.lst (ta.map V.ref)):=by rw [upd_ne nls]; exact hl4
      have ta5:=hta.updL (o:=.lst ((pa ++ [tp]).map V.ref)) hPl4.1
      generalize upd H4 ls (.lst ((pa ++ [tp]).map V.ref))=H5 at *
      refine ⟨_,rfl,.inl ⟨rfl,_,SqL.of lp5⟩,_,rfl,t,_,_,_,rfl,rfl,SqT.of t5,atI_nat (j:=1) rfl,lp,_,_,rfl,rfl,lp5,small (by rw [List.length_map]; omega),?_⟩
      rw [show (qa.map V.ref) ++ [V.ref l]=(qa ++ [l]).map V.ref from (map_snoc _ _ _).symm]
      have s6:Same H9 (upd H5 lp (.lst ((qa ++ [l]).map V.ref))):=Same.put s5 hlp9
      have p6:PlAt (upd H5 lp (.lst ((qa ++ [l]).map V.ref))) ls (pa ++ [tp]) (allF W fls (n + 1)).1:=⟨by rw [upd_ne nsp]; exact p5.1,p5.2.1.updL lp5,p5.2.2⟩
      have q6:PapsAt (upd H5 lp (.lst ((qa ++ [l]).map V.ref))) (qa ++ [l]) (allF W fls (n + 1)).2:=by
        rw [e2]
        exact PapsAt.snoc (q5.updL lp5 fun q hq=>(hqn q hq).2) (by rw [upd_ne nlp]; exact l5) (ta5.updL lp5)
      have t6:(upd H5 lp (.lst ((qa ++ [l]).map V.ref))) t=some (.tup [.ref tp,.ref l]):=by rw [upd_ne (ne_of t5 lp5 (by intro z; cases z))]; exact t5
      have tp6:(upd H5 lp (.lst ((qa ++ [l]).map V.ref))) tp=some (.tup (plRow st.1)):=by rw [upd_ne (ne_of tp5 lp5 (by intro z; cases z))]; exact tp5
      have lp6:(upd H5 lp (.lst ((qa ++ [l]).map V.ref))) lp=some (.lst ((qa ++ [l]).map V.ref)):=upd_same
      generalize upd H5 lp (.lst ((qa ++ [l]).map V.ref))=H6 at *
      refine ⟨_,rfl,t,_,_,_,rfl,rfl,SqT.of t6,atI_nat (j:=0) rfl,tp,_,_,_,rfl,rfl,SqT.of tp6,atI_nat (j:=2) rfl,?_⟩
      refine ⟨pa ++ [tp],qa ++ [l],v2,v3,v4,v5,some (.ref t),?_,s6,p6,lp6,q6,fun q hq=>?_⟩
      · rw [e1,lastRow_snoc]
        rfl
      · rcases List.mem_append.mp hq with z | z
        · exact hqn q z
        · rw [List.mem_singleton.mp z]
          exact ⟨nls,nlp⟩
    · have en:n=fls.length:=by
        by_cases e:n < fls.length
        · refine absurd (decide_eq_true ?_) hc
          rw [List.length_map,List.length_map,lpa,lf]
          omega
        · omega
      subst en
      refine ⟨_,rfl,_,rfl,(by show 2 ≤ sizeLine; decide),fun t ht=>?_⟩
      have s4:Same H3 (upd H3 t (.tup [.ref ls,.ref lp])):=Same.put (Same.refl _) ht
      exact k t ls lp pa qa _ hls hlp9 nsp (Same.trans s3 s4) upd_same (hPl.same s4) (s4 _ _ hlp3) (hPp.same s4) hqn
end
section
variable {P:Program} {w:World} {K:PySem.W.Frag} {mg:Str→Option Value} {base:Heap}
theorem scCell:FnScope ["_law_script","_law_k"] ["_law_script","_law_k"] (defScope sCell):=⟨rfl,rfl,rfl,by decide +kernel,rfl,by decide +kernel,by decide +kernel⟩
theorem ok_cell {f:Addr} {fd:FuncData} (F:Fun K "_law_cell_at" "_law_cell_at" sCell f fd) (N:Names mg):FnOk P w K mg base CX0 1 f fd ["_law_script","_law_k"] (spCell K):=by
  refine F.ok scCell (fun vs H Q E h=>?_) (fun cdv A outer s H vs Q E hr h=>?_)
  · obtain ⟨a,k,ns,e,_⟩:=h
    rw [e]
    rfl
  · obtain ⟨a,k,ns,e,hS,hn,q⟩:=h
    subst e
    refine ⟨_,pss_cons (ps_if (pt_cmpR op_lt (pv 1) (pe_callB call_len_seq (by rfl) N.len PySem.boot_len (pa_cons (pv 0) pa_nil)) (nomark _)) (pss_one (ps_ret (pe_ix ix_list (pv 0) (pv 1) (fun _ _=>rfl)))) pss_nil) (pss_one (ps_ret pe_int)),?_⟩
    refine ⟨_,rfl,_,rfl,a,_,rfl,.inl hS,_,_,rfl,rfl,_,rfl,?_⟩
    refine ite2 (fun hc=>?_) (fun hc=>q 0)
    have hk:k < ns.length:=by
      have z:=of_decide_eq_true hc
      rw [List.length_map] at z
      omega
    exact ⟨_,rfl,_,rfl,a,_,_,_,rfl,rfl,hS,atI_nat (by rw [List.getElem?_map,List.getElem?_eq_getElem hk]; rfl),q _⟩
theorem scNumbers:FnScope ["_law_cell","_law_many","_law_found","_law_number"] ["_law_cell","_law_many"] (defScope sNumbers):=⟨rfl,rfl,rfl,by decide +kernel,rfl,by decide +kernel,by decide +kernel⟩
theorem ok_numbers {f:Addr} {fd:FuncData} (F:Fun K "_law_numbers" "_law_numbers" sNumbers f fd) (N:Names mg):FnOk P w K mg base CX0 1 f fd ["_law_cell","_law_many"] spNumbers:=by
  refine F.ok scNumbers (fun vs H Q E h=>?_) (fun cdv A outer s H vs Q E hr h=>?_)
  · obtain ⟨c,m,e,_⟩:=h
    rw [e]
    rfl
  · obtain ⟨c,m,e,hm,q⟩:=h
    subst e
    refine ⟨_,pss_cons (ps_set (i:=2) scNumbers.nd rfl (Or.inl rfl) (pe_lst pa_nil))
      (pss_cons (ps_set (i:=3) scNumbers.nd rfl (Or.inl rfl) (pe_op op_fdiv (pv 0) pe_int))
      (pss_cons (ps_while PassesOwn.never (pw_and (pt_cmpR op_eq (pe_op op_mod (pv 0) pe_int) pe_int (nomark _)) (pw_and (pt_cmpR op_gt (pv 3) pe_int (nomark _)) (pw_and1 (pt_cmpR op_lt (pe_callB call_len_seq (by rfl) N.len PySem.boot_len (pa_cons (pv 2) pa_nil)) (pv 1) (nomark _))))).pt
        (pss_cons (ps_expr (pe_bm PySem.F.plainAttrs_list PySem.F.slot_list_append PySem.F.type_list_append mt_append (pv 2) (pa_cons (pe_op op_mod (pv 3) pe_int) pa_nil)))
          (pss_one (ps_set (i:=3) scNumbers.nd rfl (Or.inl rfl) (pe_op op_fdiv (pv 3) pe_int)))))
      (pss_cons (ps_set (i:=3) scNumbers.nd rfl (Or.inl rfl) (pe_op op_mod (pv 0) pe_int))
      (pss_cons (ps_while PassesOwn.never (pt_cmpR op_lt (pe_callB call_len_seq (by rfl) N.len PySem.boot_len (pa_cons (pv 2) pa_nil)) (pv 1) (nomark _))
        (pss_cons (ps_set (i:=3) scNumbers.nd rfl (Or.inl rfl) (pe_op op_mod (pe_op op_mul (pe_op op_add (pe_op op_add (pv 3) (pe_callB call_len_seq (by rfl) N.len PySem.boot_len (pa_cons (pv 2) pa_nil))) pe_int) pe_int) pe_int))
          (pss_one (ps_expr (pe_bm PySem.F.plainAttrs_list PySem.F.slot_list_append PySem.F.type_list_append mt_append (pv 2) (pa_cons (pe_op op_mod (pe_op op_mul (pv 3) pe_int) pe_int) pa_nil))))))
      (pss_one (ps_ret (pv 2))))))),?_⟩
    refine ⟨smallE (by simp),fun l hl=>?_⟩
    refine ⟨_,rfl,_,_,rfl,rfl,⟨by decide,by decide⟩,?_⟩
    have s0:Same H (upd H l (.lst [])):=Same.put (Same.refl H) hl
    refine while_out (fun m' σ H2=>∃ (z:Int) (ns:List Int),σ=[some (.int c),some (.int m),some (.ref l),some (.int z)]∧Same H H2∧H2 l=some (.lst (ns.map V.int))∧ns.length ≤ m∧m'=m - ns.length) (m0:=m) ⟨_,[],rfl,s0,upd_same,Nat.zero_le _,rfl⟩ ?_ ?_
    · rintro m' σ H2 ⟨z,ns,rfl,s2,h2,hlen,rfl⟩
      refine ⟨_,rfl,_,_,rfl,rfl,(by show (0:Int) < 2147483647; decide),?_⟩
      refine ⟨fun m' σ H2=>∃ (z:Int) (ns:List Int),σ=[some (.int c),some (.int m),some (.ref l),some (.int z)]∧Same H H2∧H2 l=some (.lst (ns.map V.int))∧ns.length ≤ m∧m'=m - ns.length,⟨_,_,ns,rfl,s2,h2,hlen,rfl⟩,?_⟩
      rintro m' σ H3 ⟨z,ns,rfl,s3,h3,hlen,rfl⟩
      refine ⟨_,rfl,l,_,rfl,.inl (SqL.of h3),_,rfl,_,_,rfl,rfl,_,rfl,ite2 (fun hc=>?_) (fun hc=>?_)⟩
      · have hc':=of_decide_eq_true hc
        rw [List.length_map] at hc'
        refine ⟨fun σ' H'=>∃ (z:Int) (ns':List Int),σ'=[some (.int c),some (.int m),some (.ref l),some (.int z)]∧Same H H'∧H' l=some (.lst (ns'.map V.int))∧ns'.length=ns.length + 1,fun σ' H' ⟨z',ns',e1,e2,e3,e4⟩=>⟨m - ns'.length,by omega,z',ns',e1,e2,e3,by omega,rfl⟩,?_⟩
        refine ⟨_,rfl,_,rfl,l,_,rfl,.inl (SqL.of h3),_,_,rfl,rfl,_,_,rfl,rfl,_,_,rfl,rfl,.inr ⟨by decide,by decide⟩,_,_,rfl,rfl,(by show (0:Int) < 2147483647; decide),?_⟩
        refine ⟨_,rfl,.inl ⟨rfl,_,SqL.of h3⟩,_,rfl,_,_,rfl,rfl,.inr ⟨by decide,by decide⟩,_,_,rfl,rfl,(by show (0:Int) < 2147483629; decide),l,_,_,rfl,rfl,h3,small (by rw [List.length_map]; omega),?_⟩
        exact ⟨_,_,rfl,Same.put s3 hl,snoc_at,snoc_len⟩
      · have hc':¬ ((ns.length:Int) < (m:Int)):=fun z=>hc (decide_eq_true (by rw [List.length_map]; exact z))
        exact ⟨_,rfl,q l ns H3 hl s3 h3 (by omega)⟩
    · rintro R out m' σ H2 ⟨z,ns,rfl,s2,h2,hlen,rfl⟩
      have go:R [some (.int c),some (.int m),some (.ref l),some (.int z)] H2:=out _ _ _ ⟨z,ns,rfl,s2,h2,hlen,rfl⟩
      refine ⟨_,rfl,_,_,rfl,rfl,(by show (0:Int) < 2; decide),rfl,_,rfl,ite2 (fun _=>?_) (fun _=>iteF go)⟩
      refine ⟨_,rfl,_,_,rfl,rfl,_,rfl,ite2 (fun _=>?_) (fun _=>iteF go)⟩
      refine ⟨_,rfl,l,_,rfl,.inl (SqL.of h2),_,rfl,_,_,rfl,rfl,_,rfl,ite2 (fun hc=>?_) (fun _=>go)⟩
      have hc':=of_decide_eq_true hc
      rw [List.length_map] at hc'
      refine ⟨fun σ' H'=>∃ (z:Int) (ns':List Int),σ'=[some (.int c),some (.int m),some (.ref l),some (.int z)]∧Same H H'∧H' l=some (.lst (ns'.map V.int))∧ns'.length=ns.length + 1,fun σ' H' ⟨z',ns',e1,e2,e3,e4⟩=>⟨m - ns'.length,by omega,z',ns',e1,e2,e3,by omega,rfl⟩,?_⟩
      refine ⟨_,rfl,.inl ⟨rfl,_,SqL.of h2⟩,_,rfl, _,_,rfl,rfl,(by show (0:Int) < 5040; decide),l,_,_,rfl,rfl,h2,small (by rw [List.length_map]; omega),?_⟩
      refine ⟨_,rfl, _,_,rfl,rfl,⟨by decide,by decide⟩,?_⟩
      exact ⟨_,_,rfl,Same.put s2 hl,snoc_at,snoc_len⟩
end
end B69
namespace B69
open PySem L2 S2
def NmsOk (nms:List Str):Prop:=(∀ i j,i < nms.length→j < nms.length→nms.getD i ""=nms.getD j ""→i=j)∧∀ i,i < nms.length→nms.getD i "" ≠ ""
def ixF (nn:List Int) (at0:Int) (i j:Nat):Int:=(gi nn j + (0 + (i:Int)) * (if decide (V.int (0 + (j:Int))=V.int at0)=true then 1 else 0)) % 26
def chF (nn:List Int) (at0:Int) (i j:Nat):Nat:=("abcdefghijklmnopqrstuvwxyz":Str).cps.toList.getD (ixF nn at0 i j).toNat 0
def preF (nn:List Int) (at0:Int) (i j:Nat):Str:=⟨((List.range j).map (chF nn at0 i)).toArray⟩
theorem alpha_inj:∀ a b:Fin 26,("abcdefghijklmnopqrstuvwxyz":Str).cps.toList.getD a.val 0=("abcdefghijklmnopqrstuvwxyz":Str).cps.toList.getD b.val 0→a=b:=by decide +kernel
theorem preF_snoc (nn:List Int) (at0:Int) (i j:Nat):preF nn at0 i j ++ (⟨#[chF nn at0 i j]⟩:Str)=preF nn at0 i (j + 1):=by
  show (⟨((List.range j).map (chF nn at0 i)).toArray ++ #[chF nn at0 i j]⟩:Str)=⟨((List.range (j + 1)).map (chF nn at0 i)).toArray⟩
  rw [List.range_succ,List.map_append]
  simp
theorem preF_len (nn:List Int) (at0:Int) (i j:Nat):(preF nn at0 i j).length=j:=by
  show (((List.range j).map (chF nn at0 i)).toArray).size=j
  simp
theorem nmsF_ok (nn:List Int) (ja sz m:Nat) (hj:ja ≤ sz) (hm:m ≤ 20):NmsOk ((List.range m).map fun i=>preF nn (ja:Int) i (sz + 1)):=by
  have hl:((List.range m).map fun i=>preF nn (ja:Int) i (sz + 1)).length=m:=by rw [List.length_map,List.length_range]
  have hg:∀ i,i < m→((List.range m).map fun i=>preF nn (ja:Int) i (sz + 1)).getD i ""=preF nn (ja:Int) i (sz + 1):=fun i hi=>by
    rw [List.getD_eq_getElem?_getD,List.getElem?_map,List.getElem?_range hi]
    rfl
  refine ⟨fun i j hi hj' e=>?_,fun i hi e=>?_⟩
  · rw [hl] at hi hj'
    rw [hg i hi,hg j hj'] at e
    have e1:((List.range (sz + 1)).map (chF nn (ja:Int) i))=((List.range (sz + 1)).map (chF nn (ja:Int) j)):=by
      have:=congrArg (fun z:Str=>z.cps.toList) e
      simpa [preF] using this
    have e2:chF nn (ja:Int) i ja=chF nn (ja:Int) j ja:=by
      have:=congrArg (fun l:List Nat=>l[ja]?) e1
      simp only [List.getElem?_map,List.getElem?_range (show ja < sz + 1 by omega),Option.map_some] at this
      exact Option.some.inj this
    have q:∀ i:Nat,ixF nn (ja:Int) i ja=(gi nn ja + (i:Int)) % 26:=fun i=>by
      unfold ixF
      rw [if_pos (decide_eq_true (by rw [Int.zero_add]))]
      congr 1
      omega
    unfold chF at e2
    rw [q i,q j] at e2
    have e3:=alpha_inj ⟨((gi nn ja + (i:Int)) % 26).toNat,by omega⟩ ⟨((gi nn ja + (j:Int)) % 26).toNat,by omega⟩ e2
    have e4:=congrArg Fin.val e3
    dsimp only at e4
    omega
  · rw [hl] at hi
    rw [hg i hi] at e
    have:=congrArg Str.length e
    rw [preF_len] at this
    rw [show ("":Str).length=0 by decide +kernel] at this
    omega
def spLNames:Sp:=fun vs H Q _=>∃ (c:Int) (m:Nat),vs=[.int c,.int m]∧m ≤ 20∧∀ (l:Addr) (nms:List Str) (H':Hp),H l=none→Same H H'→H' l=some (.lst (nms.map V.str))→nms.length=m→NmsOk nms→Q (.ref l) H'
section
variable {P:Program} {w:World} {K:PySem.W.Frag} {mg:Str→Option Value} {base:Heap}
theorem scLNames:FnScope ["_law_cell","_law_many","_law_some","_law_size","_law_at","_law_names_here","_law_turn","_law_name","_law_k","_law_more"] ["_law_cell","_law_many"] (defScope sLNames):=⟨rfl,rfl,rfl,by decide +kernel,rfl,by decide +kernel,by decide +kernel⟩
theorem alpha_len:("abcdefghijklmnopqrstuvwxyz":Str).length=26:=by decide +kernel
theorem one_len (c:Nat):(⟨#[c]⟩:Str).length=1:=rfl
set_option maxHeartbeats 4000000 in
theorem ok_lnames {f f1:Addr} {fd d1:FuncData} (F:Fun K "_law_names" "_law_names" sLNames f fd) (N:Names mg) (G1:FnOk P w K mg base CX0 1 f1 d1 ["_law_cell","_law_many"] spNumbers) (b1:Binds K d1 ["_law_cell","_law_many"] []) (m1:mg "_law_numbers"=some (.ref f1)) (k1:PySem.W.keepIn K (.ref f1)=true) :
    FnOk P w K mg base CX0 2 f fd ["_law_cell","_law_many"] spLNames:=by
  refine F.ok scLNames (fun vs H Q E h=>?_) (fun cdv A outer s H vs Q E hr h=>?_)
  · obtain ⟨c,m,e,_⟩:=h
    rw [e]
    rfl
  · obtain ⟨c,m,e,hm,k⟩:=h
    subst e
    refine ⟨_,pss_cons (ps_set (i:=2) scLNames.nd rfl (Or.inl rfl) (pe_call G1 hr rfl m1 k1 b1 .nil pass0 (pa_cons (pv 0) (pa_cons pe_int pa_nil))))
      (pss_cons (ps_set (i:=3) scLNames.nd rfl (Or.inl rfl) (pe_op op_add pe_int (pe_op op_mod (pe_ix ix_list (pv 2) pe_int (fun _ _=>rfl)) pe_int)))
      (pss_cons (ps_set (i:=4) scLNames.nd rfl (Or.inl rfl) (pe_op op_mod (pe_ix ix_list (pv 2) pe_int (fun _ _=>rfl)) (pv 3)))
      (pss_cons (ps_set (i:=5) scLNames.nd rfl (Or.inl rfl) (pe_lst pa_nil))
      (pss_cons (ps_for PassesOwn.never rfl (pi_range1 rfl N.range (pa_cons (pv 1) pa_nil)) (pg_name (i:=6) scLNames.nd rfl (Or.inl rfl))
        (pss_cons (ps_set (i:=7) scLNames.nd rfl (Or.inl rfl) pe_str)
        (pss_cons (ps_for PassesOwn.never rfl (pi_range1 rfl N.range (pa_cons (pv 3) pa_nil)) (pg_name (i:=8) scLNames.nd rfl (Or.inl rfl))
          (pss_cons (ps_set (i:=9) scLNames.nd rfl (Or.inl rfl) (pe_op op_mul (pv 6) (pe_callTy call_int1 (by rfl) N.int PyProof.Rows.boot_int (pa_cons (pe_cmpR op_eq (pv 8) (pv 4) (nomark _)) pa_nil))))
          (pss_one (ps_set (i:=7) scLNames.nd rfl (Or.inl rfl) (pe_op op_add_str (pv 7) (pe_ix ix_str pe_str (pe_op op_mod (pe_op op_add (pe_ix ix_list (pv 2) (pv 8) (fun _ _=>rfl)) (pv 9)) pe_int) (fun _ _=>rfl)))))))
        (pss_one (ps_expr (pe_bm PySem.F.plainAttrs_list PySem.F.slot_list_append PySem.F.type_list_append mt_append (pv 5) (pa_cons (pv 7) pa_nil)))))))
      (pss_one (ps_ret (pv 5))))))),?_⟩
    refine ⟨_,rfl,c,10,rfl,by decide,fun ls nn H1 hls s1 h1 hnn=>?_⟩
    refine ⟨_,rfl,ls,_,_,_,rfl,rfl,SqL.of h1,atI_nat (j:=8) (gi_at (by omega)),_,_,rfl,rfl,(by show (0:Int) < 8; decide),_,_,rfl,rfl,?_⟩
    obtain ⟨sz,esz,hsz⟩:=mod_nat (z:=gi nn 8) (n:=8) (by decide)
    have esz':gi nn 8 % 8=(sz:Int):=esz
    refine ⟨_,rfl,ls,_,_,_,rfl,rfl,SqL.of h1,atI_nat (j:=9) (gi_at (by omega)),_,rfl,_,_,rfl,rfl,(by show (0:Int) < 1 + gi nn 8 % 8; omega),?_⟩
    dsimp only
    obtain ⟨ja,eja,hja⟩:∃ ja:Nat,gi nn 9 % (1 + gi nn 8 % 8)=(ja:Int)∧ja ≤ sz:=by
      have z1:=Int.emod_nonneg (gi nn 9) (show (1 + gi nn 8 % 8) ≠ 0 by omega)
      have z2:=Int.emod_lt_of_pos (gi nn 9) (show 0 < 1 + gi nn 8 % 8 by omega)
      exact ⟨(gi nn 9 % (1 + gi nn 8 % 8)).toNat,by omega,by omega⟩
    rw [eja,esz']
    refine ⟨smallE (by simp),fun l hl=>?_⟩
    have hl0:H l=none:=same_none s1 hl
    have s2:Same H (upd H1 l (.lst [])):=Same.put s1 hl0
    have h2:(upd H1 l (.lst [])) l=some (.lst []):=upd_same
    have hs2:(upd H1 l (.lst [])) ls=some (.lst (nn.map V.int)):=by rw [upd_ne (ne_of_none h1 hl)]; exact h1
    have nlls:ls ≠ l:=ne_of_none h1 hl
    generalize upd H1 l (.lst [])=H2 at *
    refine ⟨_,rfl,(m:Int),rfl,by omega,by omega,?_⟩
    have em:((m:Int)).toNat=m:=by omega
    rw [em]
    refine for_range (n:=m) (fun i σ H3=>∃ (nms:List Str) (v6 v7 v8 v9:Option V),σ=[some (.int c),some (.int m),some (.ref ls),some (.int (1 + (sz:Int))),some (.int (ja:Int)),some (.ref l),v6,v7,v8,v9]∧Same H H3∧H3 ls=some (.lst (nn.map V.int))∧H3 l=some (.lst (nms.map V.str))∧nms=(List.range i).map fun i=>preF nn (ja:Int) i (sz + 1))
      ⟨[],_,_,_,_,rfl,s2,hs2,h2,rfl⟩ ?_ ?_
    · rintro i σ H3 hi ⟨nms,v6,v7,v8,v9,rfl,s3,hs3,h3,hlen⟩
      refine ⟨_,rfl,1 + (sz:Int),rfl,by omega,by omega,?_⟩
      have en:((1:Int) + (sz:Int)).toNat=sz + 1:=by omega
      rw [en]
      refine for_range (n:=sz + 1) (fun j σ H4=>H4=H3∧∃ (z:Str) (v8 v9:Option V),σ=[some (.int c),some (.int m),some (.ref ls),some (.int (1 + (sz:Int))),some (.int (ja:Int)),some (.ref l),some (.int (0 + (i:Int))),some (.str z),v8,v9]∧z=preF nn (ja:Int) i j) ⟨rfl,"",_,_,rfl,rfl⟩ ?_ ?_
      · rintro j σ H4 hj ⟨rfl,z,v8,v9,rfl,hz⟩
        refine ⟨_,rfl,_,rfl,_,rfl,rfl,.inr ⟨_,rfl,_,_,rfl,rfl,.inl ⟨by omega,by omega⟩,?_⟩⟩
        refine ⟨_,rfl,_,rfl,_,rfl,ls,_,_,_,rfl,rfl,SqL.of hs3,atI_of (j:=j) (by omega) (gi_at (by omega)),_,rfl,_,_,rfl,rfl,_,_,rfl,rfl,(by show (0:Int) < 26; decide),?_⟩
        have hch:atI ("abcdefghijklmnopqrstuvwxyz":Str).cps.toList ((gi nn j + (0 + (i:Int)) * (if decide (V.int (0 + (j:Int))=V.int (ja:Int))=true then 1 else 0)) % 26)=some (chF nn (ja:Int) i j):=by
          obtain ⟨q,eq,hq⟩:=mod_nat (z:=gi nn j + (0 + (i:Int)) * (if decide (V.int (0 + (j:Int))=V.int (ja:Int))=true then 1 else 0)) (n:=26) (by decide)
          have hq2:q < ("abcdefghijklmnopqrstuvwxyz":Str).cps.toList.length:=by rw [show ("abcdefghijklmnopqrstuvwxyz":Str).cps.toList.length=26 from by decide +kernel]; exact hq
          have eq':(ixF nn (ja:Int) i j).toNat=q:=by
            have:ixF nn (ja:Int) i j=(q:Int):=eq
            omega
          unfold chF
          rw [eq',List.getD_eq_getElem?_getD,List.getElem?_eq_getElem hq2]
          exact atI_of eq (List.getElem?_eq_getElem hq2)
        refine ⟨_,_,_,rfl,rfl,smallE (by rw [alpha_len]; decide),hch,_,_,rfl,rfl,smallE (by rw [one_len,hz,preF_len]; omega),?_⟩
        exact ⟨rfl,_,_,_,rfl,by rw [hz,preF_snoc]⟩
      · rintro σ H4 ⟨rfl,z,v8,v9,rfl,hz⟩
        refine ⟨_,rfl,.inl ⟨rfl,_,SqL.of h3⟩,_,rfl,l,_,_,rfl,rfl,h3,small (by rw [List.length_map,hlen,List.length_map,List.length_range]; omega),?_⟩
        refine ⟨nms ++ [z],_,_,_,_,rfl,Same.put s3 hl0,by rw [upd_ne nlls]; exact hs3,by rw [upd_same,List.map_append]; rfl,by rw [hlen,List.range_succ,List.map_append,hz]; rfl⟩
    · rintro σ H3 ⟨nms,v6,v7,v8,v9,rfl,s3,hs3,h3,hlen⟩
      exact ⟨_,rfl,k l nms H3 hl0 s3 h3 (by rw [hlen,List.length_map,List.length_range]) (by rw [hlen]; exact nmsF_ok nn ja sz m hja hm)⟩
end
end B69
namespace L2
open PySem PySem.Spec PyProof.Rows
def trues (n:Nat):List V:=(List.replicate n true).map V.bl
theorem trues_succ (n:Nat):trues (n + 1)=trues n ++ [V.bl true]:=by
  unfold trues
  rw [List.replicate_succ',List.map_append]
  rfl
theorem trues_len (n:Nat):(trues n).length=n:=by unfold trues; rw [List.length_map,List.length_replicate]
theorem trues_all (n:Nat):(List.replicate n true).all id=true:=by
  rw [List.all_eq_true]
  intro b hb
  rw [(List.mem_replicate.mp hb).2]
  rfl
theorem Same.put' {H H2:Hp} {l:Addr} {o:HO} (s:Same H H2) (hn:H l=none):Same H (upd H2 l o):=fun b u e=>by
  rw [upd_ne (ne_of_none e hn)]
  exact s b u e
theorem comp_allT {K:PySem.W.Frag} {a:Addr} {xs:List V} {te:TE} {σ:St} {H:Hp} {Q:VK} (hq:H a=some (.tup xs)) (hn:xs.length < sizeLine)
    (he:∀ (i:Nat) (x:V) (H':Hp) (Q':VK),xs[i]?=some x→Same H H'→(∀ H3,Same H' H3→Q' (.bl true) H3)→te (some x :: σ) H' Q') (hd:∀ D H',H D=none→Same H H'→H' D=some (.lst (trues xs.length))→Q (.ref D) H'):CompGo (Itt K a) H σ ttAll te Q:=by
  intro D hD
  refine ⟨fun i m H'=>m=xs.length - i∧i ≤ xs.length∧Same H H'∧H' D=some (.lst (trues i)),⟨xs.length,by omega,Nat.zero_le _,Same.put' (Same.refl H) hD,upd_same⟩,?_⟩
  rintro i m H' ⟨rfl,hi,s1,hl⟩
  have q:SqT K H' a xs:=SqT.of (s1 _ _ hq)
  by_cases hlt:i < xs.length
  · refine .inr ⟨⟨xs,xs[i],q,by simp [hlt]⟩,fun x H2 y=>?_⟩
    obtain ⟨e,y⟩:=y
    subst e
    unfold ttAll
    refine iteT (he i x H2 _ (y xs q) s1 fun H3 s3=>?_)
    exact ⟨trues i,s3 _ _ hl,by rw [trues_len]; omega,xs.length - (i + 1),by omega,rfl,hlt,Same.put' (Same.trans s1 s3) hD,by rw [upd_same,trues_succ]⟩
  · have e:i=xs.length:=by omega
    subst e
    exact .inl ⟨⟨xs,q,Nat.le_refl _⟩,hd D H' hD s1 hl⟩
theorem comp_listF {K:PySem.W.Frag} {a:Addr} {xs:List V} {tt:TT} {te:TE} {σ:St} {H:Hp} {Q:VK} (Pv:Addr→Nat→List V→Hp→Prop) (hn:xs.length < sizeLine) (h0:∀ D,H D=none→Pv D 0 [] (upd H D (.lst [])))
    (hs:∀ D i l H',Pv D i l H'→SqL K H' a xs) (hl:∀ D i l H',Pv D i l H'→l.length ≤ i)
    (he:∀ (D:Addr) (i:Nat) (x:V) (l:List V) (H':Hp) (Q1:Bool→Hp→Prop),xs[i]?=some x→Pv D i l H'→(∀ b H2,(b=false→Pv D (i + 1) l H2)→(b=true→∀ Q':VK,(∀ y H3,H3 D=some (.lst l)→Pv D (i + 1) (l ++ [y]) (upd H3 D (.lst (l ++ [y])))→Q' y H3)→te (some x :: σ) H2 Q')→Q1 b H2)→tt (some x :: σ) H' Q1)
    (hd:∀ D l H',H D=none→Pv D xs.length l H'→Q (.ref D) H'):CompGo (Itl K a) H σ tt te Q:=by
  intro D hD
  refine ⟨fun i m H'=>m=xs.length - i∧i ≤ xs.length∧∃ l,Pv D i l H',⟨xs.length,by omega,Nat.zero_le _,[],h0 D hD⟩,?_⟩
  rintro i m H' ⟨rfl,hi,l,hp⟩
  have q:=hs D i l H' hp
  by_cases hlt:i < xs.length
  · refine .inr ⟨⟨xs,xs[i],q,by simp [hlt]⟩,fun x H2 y=>?_⟩
    obtain ⟨e,y⟩:=y
    subst e
    refine he D i x l H2 _ (y xs q) hp fun b H3 hf ht=>?_
    cases b with
    | false =>
      refine iteF ?_
      exact ⟨xs.length - (i + 1),by omega,rfl,hlt,l,hf rfl⟩
    | true =>
      refine iteT (ht rfl _ fun v H4 z1 z2=>?_)
      have hl2:=hl D i l H2 hp
      exact ⟨l,z1,Nat.lt_of_le_of_lt hl2 (by omega),xs.length - (i + 1),by omega,rfl,hlt,l ++ [v],z2⟩
  · have e:i=xs.length:=by omega
    subst e
    exact .inl ⟨⟨xs,q,Nat.le_refl _⟩,hd D l H' hD hp⟩
end L2
namespace B69
open PySem L2 S2
theorem kit_ints {K:PySem.W.Frag}:PySem.W.kitOne K (.type "int") (.type "int")=some true:=by rfl
theorem kit_intb {K:PySem.W.Frag}:PySem.W.kitOne K (.type "int") (.type "bool")=some false:=by rfl
theorem kit_tup {K:PySem.W.Frag}:PySem.W.kitOne K (.type "tuple") (.type "tuple")=some true:=by rfl
theorem kit_list {K:PySem.W.Frag}:PySem.W.kitOne K (.type "list") (.type "list")=some true:=by rfl
theorem dec_int {i j:Int}:decide (V.int i=V.int j)=decide (i=j):=by
  by_cases e:i=j
  · subst e
    simp
  · rw [decide_eq_false e,decide_eq_false fun z=>e (V.int.inj z)]
theorem kit_strs {K:PySem.W.Frag}:PySem.W.kitOne K (.type "str") (.type "str")=some true:=by rfl
theorem all3 (a b c:Bool):((List.range 3).all fun j=>match j with | 0=>a | 1=>b | _=>c)=(a && (b && c)):=by
  cases a <;> cases b <;> cases c <;> rfl
def plB (p:Pl) (nm:Str) (w h:Int):Bool:=decide (p.nm=nm) && (decide (p.w=w) && decide (p.h=h))
section
variable {P:Program} {w:World} {K:PySem.W.Frag} {mg:Str→Option Value} {base:Heap}
theorem scWay:FnScope ["floats","standing","side","rows","high","found"] ["floats","standing","side","rows","high"] (defScope sWay):=⟨rfl,rfl,rfl,by decide +kernel,rfl,by decide +kernel,by decide +kernel⟩
end
end B69
namespace B69
open PySem L2 S2
def wIdx (fls:List Fl) (pls:List Pl) (sd:Bool) (r0 r1 high:Int):List Nat:=(tIdx fls pls sd r0 high).filter fun i=>touB (gP pls i) r1 high
def spWay:Sp:=fun vs H Q _=>∃ (a b r:Addr) (fa pa:List Addr) (fls:List Fl) (pls:List Pl) (sd:Bool) (r0 r1 high:Int),vs=[.ref a,.ref b,.str (sideOf sd),.ref r,.int high]∧FlAt H a fa fls∧PlAt H b pa pls∧H r=some (.tup [.int r0,.int r1]) ∧
  ∀ D H',H D=none→Same H H'→H' D=some (.lst ((wIdx fls pls sd r0 r1 high).map fun i=>V.ref (pa.getD i 0)))→Q (.ref D) H'
def dOf (e0:Int) (l:List (Str × Int)):List (Key × V):=l.foldl (fun acc q=>putK acc (.inr q.1) (.int q.2)) [(.inr "",.int e0)]
def lookB:List (Str × Int)→Option Int→Str→Option Int
  | [],o,_=>o
  | q :: r,o,n=>lookB r (if n=q.1 then some q.2 else o) n
theorem look_fold (n:Str):∀ (l:List (Str × Int)) (d:List (Key × V)) (o:Option Int),valV d (.inr n)=o.map V.int→valV (l.foldl (fun acc q=>putK acc (.inr q.1) (.int q.2)) d) (.inr n)=(lookB l o n).map V.int
  | [],d,o,h=>h
  | q :: r,d,o,h=>by
    show valV (r.foldl _ (putK d (.inr q.1) (.int q.2))) (.inr n)=(lookB r (if n=q.1 then some q.2 else o) n).map V.int
    refine look_fold n r _ _ ?_
    rw [valV_put]
    by_cases e:n=q.1
    · subst e
      rw [if_pos rfl,if_pos rfl]
      rfl
    · rw [if_neg (fun z=>e (Sum.inr.inj z)),if_neg e]
      exact h
theorem look_dOf (e0:Int) (l:List (Str × Int)) (n:Str):valV (dOf e0 l) (.inr n)=(lookB l (if n="" then some e0 else none) n).map V.int:=by
  refine look_fold n l _ _ ?_
  by_cases e:n=""
  · subst e
    rw [if_pos rfl,valV_pos rfl]
    rfl
  · rw [if_neg e,valV_neg (fun z=>e (Sum.inr.inj z).symm)]
    rfl
theorem dOf_snoc (e0:Int) (l:List (Str × Int)) (q:Str × Int):dOf e0 (l ++ [q])=putK (dOf e0 l) (.inr q.1) (.int q.2):=by
  unfold dOf
  rw [List.foldl_append]
  rfl
theorem dOf_len (e0:Int):∀ l:List (Str × Int),(dOf e0 l).length ≤ l.length + 1:=by
  suffices h:∀ (l:List (Str × Int)) (d:List (Key × V)),(l.foldl (fun acc q=>putK acc (.inr q.1) (.int q.2)) d).length ≤ d.length + l.length by
    intro l
    have:=h l [(.inr "",.int e0)]
    simp only [List.length_cons,List.length_nil] at this
    unfold dOf
    omega
  intro l
  induction l with
  | nil=>intro d; exact Nat.le_refl _
  | cons q r ih =>
    intro d
    have h1:=ih (putK d (.inr q.1) (.int q.2))
    have h2:=length_putK d (.inr q.1) (.int q.2)
    show (r.foldl _ (putK d (.inr q.1) (.int q.2))).length ≤ d.length + (r.length + 1)
    omega
def lefts (fls:List Fl) (pls:List Pl) (r0 r1 high:Int):List (Str × Int):=(wIdx fls pls true r0 r1 high).map fun i=>((gP pls i).nm,(gP pls i).x + (gP pls i).w)
def rights (fls:List Fl) (pls:List Pl) (r0 r1 high:Int):List (Str × Int):=(wIdx fls pls false r0 r1 high).map fun i=>((gP pls i).nm,(gP pls i).x)
def lookL (fls:List Fl) (pls:List Pl) (r0 r1 high:Int) (n:Str):Option Int:=lookB (lefts fls pls r0 r1 high) (if n="" then some 0 else none) n
def lookR (W:Int) (fls:List Fl) (pls:List Pl) (r0 r1 high:Int) (n:Str):Option Int:=lookB (rights fls pls r0 r1 high) (if n="" then some W else none) n
def cantB (W:Int) (fls:List Fl) (pls:List Pl) (f:Fl) (r0 r1:Int) (n0 n1:Str):Bool:=match lookL fls pls r0 r1 f.h n0,lookR W fls pls r0 r1 f.h n1 with
  | some l,some r=>decide (r - l < f.w)
  | _,_=>false
def spCant:Sp:=fun vs H Q _=>∃ (a b r m:Addr) (fa pa:List Addr) (fls:List Fl) (pls:List Pl) (W r0 r1:Int) (n0 n1:Str),vs=[.int W,.ref a,.ref b,.ref r,.ref m]∧FlAt H a fa fls∧PlAt H b pa pls∧H r=some (.tup [.int r0,.int r1])∧H m=some (.tup [.str n0,.str n1])∧pls.length < fls.length ∧
  ∀ H',Same H H'→Q (.bl (cantB W fls pls (gF fls pls.length) r0 r1 n0 n1)) H'
section
variable {P:Program} {w:World} {K:PySem.W.Frag} {mg:Str→Option Value} {base:Heap}
set_option maxHeartbeats 4000000 in
theorem ok_way {f f1 f2:Addr} {fd d1 d2:FuncData} (F:Fun K "in_the_way" "in_the_way" sWay f fd) (N:Names mg)
    (G1:FnOk P w K mg base CX0 2 f1 d1 nTouching spTouching) (b1:Binds K d1 nTouching []) (m1:mg "touching"=some (.ref f1)) (k1:PySem.W.keepIn K (.ref f1)=true)
    (G2:FnOk P w K mg base CX0 1 f2 d2 ["placed","row","high"] spTou) (b2:Binds K d2 ["placed","row","high"] []) (m2:mg "touches"=some (.ref f2)) (k2:PySem.W.keepIn K (.ref f2)=true):FnOk P w K mg base CX0 3 f fd ["floats","standing","side","rows","high"] spWay:=by
  refine F.ok scWay (fun vs H Q E h=>?_) (fun cdv A outer s H vs Q E hr h=>?_)
  · obtain ⟨a,b,r,fa,pa,fls,pls,sd,r0,r1,high,e,_⟩:=h
    rw [e]
    rfl
  · obtain ⟨a,b,r,fa,pa,fls,pls,sd,r0,r1,high,e,hF,hP,hr0,k⟩:=h
    subst e
    have hr1:=hr.mono (j:=1) (by decide)
    refine ⟨_,pss_cons (ps_set (i:=5) scWay.nd rfl (Or.inl rfl) (pe_call G1 hr rfl m1 k1 b1 .nil pass0 (pa_cons (pv 0) (pa_cons (pv 1) (pa_cons (pv 2) (pa_cons (pe_ix ix_tup (pv 3) pe_int (fun _ _=>rfl)) (pa_cons (pv 4) pa_nil)))))))
      (pss_one (ps_ret (pe_comp (compSc_mk (fs:=defScope sWay) (N:=["floats","standing","side","rows","high","found"]) rfl rfl (by decide +kernel)) rfl (pi_list (pv 5)) (fun _ _ _ _ _=>pts_one (pt_val (pe_call G2 hr1 (by rfl) m2 k2 b2 .nil pass0 (pa_cons (pv 0) (pa_cons (pe_ix (r:=rIxT K) ix_tup (pv 4) pe_int (fun _ _=>rfl)) (pa_cons (pv 5) pa_nil)))))) (fun _ _ _ _ _=>pv 0)))),?_⟩
    refine ⟨_,rfl,_,rfl,_,rfl,_,rfl,r,_,_,_,rfl,rfl,SqT.of hr0,atI_nat (j:=0) rfl,_,rfl,a,b,fa,pa,fls,pls,sd,r0,high,rfl,hF,hP,fun l H1 hl s1 h1=>?_⟩
    refine ⟨_,rfl,l,rfl,⟨_,SqL.of h1⟩,?_⟩
    have hP1:=hP.same s1
    have lix:(tIdx fls pls sd r0 high).length ≤ 100:=by
      unfold tIdx
      refine Nat.le_trans (List.length_filter_le _ _) ?_
      rw [List.length_range]
      have:=hP.2.2
      omega
    refine comp_listF (K:=K) (a:=l) (xs:=(tIdx fls pls sd r0 high).map fun i=>V.ref (pa.getD i 0)) (fun D i m H'=>Same H1 H'∧H1 D=none∧H' D=some (.lst m)∧m=(((tIdx fls pls sd r0 high).take i).filter fun i=>touB (gP pls i) r1 high).map fun i=>V.ref (pa.getD i 0)) (small (by rw [List.length_map]; omega))
      (fun D hD=>⟨Same.put (Same.refl _) hD,hD,upd_same,rfl⟩) (fun D i m H' h=>SqL.of (h.1 _ _ h1)) (fun D i m H' h=>by rw [h.2.2.2,List.length_map]; exact Nat.le_trans (List.length_filter_le _ _) (by rw [List.length_take]; omega)) ?_ ?_
    · rintro D i x m H' Q1 hx ⟨s',hD,hm,rfl⟩ hq
      rw [List.getElem?_map] at hx
      cases ej:(tIdx fls pls sd r0 high)[i]? with
      | none=>rw [ej] at hx; cases hx
      | some j =>
        rw [ej] at hx
        cases hx
        have mj:=mem_tIdx.mp (List.mem_of_getElem? ej)
        have pj:=((hP1.same s').get mj.2.1).2
        have et:(tIdx fls pls sd r0 high).take (i + 1)=(tIdx fls pls sd r0 high).take i ++ [j]:=by rw [List.take_add_one,ej]; rfl
        refine ⟨_,rfl,_,rfl,r,_,_,_,rfl,rfl,SqT.of ((Same.trans s1 s') _ _ hr0),atI_nat (j:=1) rfl,_,rfl,_,gP pls j,r1,high,rfl,pj,_,rfl,?_⟩
        refine hq _ _ (fun hb=>⟨s',hD,hm,?_⟩) fun hb Q' hq'=>?_
        · rw [et,List.filter_append,List.filter_cons_of_neg (by rw [hb]; decide),List.filter_nil,List.append_nil]
        · refine ⟨_,rfl,hq' _ _ hm ⟨Same.put s' hD,hD,upd_same,?_⟩⟩
          rw [et,List.filter_append,List.filter_cons_of_pos (p:=fun i=>touB (gP pls i) r1 high) hb,List.filter_nil,List.map_append]
          rfl
    · rintro D m H' hD ⟨s',_,hm,rfl⟩
      rw [List.length_map,List.take_length] at hm
      exact k D H' (same_none s1 hD) (Same.trans s1 s') hm
end
end B69
namespace B69
open PySem L2 S2
section
variable {P:Program} {w:World} {K:PySem.W.Frag} {mg:Str→Option Value} {base:Heap}
theorem scCant:FnScope ["W","floats","standing","rows","names","wide","high","lefts","placed","rights"] ["W","floats","standing","rows","names"] (defScope sCant):=⟨rfl,rfl,rfl,by decide +kernel,rfl,by decide +kernel,by decide +kernel⟩
set_option maxHeartbeats 4000000 in
theorem ok_cant {f f1 f2 f3:Addr} {fd d1 d2 d3:FuncData} (F:Fun K "can_not_stand" "can_not_stand" sCant f fd) (N:Names mg)
    (G1:FnOk P w K mg base CX0 3 f1 d1 ["floats","standing","side","rows","high"] spWay) (b1:Binds K d1 ["floats","standing","side","rows","high"] []) (m1:mg "in_the_way"=some (.ref f1)) (k1:PySem.W.keepIn K (.ref f1)=true)
    (G2:FnOk P w K mg base CX0 1 f2 d2 ["placed"] spREnd) (b2:Binds K d2 ["placed"] []) (m2:mg "right_end"=some (.ref f2)) (k2:PySem.W.keepIn K (.ref f2)=true)
    (G3:FnOk P w K mg base CX0 1 f3 d3 ["placed"] spLEnd) (b3:Binds K d3 ["placed"] []) (m3:mg "left_end"=some (.ref f3)) (k3:PySem.W.keepIn K (.ref f3)=true):FnOk P w K mg base CX0 4 f fd ["W","floats","standing","rows","names"] spCant:=by
  refine F.ok scCant (fun vs H Q E h=>?_) (fun cdv A outer s H vs Q E hr h=>?_)
  · obtain ⟨a,b,r,m,fa,pa,fls,pls,W,r0,r1,n0,n1,e,_⟩:=h
    rw [e]
    rfl
  · obtain ⟨a,b,r,m,fa,pa,fls,pls,W,r0,r1,n0,n1,e,hF,hP,hr0,hm0,hlt,k⟩:=h
    subst e
    have hr1:=hr.mono (j:=1) (by decide)
    have hu:(A.deeper (PyProof.Rows.envOfC "can_not_stand" (defScope sCant) s.heap.objs.size f cdv)).units + 1 < cLine:=by have:=hr.units; omega
    refine ⟨_,pss_cons (ps_set (i:=5) scCant.nd rfl (Or.inl rfl) (pe_ix ix_tup (pe_ix ix_list (pv 1) (pe_callB call_len_seq (by rfl) N.len PySem.boot_len (pa_cons (pv 2) pa_nil)) (fun _ _=>rfl)) pe_int (fun _ _=>rfl)))
      (pss_cons (ps_set (i:=6) scCant.nd rfl (Or.inl rfl) (pe_ix ix_tup (pe_ix ix_list (pv 1) (pe_callB call_len_seq (by rfl) N.len PySem.boot_len (pa_cons (pv 2) pa_nil)) (fun _ _=>rfl)) pe_int (fun _ _=>rfl)))
      (pss_cons (ps_set (i:=7) scCant.nd rfl (Or.inl rfl) (pe_disp (pps_cons pe_str pe_int pps_nil) rfl rfl (by decide) (by decide)))
      (pss_cons (ps_for PassesOwn.never rfl (pi_list (pe_call G1 hr (by rfl) m1 k1 b1 .nil pass0 (pa_cons (pv 1) (pa_cons (pv 2) (pa_cons pe_str (pa_cons (pv 3) (pa_cons (pv 6) pa_nil))))))) (pg_name (i:=8) scCant.nd rfl (Or.inl rfl))
        (pss_one (ps_dput hu (pv 7) (pe_ix ix_tup (pv 8) pe_int (fun _ _=>rfl)) (pe_call G2 hr1 (by rfl) m2 k2 b2 .nil pass0 (pa_cons (pv 8) pa_nil)) rfl)))
      (pss_cons (ps_set (i:=9) scCant.nd rfl (Or.inl rfl) (pe_disp (pps_cons pe_str (pv 0) pps_nil) rfl rfl (by decide) (by decide)))
      (pss_cons (ps_for PassesOwn.never rfl (pi_list (pe_call G1 hr (by rfl) m1 k1 b1 .nil pass0 (pa_cons (pv 1) (pa_cons (pv 2) (pa_cons pe_str (pa_cons (pv 3) (pa_cons (pv 6) pa_nil))))))) (pg_name (i:=8) scCant.nd rfl (Or.inl rfl))
        (pss_one (ps_dput hu (pv 9) (pe_ix ix_tup (pv 8) pe_int (fun _ _=>rfl)) (pe_call G3 hr1 (by rfl) m3 k3 b3 .nil pass0 (pa_cons (pv 8) pa_nil)) rfl)))
      (pss_one (ps_ret (pe_and (pe_cmp (pc_din hu (pe_ix ix_tup (pv 4) pe_int (fun _ _=>rfl)) (pv 7))) (pe_and (pe_cmp (pc_din hu (pe_ix ix_tup (pv 4) pe_int (fun _ _=>rfl)) (pv 9)))
        (pe_one (pe_cmpR op_lt (pe_op op_sub (pe_dget hu (pv 9) (pe_ix ix_tup (pv 4) pe_int (fun _ _=>rfl)) (fun _ _=>rfl)) (pe_dget hu (pv 7) (pe_ix ix_tup (pv 4) pe_int (fun _ _=>rfl)) (fun _ _=>rfl))) (pv 5) (nomark _)))))))))))),?_⟩
    have hFg:=hF.get hlt
    have af:atI (fa.map V.ref) (((pa.map V.ref).length:Nat):Int)=some (V.ref (fa.getD pls.length 0)):=by
      refine atI_of (j:=pls.length) (by rw [List.length_map,hP.2.1.1,List.length_map]) ?_
      rw [List.getElem?_map,hFg.1]
      rfl
    refine ⟨_,rfl,_,rfl,b,_,rfl,.inl (SqL.of hP.1),a,_,_,_,rfl,rfl,SqL.of hF.1,af,_,_,_,_,rfl,rfl,SqT.of hFg.2,atI_nat (j:=2) rfl,?_⟩
    refine ⟨_,rfl,_,rfl,b,_,rfl,.inl (SqL.of hP.1),a,_,_,_,rfl,rfl,SqL.of hF.1,af,_,_,_,_,rfl,rfl,SqT.of hFg.2,atI_nat (j:=3) rfl,?_⟩
    -- lefts
    refine fun ld hld=>⟨upd_same,[(.inr "",.int 0)],rfl,by decide,?_⟩
    have s1:Same H (upd (upd H ld (.dK [])) ld (.dK (mergeK [] [(.inr "",.int 0)]))):=Same.put (Same.put (Same.refl _) hld) hld
    have h1:(upd (upd H ld (.dK [])) ld (.dK (mergeK [] [(.inr "",.int 0)]))) ld=some (.dK (dOf 0 [])):=upd_same
    generalize upd (upd H ld (.dK [])) ld (.dK (mergeK [] [(.inr "",.int 0)]))=H1 at *
    have hF1:=hF.same s1
    have hP1:=hP.same s1
    have hr1':=s1 _ _ hr0
    have hwl:∀ sd,(wIdx fls pls sd r0 r1 (gF fls pls.length).h).length ≤ 100:=fun sd=>by
      unfold wIdx tIdx
      refine Nat.le_trans (List.length_filter_le _ _) (Nat.le_trans (List.length_filter_le _ _) ?_)
      rw [List.length_range]
      have:=hP.2.2
      omega
    have hwp:∀ sd j,j ∈ wIdx fls pls sd r0 r1 (gF fls pls.length).h→j < pls.length:=fun sd j hj=>by
      unfold wIdx at hj
      exact (mem_tIdx.mp (List.mem_filter.mp hj).1).2.1
    generalize hhi:(gF fls pls.length).h=high at *
    refine ⟨_,rfl,_,rfl,_,rfl,_,rfl,a,b,r,fa,pa,fls,pls,true,r0,r1,high,rfl,hF1,hP1,hr1',fun D H2 hD s2 h2=>?_⟩
    have s02:=Same.trans s1 s2
    have h2d:=s2 _ _ h1
    refine ⟨D,rfl,⟨_,SqL.of h2⟩,for_list (K:=K) (a:=D) (xs:=(wIdx fls pls true r0 r1 high).map fun i=>V.ref (pa.getD i 0)) (fun i σ H9=>∃ v8,σ=[some (.int W),some (.ref a),some (.ref b),some (.ref r),some (.ref m),some (.int (gF fls pls.length).w),some (.int high),some (.ref ld),v8,none]∧Same H H9∧H9 D=some (.lst ((wIdx fls pls true r0 r1 high).map fun i=>V.ref (pa.getD i 0)))∧H9 ld=some (.dK (dOf 0 ((lefts fls pls r0 r1 high).take i))))
      ⟨_,rfl,s02,h2,h2d⟩ (fun i σ H9 _ ⟨_,_,_,z,_⟩=>SqL.of z) ?_ ?_⟩
    · rintro i x σ H9 hx ⟨v8,rfl,s9,hD9,hl9⟩
      rw [List.getElem?_map] at hx
      cases ej:(wIdx fls pls true r0 r1 high)[i]? with
      | none=>rw [ej] at hx; cases hx
      | some j =>
        rw [ej] at hx
        cases hx
        have pj:=((hP.same s9).get (hwp true j (List.mem_of_getElem? ej))).2
        have el:(lefts fls pls r0 r1 high)[i]?=some ((gP pls j).nm,(gP pls j).x + (gP pls j).w):=by
          unfold lefts
          rw [List.getElem?_map,ej]
          rfl
        have nD:D ≠ ld:=fun z=>by rw [z,hl9] at hD9; cases hD9
        refine ⟨_,rfl,_,gP pls j,rfl,pj,_,rfl,_,rfl,_,_,_,_,rfl,rfl,SqT.of pj,atI_nat (j:=0) rfl,ld,_,rfl,DPut.k (k:=.inr (gP pls j).nm) hl9 (small (Nat.le_trans (dOf_len _ _) (by rw [List.length_take]; have:=hwl true; have:(lefts fls pls r0 r1 high).length=(wIdx fls pls true r0 r1 high).length:=List.length_map ..; omega))),?_⟩
        refine (show ∃ v8,_ from ⟨_,rfl,Same.put s9 hld,?_,?_⟩)
        · rw [upd_ne nD]
          exact hD9
        · rw [upd_same,List.take_add_one,el]
          have:=dOf_snoc 0 ((lefts fls pls r0 r1 high).take i) ((gP pls j).nm,(gP pls j).x + (gP pls j).w)
          show some (HO.dK (putK (dOf 0 ((lefts fls pls r0 r1 high).take i)) (.inr (gP pls j).nm) (.int ((gP pls j).x + (gP pls j).w))))=some (HO.dK (dOf 0 ((lefts fls pls r0 r1 high).take i ++ [((gP pls j).nm,(gP pls j).x + (gP pls j).w)])))
          rw [this]
    rintro σ H3 ⟨v8,rfl,s3,_,hl3⟩
    have ell:((wIdx fls pls true r0 r1 high).map fun i=>V.ref (pa.getD i 0)).length=(lefts fls pls r0 r1 high).length:=by
      unfold lefts
      rw [List.length_map,List.length_map]
    rw [ell,List.take_length] at hl3
    -- rights
    refine fun lr hlr=>⟨_,rfl,upd_same,[(.inr "",.int W)],rfl,(by show 1 ≤ 15; decide),?_⟩
    have hlr0:H lr=none:=same_none s3 hlr
    have s4:Same H3 (upd (upd H3 lr (.dK [])) lr (.dK (mergeK [] [(.inr "",.int W)]))):=Same.put (Same.put (Same.refl _) hlr) hlr
    have h4:(upd (upd H3 lr (.dK [])) lr (.dK (mergeK [] [(.inr "",.int W)]))) lr=some (.dK (dOf W [])):=upd_same
    generalize upd (upd H3 lr (.dK [])) lr (.dK (mergeK [] [(.inr "",.int W)]))=H4 at *
    have s04:=Same.trans s3 s4
    refine ⟨_,rfl,_,rfl,_,rfl,_,rfl,a,b,r,fa,pa,fls,pls,false,r0,r1,high,rfl,hF.same s04,hP.same s04,s04 _ _ hr0,fun D2 H5 hD2 s5 h5=>?_⟩
    have s05:=Same.trans s04 s5
    refine ⟨D2,rfl,⟨_,SqL.of h5⟩,for_list (K:=K) (a:=D2) (xs:=(wIdx fls pls false r0 r1 high).map fun i=>V.ref (pa.getD i 0)) (fun i σ H9=>∃ v8,σ=[some (.int W),some (.ref a),some (.ref b),some (.ref r),some (.ref m),some (.int (gF fls pls.length).w),some (.int high),some (.ref ld),v8,some (.ref lr)]∧Same H H9∧H9 D2=some (.lst ((wIdx fls pls false r0 r1 high).map fun i=>V.ref (pa.getD i 0)))∧H9 lr=some (.dK (dOf W ((rights fls pls r0 r1 high).take i)))∧H9 ld=some (.dK (dOf 0 (lefts fls pls r0 r1 high))))
      ⟨_,rfl,s05,h5,s5 _ _ h4,s5 _ _ (s4 _ _ hl3)⟩ (fun i σ H9 _ ⟨_,_,_,z,_⟩=>SqL.of z) ?_ ?_⟩
    · rintro i x σ H9 hx ⟨v8,rfl,s9,hD9,hl9,hd9⟩
      rw [List.getElem?_map] at hx
      cases ej:(wIdx fls pls false r0 r1 high)[i]? with
      | none=>rw [ej] at hx; cases hx
      | some j =>
        rw [ej] at hx
        cases hx
        have pj:=((hP.same s9).get (hwp false j (List.mem_of_getElem? ej))).2
        have el:(rights fls pls r0 r1 high)[i]?=some ((gP pls j).nm,(gP pls j).x):=by
          unfold rights
          rw [List.getElem?_map,ej]
          rfl
        have nD:D2 ≠ lr:=fun z=>by rw [z,hl9] at hD9; cases hD9
        have nd:ld ≠ lr:=fun z=>by rw [← z,hl3] at hlr; cases hlr
        refine ⟨_,rfl,_,gP pls j,rfl,pj,_,rfl,_,rfl,_,_,_,_,rfl,rfl,SqT.of pj,atI_nat (j:=0) rfl,lr,_,rfl,DPut.k (k:=.inr (gP pls j).nm) hl9 (small (Nat.le_trans (dOf_len _ _) (by rw [List.length_take]; have:=hwl false; have:(rights fls pls r0 r1 high).length=(wIdx fls pls false r0 r1 high).length:=List.length_map ..; omega))),?_⟩
        refine (show ∃ v8,_ from ⟨_,rfl,Same.put s9 hlr0,?_,?_,?_⟩)
        · rw [upd_ne nD]
          exact hD9
        · rw [upd_same,List.take_add_one,el]
          have:=dOf_snoc W ((rights fls pls r0 r1 high).take i) ((gP pls j).nm,(gP pls j).x)
          show some (HO.dK (putK (dOf W ((rights fls pls r0 r1 high).take i)) (.inr (gP pls j).nm) (.int (gP pls j).x)))=some (HO.dK (dOf W ((rights fls pls r0 r1 high).take i ++ [((gP pls j).nm,(gP pls j).x)])))
          rw [this]
        · rw [upd_ne nd]
          exact hd9
    rintro σ H6 ⟨v8,rfl,s6,_,hl6,hd6⟩
    have elr:((wIdx fls pls false r0 r1 high).map fun i=>V.ref (pa.getD i 0)).length=(rights fls pls r0 r1 high).length:=by
      unfold rights
      rw [List.length_map,List.length_map]
    rw [elr,List.take_length] at hl6
    have hm6:=s6 _ _ hm0
    have kk:=k H6 s6
    have eL:valV (dOf 0 (lefts fls pls r0 r1 high)) (.inr n0)=(lookL fls pls r0 r1 high n0).map V.int:=look_dOf _ _ _
    have eR:valV (dOf W (rights fls pls r0 r1 high)) (.inr n1)=(lookR W fls pls r0 r1 high n1).map V.int:=look_dOf _ _ _
    unfold cantB at kk
    rw [hhi] at kk
    refine ⟨_,rfl,m,_,_,_,rfl,rfl,SqT.of hm6,atI_nat (j:=0) rfl,_,rfl,ld,_,rfl,DGet.k (k:=.inr n0) hd6,_,rfl,?_⟩
    cases fL:lookL fls pls r0 r1 high n0 with
    | none =>
      rw [fL] at kk
      exact iteC (by rw [eL,fL]; rfl) kk
    | some l =>
      refine iteB (by rw [eL,fL]; rfl) ?_
      refine ⟨_,rfl,m,_,_,_,rfl,rfl,SqT.of hm6,atI_nat (j:=1) rfl,_,rfl,lr,_,rfl,DGet.k (k:=.inr n1) hl6,_,rfl,?_⟩
      cases fR:lookR W fls pls r0 r1 high n1 with
      | none =>
        rw [fL,fR] at kk
        exact iteC (by rw [eR,fR]; rfl) kk
      | some z =>
        rw [fL,fR] at kk
        rw [fL] at eL
        rw [fR] at eR
        refine iteB (by rw [eR]; rfl) ?_
        have gR:DGet H6 lr (.str n1) (some (.int z)):=by
          have:=DGet.k (k:=.inr n1) hl6
          rw [eR] at this
          exact this
        have gL:DGet H6 ld (.str n0) (some (.int l)):=by
          have:=DGet.k (k:=.inr n0) hd6
          rw [eL] at this
          exact this
        refine ⟨_,rfl,_,rfl,m,_,_,_,rfl,rfl,SqT.of hm6,atI_nat (j:=1) rfl,lr,_,rfl,gR,?_⟩
        refine ⟨_,rfl,_,rfl,m,_,_,_,rfl,rfl,SqT.of hm6,atI_nat (j:=0) rfl,ld,_,rfl,gL,_,_,rfl,rfl,?_⟩
        exact ⟨_,rfl,_,_,rfl,rfl,kk⟩
end
end B69
namespace B69
open PySem L2 S2
def papStep (W:Int) (fls:List Fl) (pls:List Pl) (f:Fl) (o:Option Int) (t:Tri):Option Int:=o.bind fun e=>if (decide (e < t.1) && cantB W fls pls f e (t.1 - 1) t.2.1 t.2.2)=true then some t.1 else none
def papEnd (W:Int) (fls:List Fl) (pls:List Pl) (f:Fl) (row:Int) (ts:List Tri):Option Int:=ts.foldl (papStep W fls pls f) (some row)
theorem pap_none {W:Int} {fls:List Fl} {pls:List Pl} {f:Fl}:∀ ts:List Tri,ts.foldl (papStep W fls pls f) none=none
  | []=>rfl
  | _ :: r=>pap_none r
theorem pap_snoc {W:Int} {fls:List Fl} {pls:List Pl} {f:Fl} {row:Int} {ts:List Tri} {i:Nat} {t:Tri} (h:ts[i]?=some t):papEnd W fls pls f row (ts.take (i + 1))=papStep W fls pls f (papEnd W fls pls f row (ts.take i)) t:=by
  unfold papEnd
  rw [List.take_add_one,h]
  exact List.foldl_append ..
theorem pap_stop {W:Int} {fls:List Fl} {pls:List Pl} {f:Fl} {row:Int} {ts:List Tri} {i:Nat} (h:papEnd W fls pls f row (ts.take i)=none):papEnd W fls pls f row ts=none:=by
  have e:ts=ts.take i ++ ts.drop i:=(List.take_append_drop i ts).symm
  unfold papEnd at *
  rw [e,List.foldl_append,h]
  exact pap_none _
def standsB (W:Int) (fls:List Fl) (pls:List Pl) (f:Fl) (row:Int) (p:Pl) (ts:List Tri):Bool:=match papEnd W fls pls f row ts with
  | none=>false
  | some e=>if edR W fls pls e p.h - edL fls pls e p.h < p.w then false else decide (p.x=if f.lf=true then edL fls pls e p.h else edR W fls pls e p.h - p.w) && decide (p.y=e)
theorem all2 (a b:Bool):((List.range 2).all fun j=>match j with | 0=>a | _=>b)=(a && b):=by
  cases a <;> cases b <;> rfl
def spStands:Sp:=fun vs H Q _=>∃ (a b c q:Addr) (fa pa ta:List Addr) (fls:List Fl) (pls:List Pl) (W row:Int) (p:Pl) (ts:List Tri),vs=[.int W,.ref a,.ref b,.int row,.ref c,.ref q]∧FlAt H a fa fls∧PlAt H b pa pls∧H c=some (.tup (plRow p))∧H q=some (.lst (ta.map V.ref))∧RowsOf H ta (ts.map triV)∧pls.length < fls.length ∧
  ∀ H',Same H H'→Q (.bl (standsB W fls pls (gF fls pls.length) row p ts)) H'
section
variable {P:Program} {w:World} {K:PySem.W.Frag} {mg:Str→Option Value} {base:Heap}
theorem scStands:FnScope ["W","floats","standing","row","placed","paper","till","left","right","side","edges"] ["W","floats","standing","row","placed","paper"] (defScope sStands):=⟨rfl,rfl,rfl,by decide +kernel,rfl,by decide +kernel,by decide +kernel⟩
set_option maxHeartbeats 4000000 in
theorem ok_stands {f f1 f2 f3:Addr} {fd d1 d2 d3:FuncData} (F:Fun K "stands" "stands" sStands f fd) (N:Names mg)
    (G1:FnOk P w K mg base CX0 4 f1 d1 ["W","floats","standing","rows","names"] spCant) (b1:Binds K d1 ["W","floats","standing","rows","names"] []) (m1:mg "can_not_stand"=some (.ref f1)) (k1:PySem.W.keepIn K (.ref f1)=true)
    (G2:FnOk P w K mg base CX0 4 f2 d2 ["W","floats","standing","row","high"] spEdges) (b2:Binds K d2 ["W","floats","standing","row","high"] []) (m2:mg "edges_at"=some (.ref f2)) (k2:PySem.W.keepIn K (.ref f2)=true)
    (G3:FnOk P w K mg base CX0 1 f3 d3 ["side","wide","edges"] spAcross) (b3:Binds K d3 ["side","wide","edges"] []) (m3:mg "place_across"=some (.ref f3)) (k3:PySem.W.keepIn K (.ref f3)=true):FnOk P w K mg base CX0 5 f fd ["W","floats","standing","row","placed","paper"] spStands:=by
  refine F.ok scStands (fun vs H Q E h=>?_) (fun cdv A outer s H vs Q E hr h=>?_)
  · obtain ⟨a,b,c,q,fa,pa,ta,fls,pls,W,row,p,ts,e,_⟩:=h
    rw [e]
    rfl
  · obtain ⟨a,b,c,q,fa,pa,ta,fls,pls,W,row,p,ts,e,hF,hP,hc,hq,hR,hlt,k⟩:=h
    subst e
    have hr1:=hr.mono (j:=1) (by decide)
    have hu:(A.deeper (PyProof.Rows.envOfC "stands" (defScope sStands) s.heap.objs.size f cdv)).units + 20 < cLine:=by have:=hr.units; omega
    refine ⟨_,pss_cons (ps_for PassesOwn.never rfl (pi_list (pv 5)) (pg_tup rfl (pgs_cons (pg_name (i:=6) scStands.nd rfl (Or.inl rfl)) (pgs_cons (pg_name (i:=7) scStands.nd rfl (Or.inl rfl)) (pgs_cons (pg_name (i:=8) scStands.nd rfl (Or.inl rfl)) pgs_nil))))
        (pss_cons (ps_if (pt_not (pw_and (pt_cmpR op_lt (pv 3) (pv 6) (nomark _)) (pw_and1 (pt_val (pe_call G1 hr (by rfl) m1 k1 b1 .nil pass0 (pa_cons (pv 0) (pa_cons (pv 1) (pa_cons (pv 2) (pa_cons (pe_tup (pa_cons (pv 3) (pa_cons (pe_op op_sub (pv 6) pe_int) pa_nil))) (pa_cons (pe_tup (pa_cons (pv 7) (pa_cons (pv 8) pa_nil))) pa_nil))))))))).pt) (pss_one (ps_ret pe_bl)) pss_nil)
        (pss_one (ps_set (i:=3) scStands.nd rfl (Or.inl rfl) (pv 6)))))
      (pss_cons (ps_set (i:=9) scStands.nd rfl (Or.inl rfl) (pe_ix ix_tup (pe_ix ix_list (pv 1) (pe_callB call_len_seq (by rfl) N.len PySem.boot_len (pa_cons (pv 2) pa_nil)) (fun _ _=>rfl)) pe_int (fun _ _=>rfl)))
      (pss_cons (ps_set (i:=10) scStands.nd rfl (Or.inl rfl) (pe_call G2 hr (by rfl) m2 k2 b2 .nil pass0 (pa_cons (pv 0) (pa_cons (pv 1) (pa_cons (pv 2) (pa_cons (pv 3) (pa_cons (pe_ix ix_tup (pv 4) pe_int (fun _ _=>rfl)) pa_nil)))))))
      (pss_cons (ps_if (pt_cmpR op_lt (pe_op op_sub (pe_ix ix_tup (pv 10) pe_int (fun _ _=>rfl)) (pe_ix ix_tup (pv 10) pe_int (fun _ _=>rfl))) (pe_ix ix_tup (pv 4) pe_int (fun _ _=>rfl)) (nomark _)) (pss_one (ps_ret pe_bl)) pss_nil)
      (pss_one (ps_ret (pe_cmpR (op_eqDeep hu) (pe_tup (pa_cons (pe_ix ix_tup (pv 4) pe_int (fun _ _=>rfl)) (pa_cons (pe_ix ix_tup (pv 4) pe_int (fun _ _=>rfl)) pa_nil))) (pe_tup (pa_cons (pe_call G3 hr1 (by rfl) m3 k3 b3 .nil pass0 (pa_cons (pv 9) (pa_cons (pe_ix ix_tup (pv 4) pe_int (fun _ _=>rfl)) (pa_cons (pv 10) pa_nil)))) (pa_cons (pv 3) pa_nil))) (nomark _))))))),?_⟩
    have hFg:=hF.get hlt
    have af:atI (fa.map V.ref) (((pa.map V.ref).length:Nat):Int)=some (V.ref (fa.getD pls.length 0)):=by
      refine atI_of (j:=pls.length) (by rw [List.length_map,hP.2.1.1,List.length_map]) ?_
      rw [List.getElem?_map,hFg.1]
      rfl
    generalize hf:gF fls pls.length=g at *
    have lta:ta.length=ts.length:=by rw [hR.1,List.length_map]
    refine ⟨_,rfl,q,rfl,⟨_,SqL.of hq⟩,for_list (K:=K) (a:=q) (xs:=ta.map V.ref) (fun i σ H9=>∃ (e:Int) (v6 v7 v8:Option V),σ=[some (.int W),some (.ref a),some (.ref b),some (.int e),some (.ref c),some (.ref q),v6,v7,v8,none,none]∧Same H H9∧papEnd W fls pls g row (ts.take i)=some e)
      ⟨row,none,none,none,rfl,Same.refl _,rfl⟩ (fun i σ H9 _ ⟨_,_,_,_,_,z,_⟩=>SqL.of (z _ _ hq)) ?_ ?_⟩
    · rintro i x σ H9 hx ⟨e,v6,v7,v8,rfl,s9,he⟩
      obtain ⟨tp,rw0,rfl,ep,er,hp⟩:=(hR.same s9).get hx
      rw [List.getElem?_map] at er
      cases ef:ts[i]? with
      | none=>rw [ef] at er; cases er
      | some t =>
        rw [ef] at er
        cases er
        have sn:=pap_snoc (W:=W) (fls:=fls) (pls:=pls) (f:=g) (row:=row) ef
        rw [he] at sn
        have stop:(decide (e < t.1) && cantB W fls pls g e (t.1 - 1) t.2.1 t.2.2)=false→∀ H',Same H H'→Q (.bl false) H':=fun hz H' s'=>by
          have hn:papEnd W fls pls g row ts=none:=by
            refine pap_stop (i:=i + 1) ?_
            rw [sn]
            show (if (decide (e < t.1) && cantB W fls pls g e (t.1 - 1) t.2.1 t.2.2)=true then some t.1 else none)=none
            rw [hz]
            rfl
          have:=k H' s'
          unfold standsB at this
          rw [hn] at this
          exact this
        refine ⟨tp,_,rfl,SqT.of hp,rfl,_,_,rfl,_,_,rfl,_,_,rfl,rfl,?_⟩
        refine ⟨_,rfl,_,rfl,_,_,rfl,rfl,_,rfl,?_⟩
        by_cases hlt2:e < t.1
        · refine iteB (decide_eq_true hlt2) ?_
          refine ⟨_,rfl,_,rfl,_,rfl,_,rfl,_,rfl,_,_,rfl,rfl,(by show 2 ≤ sizeLine; decide),fun t1 ht1=>?_⟩
          have s10:Same H9 (upd H9 t1 (.tup [.int e,.int (t.1 - 1)])):=Same.put (Same.refl _) ht1
          have h10:(upd H9 t1 (.tup [.int e,.int (t.1 - 1)])) t1=some (.tup [.int e,.int (t.1 - 1)]):=upd_same
          generalize upd H9 t1 (.tup [.int e,.int (t.1 - 1)])=H10 at *
          refine ⟨_,rfl,_,rfl,(by show 2 ≤ sizeLine; decide),fun t2 ht2=>?_⟩
          have s11:Same H10 (upd H10 t2 (.tup [.str t.2.1,.str t.2.2])):=Same.put (Same.refl _) ht2
          have h11:(upd H10 t2 (.tup [.str t.2.1,.str t.2.2])) t2=some (.tup [.str t.2.1,.str t.2.2]):=upd_same
          generalize upd H10 t2 (.tup [.str t.2.1,.str t.2.2])=H11 at *
          have S11:=Same.trans s9 (Same.trans s10 s11)
          refine ⟨a,b,t1,t2,fa,pa,fls,pls,W,e,t.1 - 1,t.2.1,t.2.2,rfl,hF.same S11,hP.same S11,s11 _ _ h10,h11,hlt,fun H12 s12=>?_⟩
          rw [hf]
          have S12:=Same.trans S11 s12
          cases hcb:cantB W fls pls g e (t.1 - 1) t.2.1 t.2.2 with
          | false =>
            refine ⟨_,rfl,iteT ?_⟩
            exact stop (by rw [hcb,Bool.and_false]) H12 S12
          | true =>
            refine ⟨_,rfl,iteF ?_⟩
            refine ⟨_,rfl,?_⟩
            refine (show ∃ e v6 v7 v8,_ from ⟨t.1,_,_,_,rfl,S12,?_⟩)
            rw [sn]
            show (if (decide (e < t.1) && cantB W fls pls g e (t.1 - 1) t.2.1 t.2.2)=true then some t.1 else none)=some t.1
            rw [hcb,decide_eq_true hlt2]
            rfl
        · refine iteC (decide_eq_false hlt2) (iteT ?_)
          exact stop (by rw [decide_eq_false hlt2]; rfl) H9 s9
    rintro σ H1 ⟨e,v6,v7,v8,rfl,s1,he⟩
    rw [List.length_map,lta,List.take_length] at he
    have kk:=fun H' s'=>k H' s'
    unfold standsB at kk
    rw [he] at kk
    dsimp only at kk
    have hc1:=s1 _ _ hc
    refine ⟨_,rfl,_,rfl,b,_,rfl,.inl (SqL.of (s1 _ _ hP.1)),a,_,_,_,rfl,rfl,SqL.of (s1 _ _ hF.1),af,_,_,_,_,rfl,rfl,SqT.of (s1 _ _ hFg.2),atI_nat (j:=1) rfl,?_⟩
    refine ⟨_,rfl,_,rfl,_,rfl,_,rfl,_,rfl,c,_,_,_,rfl,rfl,SqT.of hc1,atI_nat (j:=4) rfl,a,b,fa,pa,fls,pls,W,e,p.h,rfl,hF.same s1,hP.same s1,fun t H2 ht s2 h2=>?_⟩
    have s02:=Same.trans s1 s2
    have hc2:=s02 _ _ hc
    generalize edR W fls pls e p.h=er at *
    generalize edL fls pls e p.h=el at *
    refine ⟨_,rfl,t,_,_,_,rfl,rfl,SqT.of h2,atI_nat (j:=1) rfl,_,rfl,t,_,_,_,rfl,rfl,SqT.of h2,atI_nat (j:=0) rfl,_,_,rfl,rfl,_,rfl,c,_,_,_,rfl,rfl,SqT.of hc2,atI_nat (j:=3) rfl,_,_,rfl,rfl,_,rfl,?_⟩
    by_cases hw:er - el < p.w
    · refine iteB (decide_eq_true hw) ?_
      have:=kk H2 s02
      rw [if_pos hw] at this
      exact this
    · refine iteC (decide_eq_false hw) ?_
      simp only [if_neg hw] at kk
      refine ⟨_,rfl,c,_,_,_,rfl,rfl,SqT.of hc2,atI_nat (j:=1) rfl,_,rfl,c,_,_,_,rfl,rfl,SqT.of hc2,atI_nat (j:=2) rfl,(by show 2 ≤ sizeLine; decide),fun t1 ht1=>?_⟩
      have s3:Same H2 (upd H2 t1 (.tup [.int p.x,.int p.y])):=Same.put (Same.refl _) ht1
      have h3:(upd H2 t1 (.tup [.int p.x,.int p.y])) t1=some (.tup [.int p.x,.int p.y]):=upd_same
      generalize upd H2 t1 (.tup [.int p.x,.int p.y])=H3 at *
      refine ⟨_,rfl,_,rfl,c,_,_,_,rfl,rfl,SqT.of (s3 _ _ hc2),atI_nat (j:=3) rfl,_,rfl,t,g.lf,p.w,el,er,rfl,s3 _ _ h2,?_⟩
      refine ⟨_,rfl,(by show 2 ≤ sizeLine; decide),fun t2 ht2=>?_⟩
      generalize (if g.lf=true then el else er - p.w)=ax at *
      have s4:Same H3 (upd H3 t2 (.tup [.int ax,.int e])):=Same.put (Same.refl _) ht2
      have h4:(upd H3 t2 (.tup [.int ax,.int e])) t2=some (.tup [.int ax,.int e]):=upd_same
      generalize upd H3 t2 (.tup [.int ax,.int e])=H4 at *
      refine ⟨t1,t2,_,_,fun j=>match j with | 0=>decide (p.x=ax) | _=>decide (p.y=e),rfl,rfl,.inr ⟨SqT.of (s4 _ _ h3),SqT.of h4⟩,rfl,(fun j x y e1 e2=>?_),?_⟩
      · match j,e1,e2 with
        | 0,e1,e2 =>
          cases e1
          cases e2
          exact EqD.flat rfl rfl
        | 1,e1,e2 =>
          cases e1
          cases e2
          exact EqD.flat rfl rfl
      · exact (congrArg (fun b=>Q (V.bl b) H4) (all2 (decide (p.x=ax)) (decide (p.y=e)))).mpr (kk H4 (Same.trans s02 (Same.trans s3 s4)))
end
end B69
namespace B69
open PySem L2 S2
theorem cut_take (xs:List V) (i:Nat) (h:i ≤ xs.length):cutV xs none (some (i:Int))=xs.take i:=by
  unfold cutV
  rw [HT.sIx_none,HT.sIx_nat,List.drop_zero,Nat.sub_zero,Nat.min_eq_left h]
def rowAt (pls:List Pl):Nat→Int
  | 0=>0
  | i + 1=>(gP pls i).y
def oneB (W:Int) (fls:List Fl) (pls:List Pl) (pps:List (List Tri)) (i:Nat):Bool:=plB (gP pls i) (gF fls i).nm (gF fls i).w (gF fls i).h && standsB W fls (pls.take i) (gF fls i) (rowAt pls i) (gP pls i) (pps.getD i [])
end B69
namespace B69
open PySem L2 S2
theorem look_not {n:Str}:∀ {l:List (Str × Int)} {o:Option Int},(∀ q ∈ l,q.1 ≠ n)→lookB l o n=o
  | [],_,_=>rfl
  | q :: r,o,h=>by
    show lookB r (if n=q.1 then some q.2 else o) n=o
    rw [if_neg fun z=>h q (List.mem_cons_self ..) z.symm]
    exact look_not fun q' hq=>h q' (List.mem_cons_of_mem _ hq)
theorem look_mem {n:Str} {e:Int}:∀ {l:List (Str × Int)} {o:Option Int},((n,e) ∈ l ∨ o=some e)→(∀ q ∈ l,q.1=n→q.2=e)→lookB l o n=some e
  | [],o,h,_=>by
    rcases h with h | h
    · cases h
    · exact h
  | q :: r,o,h,hq=>by
    show lookB r (if n=q.1 then some q.2 else o) n=some e
    refine look_mem ?_ fun q' hq'=>hq q' (List.mem_cons_of_mem _ hq')
    by_cases z:n=q.1
    · rw [if_pos z]
      exact .inr (congrArg some (hq q (List.mem_cons_self ..) z.symm))
    · rw [if_neg z]
      rcases h with h | h
      · rcases List.mem_cons.mp h with h | h
        · rw [← h] at z
          exact absurd rfl z
        · exact .inl h
      · exact .inr h
structure NmOk (pls:List Pl):Prop where
  one:∀ i j,i < pls.length→j < pls.length→(gP pls i).nm=(gP pls j).nm→i=j
  ne:∀ i,i < pls.length→(gP pls i).nm ≠ ""
theorem wIdx_lt {fls:List Fl} {pls:List Pl} {sd:Bool} {r0 r1 high:Int} {j:Nat} (h:j ∈ wIdx fls pls sd r0 r1 high):j < pls.length:=by
  unfold wIdx at h
  exact (mem_tIdx.mp (List.mem_filter.mp h).1).2.1
theorem lookL_none {fls:List Fl} {pls:List Pl} {r0 r1 high:Int} (hN:NmOk pls):lookL fls pls r0 r1 high ""=some 0:=by
  unfold lookL
  rw [if_pos rfl]
  refine look_not fun q hq=>?_
  unfold lefts at hq
  obtain ⟨j,hj,rfl⟩:=List.mem_map.mp hq
  exact hN.ne j (wIdx_lt hj)
theorem lookR_none {W:Int} {fls:List Fl} {pls:List Pl} {r0 r1 high:Int} (hN:NmOk pls):lookR W fls pls r0 r1 high ""=some W:=by
  unfold lookR
  rw [if_pos rfl]
  refine look_not fun q hq=>?_
  unfold rights at hq
  obtain ⟨j,hj,rfl⟩:=List.mem_map.mp hq
  exact hN.ne j (wIdx_lt hj)
theorem lookL_some {fls:List Fl} {pls:List Pl} {r0 r1 high:Int} {i:Nat} (hN:NmOk pls) (hi:i ∈ wIdx fls pls true r0 r1 high):lookL fls pls r0 r1 high (gP pls i).nm=some ((gP pls i).x + (gP pls i).w):=by
  unfold lookL
  refine look_mem (.inl ?_) fun q hq e=>?_
  · unfold lefts
    exact List.mem_map.mpr ⟨i,hi,rfl⟩
  · unfold lefts at hq
    obtain ⟨j,hj,rfl⟩:=List.mem_map.mp hq
    rw [hN.one j i (wIdx_lt hj) (wIdx_lt hi) e]
theorem lookR_some {W:Int} {fls:List Fl} {pls:List Pl} {r0 r1 high:Int} {i:Nat} (hN:NmOk pls) (hi:i ∈ wIdx fls pls false r0 r1 high):lookR W fls pls r0 r1 high (gP pls i).nm=some (gP pls i).x:=by
  unfold lookR
  refine look_mem (.inl ?_) fun q hq e=>?_
  · unfold rights
    exact List.mem_map.mpr ⟨i,hi,rfl⟩
  · unfold rights at hq
    obtain ⟨j,hj,rfl⟩:=List.mem_map.mp hq
    rw [hN.one j i (wIdx_lt hj) (wIdx_lt hi) e]
theorem triRow_le {fls:List Fl} {pls:List Pl} {row h:Int}:(∀ i,nrL fls pls row h=some i→triRow pls (nrL fls pls row h) (nrR fls pls row h) ≤ endOf (gP pls i))∧∀ i,nrR fls pls row h=some i→triRow pls (nrL fls pls row h) (nrR fls pls row h) ≤ endOf (gP pls i):=by
  refine ⟨fun i e=>?_,fun i e=>?_⟩
  · rw [e]
    cases e2:nrR fls pls row h with
    | none=>exact Int.le_refl _
    | some j =>
      show (if endOf (gP pls j) < endOf (gP pls i) then endOf (gP pls j) else endOf (gP pls i)) ≤ _
      split <;> omega
  · rw [e]
    cases e2:nrL fls pls row h with
    | none=>exact Int.le_refl _
    | some j =>
      show (if endOf (gP pls i) < endOf (gP pls j) then endOf (gP pls i) else endOf (gP pls j)) ≤ _
      split <;> omega
theorem cant_of {W:Int} {fls:List Fl} {pls:List Pl} {f:Fl} {row:Int} (hN:NmOk pls) (hp:∀ p ∈ pls,InW W row p) (hw:f.w ≤ W) (hh:0 < f.h) (hf:edR W fls pls row f.h - edL fls pls row f.h < f.w) :
    cantB W fls pls f row (triRow pls (nrL fls pls row f.h) (nrR fls pls row f.h) - 1) (nmOf pls (nrL fls pls row f.h)) (nmOf pls (nrR fls pls row f.h))=true:=by
  have hT:=(noFit hw hf).2.1
  have tl:=triRow_le (fls:=fls) (pls:=pls) (row:=row) (h:=f.h)
  have L:lookL fls pls row (triRow pls (nrL fls pls row f.h) (nrR fls pls row f.h) - 1) f.h (nmOf pls (nrL fls pls row f.h))=some (edL fls pls row f.h):=by
    cases e:nrL fls pls row f.h with
    | none =>
      have:edL fls pls row f.h=0:=by unfold edL; rw [e]
      rw [this]
      exact lookL_none hN
    | some i =>
      have m:=(bestR_some e).1
      have t1:=tl.1 i e
      rw [e] at t1 hT
      have:edL fls pls row f.h=(gP pls i).x + (gP pls i).w:=by unfold edL; rw [e]
      rw [this]
      refine lookL_some hN ?_
      unfold wIdx
      refine List.mem_filter.mpr ⟨m,?_⟩
      exact tou_on (hp _ (gP_mem (mem_tIdx.mp m).2.1)) (by omega) hh (by omega)
  have R:lookR W fls pls row (triRow pls (nrL fls pls row f.h) (nrR fls pls row f.h) - 1) f.h (nmOf pls (nrR fls pls row f.h))=some (edR W fls pls row f.h):=by
    cases e:nrR fls pls row f.h with
    | none =>
      have:edR W fls pls row f.h=W:=by unfold edR; rw [e]
      rw [this]
      exact lookR_none hN
    | some i =>
      have m:=(bestL_some e).1
      have t1:=tl.2 i e
      rw [e] at t1 hT
      have:edR W fls pls row f.h=(gP pls i).x:=by unfold edR; rw [e]
      rw [this]
      refine lookR_some hN ?_
      unfold wIdx
      refine List.mem_filter.mpr ⟨m,?_⟩
      exact tou_on (hp _ (gP_mem (mem_tIdx.mp m).2.1)) (by omega) hh (by omega)
  unfold cantB
  rw [L,R]
  exact decide_eq_true hf
theorem pap_ok {W:Int} {fls:List Fl} {pls:List Pl} {f:Fl} (hN:NmOk pls) (hw:f.w ≤ W) (hh:0 < f.h):∀ (n:Nat) (row:Int),(∀ p ∈ pls,InW W row p)→papEnd W fls pls f row (papF W fls pls f.w f.h n row).1=some (papF W fls pls f.w f.h n row).2:=by
  intro n
  induction n with
  | zero=>intro row _; rfl
  | succ n ih =>
    intro row hp
    by_cases hf:edR W fls pls row f.h - edL fls pls row f.h < f.w
    · have n2:=(noFit hw hf).2.1
      have e:papF W fls pls f.w f.h (n + 1) row=((triRow pls (nrL fls pls row f.h) (nrR fls pls row f.h),nmOf pls (nrL fls pls row f.h),nmOf pls (nrR fls pls row f.h)) :: (papF W fls pls f.w f.h n (triRow pls (nrL fls pls row f.h) (nrR fls pls row f.h))).1,(papF W fls pls f.w f.h n (triRow pls (nrL fls pls row f.h) (nrR fls pls row f.h))).2):=by
        rw [papF,if_pos hf]
      rw [e]
      have q:=ih (triRow pls (nrL fls pls row f.h) (nrR fls pls row f.h)) (fun p hm=>(hp p hm).mono (by omega))
      have st:papStep W fls pls f (some row) (triRow pls (nrL fls pls row f.h) (nrR fls pls row f.h),nmOf pls (nrL fls pls row f.h),nmOf pls (nrR fls pls row f.h))=some (triRow pls (nrL fls pls row f.h) (nrR fls pls row f.h)):=by
        show (if (decide (row < triRow pls (nrL fls pls row f.h) (nrR fls pls row f.h)) && cantB W fls pls f row (triRow pls (nrL fls pls row f.h) (nrR fls pls row f.h) - 1) (nmOf pls (nrL fls pls row f.h)) (nmOf pls (nrR fls pls row f.h)))=true then some (triRow pls (nrL fls pls row f.h) (nrR fls pls row f.h)) else none)=_
        rw [cant_of hN hp hw hh hf,decide_eq_true n2]
        rfl
      show List.foldl (papStep W fls pls f) (papStep W fls pls f (some row) _) _=_
      rw [st]
      exact q
    · have e:papF W fls pls f.w f.h (n + 1) row=([],row):=by rw [papF,if_neg hf]
      rw [e]
      rfl
end B69
namespace S2
open PySem L2
theorem allF_get {W:Int} {fls:List Fl}:∀ {n k:Nat},k < n→gP (allF W fls n).1 k=(standF W fls (allF W fls k).1 (lastRow (allF W fls k).1)).1∧(allF W fls n).1.take k=(allF W fls k).1
  | n + 1,k,h=>by
    have ln:=(allF_len W fls n).1
    have e:(allF W fls (n + 1)).1=(allF W fls n).1 ++ [(standF W fls (allF W fls n).1 (lastRow (allF W fls n).1)).1]:=rfl
    rw [e]
    by_cases hk:k=n
    · subst hk
      refine ⟨?_,?_⟩
      · have q:=gP_snoc_eq (pls:=(allF W fls k).1) (s:=(standF W fls (allF W fls k).1 (lastRow (allF W fls k).1)).1)
        rw [ln] at q
        exact q
      · rw [List.take_append_of_le_length (by omega),List.take_of_length_le (by omega)]
    · have q:=allF_get (W:=W) (fls:=fls) (n:=n) (k:=k) (by omega)
      exact ⟨by rw [gP_snoc_lt (by omega)]; exact q.1,by rw [List.take_append_of_le_length (by omega)]; exact q.2⟩
theorem Pl.ext' {p q:Pl} (h1:p.nm=q.nm) (h2:p.x=q.x) (h3:p.y=q.y) (h4:p.w=q.w) (h5:p.h=q.h):p=q:=by
  cases p
  cases q
  simp_all
end S2
namespace B69
open PySem L2 S2
theorem allP_get {W:Int} {fls:List Fl}:∀ {n k:Nat},k < n→(allF W fls n).2.getD k []=(standF W fls (allF W fls k).1 (lastRow (allF W fls k).1)).2
  | 0,k,h=>absurd h (Nat.not_lt_zero _)
  | n + 1,k,h=>by
    have ln:=(allF_len W fls n).2
    show ((allF W fls n).2 ++ [(standF W fls (allF W fls n).1 (lastRow (allF W fls n).1)).2]).getD k []=_
    rw [List.getD_eq_getElem?_getD]
    by_cases e:k=n
    · subst e
      rw [List.getElem?_append_right (by omega),ln,Nat.sub_self]
      rfl
    · rw [List.getElem?_append_left (by omega),← List.getD_eq_getElem?_getD]
      exact allP_get (by omega)
structure NmF (fls:List Fl):Prop where
  one:∀ i j,i < fls.length→j < fls.length→(gF fls i).nm=(gF fls j).nm→i=j
  ne:∀ i,i < fls.length→(gF fls i).nm ≠ ""
theorem all_nm {W:Int} {fls:List Fl} {n k:Nat} (hk:k < n):(gP (allF W fls n).1 k).nm=(gF fls k).nm:=by
  rw [(allF_get hk).1]
  show (gF fls (allF W fls k).1.length).nm=_
  rw [(allF_len W fls k).1]
theorem NmF.pls {W:Int} {fls:List Fl} (h:NmF fls) {n:Nat} (hn:n ≤ fls.length):NmOk (allF W fls n).1:=by
  have ln:=(allF_len W fls n).1
  refine ⟨fun i j hi hj e=>?_,fun i hi=>?_⟩
  · rw [ln] at hi hj
    rw [all_nm hi,all_nm hj] at e
    exact h.one i j (by omega) (by omega) e
  · rw [ln] at hi
    rw [all_nm hi]
    exact h.ne i (by omega)
theorem rowAt_all {W:Int} {fls:List Fl} {n k:Nat} (hk:k < n):rowAt (allF W fls n).1 k=lastRow (allF W fls k).1:=by
  cases k with
  | zero=>rfl
  | succ k =>
    show (gP (allF W fls n).1 k).y=lastRow ((allF W fls k).1 ++ [_])
    rw [lastRow_snoc,(allF_get (by omega:k < n)).1]
theorem one_ok {W:Int} {fls:List Fl} (hF:FlsOk W fls) (hN:NmF fls) {k:Nat} (hk:k < fls.length):oneB W fls (allF W fls fls.length).1 (allF W fls fls.length).2 k=true:=by
  obtain ⟨f1,f2,f3⟩:=hF _ (gF_mem' hk)
  have lk:=(allF_len W fls k).1
  obtain ⟨q0,q1⟩:=allF_ok hF k (by omega)
  have st:=standF_ok (row:=lastRow (allF W fls k).1) hF (by rw [lk]; exact hk) q1
  have pe:=pap_ok (W:=W) (fls:=fls) (f:=gF fls k) (hN.pls (W:=W) (n:=k) (by omega)) f2 f3 (cntF (lastRow (allF W fls k).1) (allF W fls k).1) (lastRow (allF W fls k).1) q1
  unfold oneB
  rw [rowAt_all hk,allP_get hk,(allF_get hk).1,(allF_get hk).2]
  have e2:(standF W fls (allF W fls k).1 (lastRow (allF W fls k).1)).2=(papF W fls (allF W fls k).1 (gF fls k).w (gF fls k).h (cntF (lastRow (allF W fls k).1) (allF W fls k).1) (lastRow (allF W fls k).1)).1:=by
    unfold standF
    rw [lk]
  have ey:(standF W fls (allF W fls k).1 (lastRow (allF W fls k).1)).1.y=(papF W fls (allF W fls k).1 (gF fls k).w (gF fls k).h (cntF (lastRow (allF W fls k).1) (allF W fls k).1) (lastRow (allF W fls k).1)).2:=by
    unfold standF
    rw [lk]
  rw [← e2,← ey] at pe
  have hnm:=st.nm
  have hw:=st.w
  have hh:=st.h
  have hx:=st.x
  have hfit:=st.fit
  rw [lk] at hnm hw hh hx hfit
  generalize (standF W fls (allF W fls k).1 (lastRow (allF W fls k).1)).1=s at *
  unfold standsB plB
  rw [pe]
  dsimp only
  rw [hh,hw,if_neg (by omega),hnm,hx]
  simp
end B69
namespace B69
open PySem L2 S2
def endS (sd:Bool) (p:Pl):Int:=if sd=true then p.x + p.w else p.x
def barP (fls:List Fl) (pls:List Pl) (sd:Bool) (row h:Int) (n:Str) (i:Nat):Bool:=decide ((gF fls i).lf=sd) && (decide ((gP pls i).nm=n) && lawTou row h (gP pls i))
def barF (fls:List Fl) (pls:List Pl) (sd:Bool) (e0 row h:Int) (n:Str):Option Int:=if n="" then some e0 else ((List.range pls.length).find? (barP fls pls sd row h n)).map fun i=>endS sd (gP pls i)
theorem bar_iff {fls:List Fl} {pls:List Pl} {sd:Bool} {e0 row h e:Int} {n:Str} (hN:NmOk pls):barF fls pls sd e0 row h n=some e ↔ (n=""∧e=e0) ∨ (n ≠ ""∧∃ i,i < pls.length∧(gF fls i).lf=sd∧(gP pls i).nm=n∧lawTou row h (gP pls i)=true∧e=endS sd (gP pls i)):=by
  unfold barF
  by_cases hn:n=""
  · rw [if_pos hn]
    constructor
    · intro z; exact .inl ⟨hn,(Option.some.inj z).symm⟩
    · rintro (⟨_,z⟩ | ⟨z,_⟩)
      · rw [z]
      · exact absurd hn z
  · rw [if_neg hn]
    constructor
    · intro z
      cases hf:(List.range pls.length).find? (barP fls pls sd row h n) with
      | none=>rw [hf] at z; cases z
      | some i =>
        rw [hf] at z
        have hi:=List.mem_range.mp (List.mem_of_find?_eq_some hf)
        have hb:=List.find?_some hf
        unfold barP at hb
        rw [Bool.and_eq_true,Bool.and_eq_true,decide_eq_true_iff,decide_eq_true_iff] at hb
        exact .inr ⟨hn,i,hi,hb.1,hb.2.1,hb.2.2,(Option.some.inj z).symm⟩
    · rintro (⟨z,_⟩ | ⟨_,i,hi,h1,h2,h3,h4⟩)
      · exact absurd z hn
      · cases hf:(List.range pls.length).find? (barP fls pls sd row h n) with
        | none =>
          rw [List.find?_eq_none] at hf
          have:=hf i (List.mem_range.mpr hi)
          unfold barP at this
          rw [decide_eq_true h1,decide_eq_true h2,h3] at this
          exact absurd rfl this
        | some j =>
          have hj:=List.mem_range.mp (List.mem_of_find?_eq_some hf)
          have hb:=List.find?_some hf
          unfold barP at hb
          rw [Bool.and_eq_true,Bool.and_eq_true,decide_eq_true_iff,decide_eq_true_iff] at hb
          have ej:j=i:=hN.one j i hj hi (by rw [hb.2.1,h2])
          subst ej
          rw [h4]
          rfl
theorem look_is {n:Str} {e:Int}:∀ {l:List (Str × Int)} {o:Option Int},lookB l o n=some e→(n,e) ∈ l ∨ o=some e
  | [],o,h=>.inr h
  | q :: r,o,h=>by
    have h':lookB r (if n=q.1 then some q.2 else o) n=some e:=h
    rcases look_is h' with z | z
    · exact .inl (List.mem_cons_of_mem _ z)
    · by_cases c:n=q.1
      · rw [if_pos c] at z
        have:=Option.some.inj z
        subst this c
        exact .inl List.mem_cons_self
      · rw [if_neg c] at z
        exact .inr z
theorem lookL_iff {fls:List Fl} {pls:List Pl} {r0 r1 h e:Int} {n:Str} (hN:NmOk pls):lookL fls pls r0 r1 h n=some e ↔ (n=""∧e=0) ∨ (n ≠ ""∧∃ i ∈ wIdx fls pls true r0 r1 h,(gP pls i).nm=n∧e=(gP pls i).x + (gP pls i).w):=by
  constructor
  · intro z
    by_cases hn:n=""
    · subst hn
      rw [lookL_none hN] at z
      exact .inl ⟨rfl,(Option.some.inj z).symm⟩
    · unfold lookL at z
      rw [if_neg hn] at z
      rcases look_is z with y | y
      · unfold lefts at y
        obtain ⟨i,hi,ei⟩:=List.mem_map.mp y
        injection ei with e1 e2
        exact .inr ⟨hn,i,hi,e1,e2.symm⟩
      · cases y
  · rintro (⟨rfl,rfl⟩ | ⟨hn,i,hi,rfl,rfl⟩)
    · exact lookL_none hN
    · exact lookL_some hN hi
theorem lookR_iff {W:Int} {fls:List Fl} {pls:List Pl} {r0 r1 h e:Int} {n:Str} (hN:NmOk pls):lookR W fls pls r0 r1 h n=some e ↔ (n=""∧e=W) ∨ (n ≠ ""∧∃ i ∈ wIdx fls pls false r0 r1 h,(gP pls i).nm=n∧e=(gP pls i).x):=by
  constructor
  · intro z
    by_cases hn:n=""
    · subst hn
      rw [lookR_none hN] at z
      exact .inl ⟨rfl,(Option.some.inj z).symm⟩
    · unfold lookR at z
      rw [if_neg hn] at z
      rcases look_is z with y | y
      · unfold rights at y
        obtain ⟨i,hi,ei⟩:=List.mem_map.mp y
        injection ei with e1 e2
        exact .inr ⟨hn,i,hi,e1,e2.symm⟩
      · cases y
  · rintro (⟨rfl,rfl⟩ | ⟨hn,i,hi,rfl,rfl⟩)
    · exact lookR_none hN
    · exact lookR_some hN hi
theorem mem_wIdx {fls:List Fl} {pls:List Pl} {sd:Bool} {r0 r1 h:Int} {i:Nat}:i ∈ wIdx fls pls sd r0 r1 h ↔ i < fls.length∧i < pls.length∧(gF fls i).lf=sd∧touB (gP pls i) r0 h=true∧touB (gP pls i) r1 h=true:=by
  unfold wIdx
  rw [List.mem_filter,mem_tIdx]
  constructor
  · rintro ⟨⟨a,b,c,d⟩,e⟩; exact ⟨a,b,c,d,e⟩
  · rintro ⟨a,b,c,d,e⟩; exact ⟨⟨a,b,c,d⟩,e⟩
theorem tou_mid {p:Pl} {r0 r1 r h:Int} (h0:touB p r0 h=true) (h1:touB p r1 h=true) (a:r0 ≤ r) (b:r ≤ r1):touB p r h=true:=by
  rw [touB_iff] at *
  omega
def BarR (W:Int) (fls:List Fl) (pls:List Pl) (f:Fl) (n0 n1:Str) (r:Int):Prop:=∃ L R,barF fls pls true 0 r f.h n0=some L∧barF fls pls false W r f.h n1=some R∧R - L < f.w
theorem cant_iff {W row0:Int} {fls:List Fl} {pls:List Pl} {f:Fl} {row till:Int} {n0 n1:Str} (hN:NmOk pls) (hp:∀ p ∈ pls,InW W row0 p) (hl:pls.length ≤ fls.length) (hh:0 < f.h) (hlt:row < till) :
    cantB W fls pls f row (till - 1) n0 n1=true ↔ ∀ r,row ≤ r→r < till→BarR W fls pls f n0 n1 r:=by
  have tq:∀ i,i < pls.length→∀ r,lawTou r f.h (gP pls i)=touB (gP pls i) r f.h:=fun i hi r=>lawTou_eq (hp _ (gP_mem hi)) hh
  constructor
  · intro z r h1 h2
    unfold cantB at z
    cases eL:lookL fls pls row (till - 1) f.h n0 with
    | none=>rw [eL] at z; cases z
    | some L =>
      cases eR:lookR W fls pls row (till - 1) f.h n1 with
      | none=>rw [eL,eR] at z; cases z
      | some R =>
        rw [eL,eR] at z
        refine ⟨L,R,(bar_iff hN).mpr ?_,(bar_iff hN).mpr ?_,of_decide_eq_true z⟩
        · rcases (lookL_iff hN).mp eL with y | ⟨hn,i,hi,e1,e2⟩
          · exact .inl y
          · obtain ⟨a,b,c,d,e⟩:=mem_wIdx.mp hi
            exact .inr ⟨hn,i,b,c,e1,by rw [tq i b]; exact tou_mid d e h1 (by omega),e2⟩
        · rcases (lookR_iff hN).mp eR with y | ⟨hn,i,hi,e1,e2⟩
          · exact .inl y
          · obtain ⟨a,b,c,d,e⟩:=mem_wIdx.mp hi
            exact .inr ⟨hn,i,b,c,e1,by rw [tq i b]; exact tou_mid d e h1 (by omega),e2⟩
  · intro z
    obtain ⟨L,R,hL,hR,hlt1⟩:=z row (Int.le_refl _) hlt
    obtain ⟨L',R',hL',hR',_⟩:=z (till - 1) (by omega) (by omega)
    have eL:lookL fls pls row (till - 1) f.h n0=some L:=by
      refine (lookL_iff hN).mpr ?_
      rcases (bar_iff hN).mp hL with y | ⟨hn,i,hi,c,e1,t1,e2⟩
      · exact .inl y
      · rcases (bar_iff hN).mp hL' with y | ⟨_,j,hj,c',e1',t1',_⟩
        · exact absurd y.1 hn
        · have ej:j=i:=hN.one j i hj hi (by rw [e1,e1'])
          subst ej
          rw [tq j hj] at t1 t1'
          exact .inr ⟨hn,j,mem_wIdx.mpr ⟨by omega,hj,c,t1,t1'⟩,e1,e2⟩
    have eR:lookR W fls pls row (till - 1) f.h n1=some R:=by
      refine (lookR_iff hN).mpr ?_
      rcases (bar_iff hN).mp hR with y | ⟨hn,i,hi,c,e1,t1,e2⟩
      · exact .inl y
      · rcases (bar_iff hN).mp hR' with y | ⟨_,j,hj,c',e1',t1',_⟩
        · exact absurd y.1 hn
        · have ej:j=i:=hN.one j i hj hi (by rw [e1,e1'])
          subst ej
          rw [tq j hj] at t1 t1'
          exact .inr ⟨hn,j,mem_wIdx.mpr ⟨by omega,hj,c,t1,t1'⟩,e1,e2⟩
    unfold cantB
    rw [eL,eR]
    exact decide_eq_true hlt1
theorem bar_tight {W row0:Int} {fls:List Fl} {pls:List Pl} {f:Fl} {n0 n1:Str} {r:Int} (hN:NmOk pls) (hp:∀ p ∈ pls,InW W row0 p) (hl:pls.length ≤ fls.length) (hh:0 < f.h) (h:BarR W fls pls f n0 n1 r):edR W fls pls r f.h - edL fls pls r f.h < f.w:=by
  have tq:∀ i,i < pls.length→∀ r,lawTou r f.h (gP pls i)=touB (gP pls i) r f.h:=fun i hi r=>lawTou_eq (hp _ (gP_mem hi)) hh
  obtain ⟨L,R,hL,hR,hlt⟩:=h
  have a1:L ≤ edL fls pls r f.h:=by
    rcases (bar_iff hN).mp hL with ⟨_,y⟩ | ⟨hn,i,hi,c,e1,t1,e2⟩
    · rw [y]; exact edL_0 hp r f.h
    · rw [e2]
      exact edL_ge (mem_tIdx.mpr ⟨by omega,hi,c,by rw [← tq i hi]; exact t1⟩)
  have a2:edR W fls pls r f.h ≤ R:=by
    rcases (bar_iff hN).mp hR with ⟨_,y⟩ | ⟨hn,i,hi,c,e1,t1,e2⟩
    · rw [y]; exact edR_W hp r f.h
    · rw [e2]
      exact edR_le (mem_tIdx.mpr ⟨by omega,hi,c,by rw [← tq i hi]; exact t1⟩)
  omega
theorem pap_sound {W row0:Int} {fls:List Fl} {pls:List Pl} {f:Fl} (hN:NmOk pls) (hp:∀ p ∈ pls,InW W row0 p) (hl:pls.length ≤ fls.length) (hh:0 < f.h):∀ {ts:List Tri} {row e:Int},papEnd W fls pls f row ts=some e→row ≤ e∧∀ r,row ≤ r→r < e→edR W fls pls r f.h - edL fls pls r f.h < f.w
  | [],row,e,h=>by
    have e1:row=e:=Option.some.inj h
    exact ⟨by omega,fun r h1 h2=>by omega⟩
  | t :: ts,row,e,h=>by
    have h':ts.foldl (papStep W fls pls f) (papStep W fls pls f (some row) t)=some e:=h
    by_cases c:(decide (row < t.1) && cantB W fls pls f row (t.1 - 1) t.2.1 t.2.2)=true
    · have st:papStep W fls pls f (some row) t=some t.1:=if_pos c
      rw [st] at h'
      obtain ⟨q1,q2⟩:=pap_sound hN hp hl hh (ts:=ts) h'
      rw [Bool.and_eq_true,decide_eq_true_iff] at c
      have bars:=(cant_iff hN hp hl hh c.1).mp c.2
      refine ⟨by omega,fun r h1 h2=>?_⟩
      by_cases hr:r < t.1
      · exact bar_tight hN hp hl hh (bars r h1 hr)
      · exact q2 r (by omega) h2
    · have st:papStep W fls pls f (some row) t=none:=if_neg c
      rw [st,pap_none] at h'
      cases h'
theorem one_iff {W row:Int} {fls:List Fl} {pls:List Pl} {s p:Pl} {ts:List Tri} (hN:NmOk pls) (hp:∀ p ∈ pls,InW W row p) (hl:pls.length ≤ fls.length) (hh:0 < (gF fls pls.length).h) (st:StandOk W fls pls row s) :
    (plB p (gF fls pls.length).nm (gF fls pls.length).w (gF fls pls.length).h && standsB W fls pls (gF fls pls.length) row p ts)=true ↔ p=s∧papEnd W fls pls (gF fls pls.length) row ts=some s.y:=by
  have hnm:=st.nm
  have hw:=st.w
  have hsh:=st.h
  have hx:=st.x
  have hfit:=st.fit
  have hge:=st.ge
  have hfst:=st.first
  generalize gF fls pls.length=f at *
  constructor
  · intro z
    rw [Bool.and_eq_true] at z
    obtain ⟨z1,z2⟩:=z
    unfold plB at z1
    rw [Bool.and_eq_true,Bool.and_eq_true,decide_eq_true_iff,decide_eq_true_iff,decide_eq_true_iff] at z1
    obtain ⟨p1,p2,p3⟩:=z1
    unfold standsB at z2
    cases e:papEnd W fls pls f row ts with
    | none=>rw [e] at z2; cases z2
    | some r =>
      rw [e] at z2
      dsimp only at z2
      obtain ⟨q1,q2⟩:=pap_sound hN hp hl hh e
      by_cases c:edR W fls pls r p.h - edL fls pls r p.h < p.w
      · rw [if_pos c] at z2; cases z2
      · rw [if_neg c,Bool.and_eq_true,decide_eq_true_iff,decide_eq_true_iff] at z2
        rw [p2,p3] at c z2
        have er:r=s.y:=by
          by_cases c1:r < s.y
          · exact absurd (hfst r q1 c1) c
          · by_cases c2:s.y < r
            · have:=q2 s.y hge c2
              omega
            · omega
        subst er
        refine ⟨Pl.ext' (by rw [p1,hnm]) (by rw [z2.1,hx]) z2.2 (by rw [p2,hw]) (by rw [p3,hsh]),rfl⟩
  · rintro ⟨rfl,e⟩
    unfold standsB plB
    rw [e]
    dsimp only
    rw [hsh,hw,if_neg (by omega),hnm,hx]
    simp
end B69
namespace L2
open PySem PySem.Spec PyProof.Rows
section
variable {es:List Expr} {env:Env}
end
end L2
namespace B69
open PySem L2 S2
theorem seq_abs {t u:TS} {D:Ends} {σ:St} {H:Hp} (h:∀ N:St→Hp→Prop,(∀ σ H,u D σ H→N σ H)→t { D with nx:=N } σ H):tSeq t u D σ H:=h _ fun _ _ x=>x
theorem kit_bi {K:PySem.W.Frag}:PySem.W.kitOne K (.type "bool") (.type "int")=some true:=by rfl
theorem kit_bb {K:PySem.W.Frag}:PySem.W.kitOne K (.type "bool") (.type "bool")=some true:=by rfl
theorem kit_lt {K:PySem.W.Frag}:PySem.W.kitOne K (.type "list") (.type "tuple")=some false:=by rfl
theorem kit_tl {K:PySem.W.Frag}:PySem.W.kitOne K (.type "tuple") (.type "list")=some false:=by rfl
theorem kit_nt {K:PySem.W.Frag}:PySem.W.kitOne K (.type "NoneType") (.type "tuple")=some false:=by rfl
theorem kit_nl {K:PySem.W.Frag}:PySem.W.kitOne K (.type "NoneType") (.type "list")=some false:=by rfl
def TriE (H:Hp) (e:V):Prop:=∃ (p:Addr) (x:V) (s1 s2:Str),e=.ref p∧H p=some (.tup [x,.str s1,.str s2])∧((∃ z,x=.int z) ∨ ∃ b,x=.bl b)
def PapE (H:Hp) (u:V):Prop:=(∃ (q:Addr) (es:List V),u=.ref q∧H q=some (.lst es)∧es.length ≤ 10000∧∀ e ∈ es,TriE H e) ∨ ∃ (q:Addr) (es:List V),u=.ref q∧H q=some (.tup es)
def PlE (H:Hp) (e:V):Prop:=(∃ (p:Addr) (s:Str) (zs:List Int),e=.ref p∧H p=some (.tup (.str s :: zs.map V.int))) ∨ e=.non ∨ ∃ (p:Addr) (es:List V),e=.ref p∧H p=some (.lst es)
def PlsV (H:Hp) (v:V):Prop:=(∃ (l:Addr) (es:List V),v=.ref l∧H l=some (.lst es)∧es.length ≤ 10000∧∀ e ∈ es,PlE H e) ∨ (∃ (l:Addr) (es:List V),v=.ref l∧H l=some (.tup es)) ∨ v=.non
def PapsV (H:Hp) (v:V):Prop:=(∃ (l:Addr) (es:List V),v=.ref l∧H l=some (.lst es)∧es.length ≤ 10000∧∀ e ∈ es,PapE H e) ∨ (∃ (l:Addr) (es:List V),v=.ref l∧H l=some (.tup es)) ∨ v=.non
def OkPl (H:Hp) (e:V) (p:Pl):Prop:=∃ a,e=.ref a∧H a=some (.tup (plRow p))
def OkPap (H:Hp) (u:V) (ts:List Tri):Prop:=∃ (q:Addr) (ta:List Addr),u=.ref q∧H q=some (.lst (ta.map V.ref))∧RowsOf H ta (ts.map triV)
theorem TriE.same {H H':Hp} {e:V} (h:TriE H e) (s:Same H H'):TriE H' e:=by
  obtain ⟨p,x,s1,s2,e1,hp,hx⟩:=h
  exact ⟨p,x,s1,s2,e1,s _ _ hp,hx⟩
theorem PapE.same {H H':Hp} {e:V} (h:PapE H e) (s:Same H H'):PapE H' e:=by
  rcases h with ⟨q,es,e1,h1,h2,h3⟩ | ⟨q,es,e1,h1⟩
  · exact .inl ⟨q,es,e1,s _ _ h1,h2,fun e he=>(h3 e he).same s⟩
  · exact .inr ⟨q,es,e1,s _ _ h1⟩
theorem PlE.same {H H':Hp} {e:V} (h:PlE H e) (s:Same H H'):PlE H' e:=by
  rcases h with ⟨q,es,zs,e1,h1⟩ | e1 | ⟨q,es,e1,h1⟩
  · exact .inl ⟨q,es,zs,e1,s _ _ h1⟩
  · exact .inr (.inl e1)
  · exact .inr (.inr ⟨q,es,e1,s _ _ h1⟩)
theorem PlsV.same {H H':Hp} {e:V} (h:PlsV H e) (s:Same H H'):PlsV H' e:=by
  rcases h with ⟨q,es,e1,h1,h2,h3⟩ | ⟨q,es,e1,h1⟩ | e1
  · exact .inl ⟨q,es,e1,s _ _ h1,h2,fun e he=>(h3 e he).same s⟩
  · exact .inr (.inl ⟨q,es,e1,s _ _ h1⟩)
  · exact .inr (.inr e1)
theorem PapsV.same {H H':Hp} {e:V} (h:PapsV H e) (s:Same H H'):PapsV H' e:=by
  rcases h with ⟨q,es,e1,h1,h2,h3⟩ | ⟨q,es,e1,h1⟩ | e1
  · exact .inl ⟨q,es,e1,s _ _ h1,h2,fun e he=>(h3 e he).same s⟩
  · exact .inr (.inl ⟨q,es,e1,s _ _ h1⟩)
  · exact .inr (.inr e1)
theorem OkPl.same {H H':Hp} {e:V} {p:Pl} (h:OkPl H e p) (s:Same H H'):OkPl H' e p:=by
  obtain ⟨a,e1,h1⟩:=h
  exact ⟨a,e1,s _ _ h1⟩
theorem OkPap.same {H H':Hp} {e:V} {ts:List Tri} (h:OkPap H e ts) (s:Same H H'):OkPap H' e ts:=by
  obtain ⟨a,ta,e1,h1,h2⟩:=h
  exact ⟨a,ta,e1,s _ _ h1,h2.same s⟩
theorem OkPl.less {H H':Hp} {e:V} {p:Pl} (h:OkPl H' e p) (s:Same H H') (k:PlE H e):OkPl H e p:=by
  obtain ⟨a,rfl,h1⟩:=h
  rcases k with ⟨q,es,zs,e1,hq⟩ | e1 | ⟨q,es,e1,hq⟩
  · cases e1
    rw [s _ _ hq] at h1
    exact ⟨a,rfl,by rw [hq]; exact h1⟩
  · cases e1
  · cases e1
    rw [s _ _ hq] at h1
    cases h1
theorem OkPap.less {H H':Hp} {e:V} {ts:List Tri} (h:OkPap H' e ts) (s:Same H H') (k:PapE H e):OkPap H e ts:=by
  obtain ⟨a,ta,rfl,h1,h2⟩:=h
  rcases k with ⟨q,es,e1,hq,hl,he⟩ | ⟨q,es,e1,hq⟩
  · cases e1
    have ez:=(s _ _ hq).symm.trans h1
    cases ez
    refine ⟨a,ta,rfl,hq,h2.1,fun i p r e1 e2=>?_⟩
    have z:=h2.2 i p r e1 e2
    obtain ⟨p',x,s1,s2,ep,hp,_⟩:=he (.ref p) (List.mem_map.mpr ⟨p,List.mem_of_getElem? e1,rfl⟩)
    cases ep
    rw [s _ _ hp] at z
    rw [hp]
    exact z
  · cases e1
    have ez:=(s _ _ hq).symm.trans h1
    cases ez
theorem OkPl.uniq {H:Hp} {e:V} {p q:Pl} (h:OkPl H e p) (g:OkPl H e q):p=q:=by
  obtain ⟨a,rfl,h1⟩:=h
  obtain ⟨b,e1,h2⟩:=g
  cases e1
  have z:=h1.symm.trans h2
  obtain ⟨a1,a2,a3,a4,a5⟩:=p
  obtain ⟨b1,b2,b3,b4,b5⟩:=q
  unfold plRow at z
  cases z
  rfl
theorem tri_inj {t u:Tri} (h:triV t=triV u):t=u:=by
  obtain ⟨a1,a2,a3⟩:=t
  obtain ⟨b1,b2,b3⟩:=u
  unfold triV at h
  cases h
  rfl
theorem OkPap.uniq {H:Hp} {e:V} {p q:List Tri} (h:OkPap H e p) (g:OkPap H e q):p=q:=by
  obtain ⟨a,ta,rfl,h1,h2,h3⟩:=h
  obtain ⟨b,tb,e1,g1,g2,g3⟩:=g
  cases e1
  have z:=h1.symm.trans g1
  injection z with z
  injection z with z
  have et:ta=tb:=List.map_inj_right (fun x y e=>by cases e; rfl) |>.mp z
  subst et
  rw [List.length_map] at h2 g2
  refine List.ext_getElem? fun i=>?_
  by_cases hi:i < ta.length
  · have e1:ta[i]?=some ta[i]:=List.getElem?_eq_getElem hi
    have e2:p[i]?=some p[i]:=List.getElem?_eq_getElem (by omega)
    have e3:q[i]?=some q[i]:=List.getElem?_eq_getElem (by omega)
    have y1:=h3 i _ _ e1 (by rw [List.getElem?_map,e2]; rfl)
    have y2:=g3 i _ _ e1 (by rw [List.getElem?_map,e3]; rfl)
    rw [y1] at y2
    injection y2 with y2
    injection y2 with y2
    rw [e2,e3,tri_inj y2]
  · rw [List.getElem?_eq_none (by omega),List.getElem?_eq_none (by omega)]
def triB (H:Hp):V→Bool
  | .ref p=>(match H p with | some (.tup [.int _,.str _,.str _])=>true | _=>false)
  | _=>false
theorem tri_true {H:Hp} {e:V} (h:TriE H e) (b:triB H e=true):∃ p t,e=.ref p∧H p=some (.tup (triV t)):=by
  obtain ⟨p,x,s1,s2,rfl,hp,⟨z,rfl⟩ | ⟨c,rfl⟩⟩:=h
  · exact ⟨p,(z,s1,s2),rfl,hp⟩
  · unfold triB at b
    dsimp only at b
    rw [hp] at b
    cases b
theorem tris_of {H:Hp}:∀ es:List V,(∀ e ∈ es,∃ p t,e=.ref p∧H p=some (.tup (triV t)))→∃ (ta:List Addr) (ts:List Tri),es=ta.map V.ref∧RowsOf H ta (ts.map triV)
  | [],_=>⟨[],[],rfl,rfl,fun i p r e=>by simp at e⟩
  | e :: es,h=>by
    obtain ⟨p,t,rfl,hp⟩:=h e List.mem_cons_self
    obtain ⟨ta,ts,rfl,h1,h2⟩:=tris_of es fun e he=>h e (List.mem_cons_of_mem _ he)
    refine ⟨p :: ta,t :: ts,rfl,by rw [List.map_cons,List.length_cons,List.length_cons,h1],fun i q r e1 e2=>?_⟩
    cases i with
    | zero =>
      cases e1
      cases e2
      exact hp
    | succ i=>exact h2 i q r e1 e2
def spWholeG:Sp:=fun vs H Q _=>∃ v:V,vs=[v]∧((∃ z,v=.int z∧Q (.bl true) H) ∨ ∃ b,v=.bl b∧Q (.bl false) H)
def spTupG:Sp:=fun vs H Q _=>∃ (v:V) (n:Int),vs=[v,.int n]∧((∃ p xs,v=.ref p∧H p=some (.tup xs)∧Q (.bl (decide ((xs.length:Int)=n))) H) ∨ ((v=.non ∨ ∃ p xs,v=.ref p∧H p=some (.lst xs))∧Q (.bl false) H))
def spLstG:Sp:=fun vs H Q _=>∃ (v:V) (n:Int),vs=[v,.int n]∧((∃ p xs,v=.ref p∧H p=some (.lst xs)∧Q (.bl (decide ((xs.length:Int)=n))) H) ∨ ((v=.non ∨ ∃ p xs,v=.ref p∧H p=some (.tup xs))∧Q (.bl false) H))
def spPlacedG:Sp:=fun vs H Q _=>∃ (v:V) (nm:Str) (w h:Int),vs=[v,.str nm,.int w,.int h]∧PlE H v∧(∀ p,OkPl H v p→plB p nm w h=true→∀ H',Same H H'→Q (.bl true) H')∧((∀ p,OkPl H v p→plB p nm w h=false)→∀ H',Same H H'→Q (.bl false) H')
def spIsTriG:Sp:=fun vs H Q _=>∃ (p:Addr) (x:V) (s1 s2:Str),vs=[.ref p]∧H p=some (.tup [x,.str s1,.str s2])∧((∃ z,x=.int z∧Q (.bl true) H) ∨ ∃ b,x=.bl b∧Q (.bl false) H)
def spPaperG:Sp:=fun vs H Q _=>∃ u:V,vs=[u]∧PapE H u∧(∀ ts,OkPap H u ts→∀ H',Same H H'→Q (.bl true) H')∧((∀ ts,¬ OkPap H u ts)→∀ H',Same H H'→Q (.bl false) H')
section
variable {P:Program} {w:World} {K:PySem.W.Frag} {mg:Str→Option Value} {base:Heap}
abbrev nWholeG:List Str:=["thing"]
theorem scWholeG:FnScope nWholeG ["thing"] (defScope sWhole):=⟨rfl,rfl,rfl,by decide +kernel,rfl,by decide +kernel,by decide +kernel⟩
set_option maxHeartbeats 16000000 in
theorem ok_wholeG {f:Addr} {fd:FuncData} (F:Fun K "is_whole" "is_whole" sWhole f fd) (N:Names mg):FnOk P w K mg base CX0 1 f fd ["thing"] spWholeG:=by
  refine F.ok scWholeG (fun vs H Q E h=>?_) (fun cdv A outer s H vs Q E hr h=>?_)
  · obtain ⟨v,e,_⟩:=h
    rw [e]
    rfl
  · obtain ⟨v,e,hv⟩:=h
    subst e
    refine ⟨_,pss_one (ps_ret (pe_and (pe_callB call_isinst (by rfl) N.inst PyProof.Rows.boot_isinstance (pa_cons (pv 0) (pa_cons (pe_bltn (v:=.ty "int") (by rfl) N.int PyProof.Rows.boot_int rfl (by decide)) pa_nil))) (pe_one (pe_not (pe_callB call_isinst (by rfl) N.inst PyProof.Rows.boot_isinstance (pa_cons (pv 0) (pa_cons (pe_bltn (v:=.ty "bool") (by rfl) N.bool PyProof.Rows.boot_bool rfl (by decide)) pa_nil))))))),?_⟩
    try rw [show (cxOf CX0 P w K mg base nWholeG "is_whole" (defScope sWhole) f cdv A outer s H E).nox.K=K from rfl]
    rcases hv with ⟨z,rfl,k⟩ | ⟨b,rfl,k⟩
    · refine ⟨_,rfl,_,"int",_,_,rfl,TyOf.int z,kit_ints,_,rfl,iteT ?_⟩
      exact ⟨_,rfl,_,"bool",_,_,rfl,TyOf.int z,kit_intb,_,rfl,k⟩
    · refine ⟨_,rfl,_,"int",_,_,rfl,TyOf.bl b,kit_bi,_,rfl,iteT ?_⟩
      exact ⟨_,rfl,_,"bool",_,_,rfl,TyOf.bl b,kit_bb,_,rfl,k⟩
abbrev nTupG:List Str:=["thing","many"]
theorem scTupG:FnScope nTupG ["thing","many"] (defScope sTupOf):=⟨rfl,rfl,rfl,by decide +kernel,rfl,by decide +kernel,by decide +kernel⟩
set_option maxHeartbeats 16000000 in
theorem ok_tupG {f:Addr} {fd:FuncData} (F:Fun K "is_tuple_of" "is_tuple_of" sTupOf f fd) (N:Names mg):FnOk P w K mg base CX0 1 f fd ["thing","many"] spTupG:=by
  refine F.ok scTupG (fun vs H Q E h=>?_) (fun cdv A outer s H vs Q E hr h=>?_)
  · obtain ⟨v,n,e,_⟩:=h
    rw [e]
    rfl
  · obtain ⟨v,n,e,hv⟩:=h
    subst e
    refine ⟨_,pss_one (ps_ret (pe_and (pe_callB call_isinst (by rfl) N.inst PyProof.Rows.boot_isinstance (pa_cons (pv 0) (pa_cons (pe_bltn (v:=.ty "tuple") (by rfl) N.tuple PyProof.Rows.boot_tuple rfl (by decide)) pa_nil))) (pe_one (pe_cmpR op_eq (pe_callB call_len_seq (by rfl) N.len PySem.boot_len (pa_cons (pv 0) pa_nil)) (pv 1) (nomark _))))),?_⟩
    try rw [show (cxOf CX0 P w K mg base nTupG "is_tuple_of" (defScope sTupOf) f cdv A outer s H E).nox.K=K from rfl]
    rcases hv with ⟨p,xs,rfl,hp,k⟩ | ⟨rfl | ⟨p,xs,rfl,hp⟩,k⟩
    · refine ⟨_,rfl,_,"tuple",_,_,rfl,TyOf.tup hp,kit_tup,_,rfl,iteT ?_⟩
      refine ⟨_,rfl,p,_,rfl,.inr (SqT.of hp),_,rfl,rfl,?_⟩
      rw [dec_int]
      exact k
    · exact ⟨_,rfl,_,"tuple",_,_,rfl,TyOf.non,kit_nt,_,rfl,iteF k⟩
    · exact ⟨_,rfl,_,"tuple",_,_,rfl,TyOf.lst hp,kit_lt,_,rfl,iteF k⟩
abbrev nLstG:List Str:=["thing","many"]
theorem scLstG:FnScope nLstG ["thing","many"] (defScope sLstOf):=⟨rfl,rfl,rfl,by decide +kernel,rfl,by decide +kernel,by decide +kernel⟩
set_option maxHeartbeats 16000000 in
theorem ok_lstG {f:Addr} {fd:FuncData} (F:Fun K "is_list_of" "is_list_of" sLstOf f fd) (N:Names mg):FnOk P w K mg base CX0 1 f fd ["thing","many"] spLstG:=by
  refine F.ok scLstG (fun vs H Q E h=>?_) (fun cdv A outer s H vs Q E hr h=>?_)
  · obtain ⟨v,n,e,_⟩:=h
    rw [e]
    rfl
  · obtain ⟨v,n,e,hv⟩:=h
    subst e
    refine ⟨_,pss_one (ps_ret (pe_and (pe_callB call_isinst (by rfl) N.inst PyProof.Rows.boot_isinstance (pa_cons (pv 0) (pa_cons (pe_bltn (v:=.ty "list") (by rfl) N.list PyProof.Rows.boot_list rfl (by decide)) pa_nil))) (pe_one (pe_cmpR op_eq (pe_callB call_len_seq (by rfl) N.len PySem.boot_len (pa_cons (pv 0) pa_nil)) (pv 1) (nomark _))))),?_⟩
    try rw [show (cxOf CX0 P w K mg base nLstG "is_list_of" (defScope sLstOf) f cdv A outer s H E).nox.K=K from rfl]
    rcases hv with ⟨p,xs,rfl,hp,k⟩ | ⟨rfl | ⟨p,xs,rfl,hp⟩,k⟩
    · refine ⟨_,rfl,_,"list",_,_,rfl,TyOf.lst hp,kit_list,_,rfl,iteT ?_⟩
      refine ⟨_,rfl,p,_,rfl,.inl (SqL.of hp),_,rfl,rfl,?_⟩
      rw [dec_int]
      exact k
    · exact ⟨_,rfl,_,"list",_,_,rfl,TyOf.non,kit_nl,_,rfl,iteF k⟩
    · exact ⟨_,rfl,_,"list",_,_,rfl,TyOf.tup hp,kit_tl,_,rfl,iteF k⟩
abbrev nPlacedG:List Str:=["thing","name","wide","high"]
theorem scPlacedG:FnScope nPlacedG ["thing","name","wide","high"] (defScope sPlaced):=⟨rfl,rfl,rfl,by decide +kernel,rfl,by decide +kernel,by decide +kernel⟩
set_option maxHeartbeats 16000000 in
theorem ok_placedG {f f1 f2:Addr} {fd d1 d2:FuncData} (F:Fun K "is_placed" "is_placed" sPlaced f fd) (N:Names mg)
    (G1:FnOk P w K mg base CX0 1 f1 d1 ["thing","many"] spTupG) (b1:Binds K d1 ["thing","many"] []) (m1:mg "is_tuple_of"=some (.ref f1)) (k1:PySem.W.keepIn K (.ref f1)=true)
    (G2:FnOk P w K mg base CX0 1 f2 d2 ["thing"] spWholeG) (b2:Binds K d2 ["thing"] []) (m2:mg "is_whole"=some (.ref f2)) (k2:PySem.W.keepIn K (.ref f2)=true):FnOk P w K mg base CX0 2 f fd ["thing","name","wide","high"] spPlacedG:=by
  refine F.ok scPlacedG (fun vs H Q E h=>?_) (fun cdv A outer s H vs Q E hr h=>?_)
  · obtain ⟨v,nm,w,h,e,_⟩:=h
    rw [e]
    rfl
  · obtain ⟨v,nm,w,h,e,hv,kT,kF⟩:=h
    subst e
    have hr1:=hr.mono (j:=1) (by decide)
    have hu20:(A.deeper (PyProof.Rows.envOfC "is_placed" (defScope sPlaced) s.heap.objs.size f cdv)).units + 20 < cLine:=by have:=hr.units; omega
    refine ⟨_,pss_cons (ps_if (pt_not (pw_and (pt_val (pe_call G1 hr1 (by rfl) m1 k1 b1 .nil pass0 (pa_cons (pv 0) (pa_cons pe_int pa_nil)))) (pw_and (pt_val (pe_callB call_isinst (by rfl) N.inst PyProof.Rows.boot_isinstance (pa_cons (pe_ix ix_tup (pv 0) pe_int (fun _ _=>rfl)) (pa_cons (pe_bltn (v:=.ty "str") (by rfl) N.str PyProof.Rows.boot_str rfl (by decide)) pa_nil)))) (pw_and1 (pt_val (pe_callB (call_allL rfl) (by rfl) N.all PyProof.Rows.boot_all (pa_cons (pe_comp (compSc_mk (fs:=defScope sPlaced) (N:=nPlacedG) rfl rfl (by decide +kernel)) rfl (pi_tup (pe_slice sl_tup (pv 0) (po_some pe_int) po_none)) (fun _ _ _ _ _=>pts_nil) (fun _ _ _ _ _=>(pe_call G2 hr1 (by rfl) m2 k2 b2 .nil pass0 (pa_cons (pv 0) pa_nil)))) pa_nil)))))).pt) (pss_one (ps_ret pe_bl)) pss_nil)
      (pss_one (ps_ret (pe_cmpR (op_eqDeep hu20) (pe_tup (pa_cons (pe_ix ix_tup (pv 0) pe_int (fun _ _=>rfl)) (pa_cons (pe_ix ix_tup (pv 0) pe_int (fun _ _=>rfl)) (pa_cons (pe_ix ix_tup (pv 0) pe_int (fun _ _=>rfl)) pa_nil)))) (pe_tup (pa_cons (pv 1) (pa_cons (pv 2) (pa_cons (pv 3) pa_nil)))) (nomark _)))),?_⟩
    try rw [show (cxOf CX0 P w K mg base nPlacedG "is_placed" (defScope sPlaced) f cdv A outer s H E).nox.K=K from rfl]
    have no:(∀ a p,v=.ref a→H a ≠ some (.tup (plRow p)))→∀ H',Same H H'→Q (.bl false) H':=fun hz=>kF fun p ⟨a,e,hp⟩=>(hz a p e hp).elim
    refine seq_abs fun N1 hN=>?_
    rcases hv with ⟨a,s0,zs,rfl,hp⟩ | rfl | ⟨a,es,rfl,hp⟩
    rotate_left
    · refine ⟨_,rfl,_,5,rfl,.inr ⟨.inl rfl,_,rfl,iteF (iteT ?_)⟩⟩
      exact no (fun a p e=>by cases e) H (Same.refl _)
    · refine ⟨_,rfl,_,5,rfl,.inr ⟨.inr ⟨a,es,rfl,hp⟩,_,rfl,iteF (iteT ?_)⟩⟩
      exact no (fun b p e z=>by cases e; rw [hp] at z; cases z) H (Same.refl _)
    refine ⟨_,rfl,_,5,rfl,.inl ⟨a,_,rfl,hp,_,rfl,?_⟩⟩
    by_cases h5:zs.length=4
    rotate_left
    · refine iteC (decide_eq_false (by rw [List.length_cons,List.length_map]; omega)) (iteT ?_)
      refine no (fun b p e z=>?_) H (Same.refl _)
      cases e
      rw [hp] at z
      injection z with z
      injection z with z
      have:=congrArg List.length z
      rw [List.length_cons,List.length_map] at this
      have e5:(plRow p).length=5:=rfl
      omega
    refine iteB (decide_eq_true (by rw [List.length_cons,List.length_map]; omega)) ?_
    obtain ⟨x0,y0,w0,h0,rfl⟩:∃ a b c d,zs=[a,b,c,d]:=by
      match zs,h5 with
      | [a,b,c,d],_=>exact ⟨a,b,c,d,rfl⟩
    have hp:H a=some (.tup (plRow ⟨s0,x0,y0,w0,h0⟩)):=hp
    obtain ⟨p,ep⟩:∃ p:Pl,p=⟨s0,x0,y0,w0,h0⟩:=⟨_,rfl⟩
    rw [← ep] at hp
    have key:∀ H',Same H H'→Q (.bl (plB p nm w h)) H':=fun H' s'=>by
      cases e:plB p nm w h with
      | true=>exact kT p ⟨a,rfl,hp⟩ e H' s'
      | false=>exact kF (fun q hq=>by rw [OkPl.uniq (q:=p) hq ⟨a,rfl,hp⟩]; exact e) H' s'
    have a0:atI (plRow p) 0=some (V.str p.nm):=rfl
    have a3:atI (plRow p) 3=some (V.int p.w):=rfl
    have a4:atI (plRow p) 4=some (V.int p.h):=rfl
    clear h5 kT kF no ep
    refine ⟨_,rfl,a,_,_,_,rfl,rfl,SqT.of hp,a0,_,"str",_,_,rfl,TyOf.str p.nm,kit_strs,_,rfl,iteT ?_⟩
    refine ⟨_,rfl,_,rfl,a,_,rfl,SqT.of hp,(fun z=>absurd z.1 (by show ¬ (1=0); decide)),fun b hb=>?_⟩
    have ecut:cutV (plRow p) (some 1) none=[.int p.x,.int p.y,.int p.w,.int p.h]:=rfl
    rw [ecut]
    generalize hG:upd H b _=H1
    have s1:Same H H1:=by rw [← hG]; exact Same.put (Same.refl _) hb
    have h1:H1 b=some (.tup [.int p.x,.int p.y,.int p.w,.int p.h]):=by rw [← hG]; exact upd_same
    clear hG
    refine ⟨b,rfl,⟨_,SqT.of h1⟩,comp_allT h1 (small (Nat.le_of_ble_eq_true rfl)) ?_ fun D H' hD s2 hl=>?_⟩
    · intro i x H' Q' hx s2 kk
      obtain ⟨z,rfl⟩:∃ z,x=V.int z:=by
        match i,hx with
        | 0,hx=>exact ⟨_,(Option.some.inj hx).symm⟩
        | 1,hx=>exact ⟨_,(Option.some.inj hx).symm⟩
        | 2,hx=>exact ⟨_,(Option.some.inj hx).symm⟩
        | 3,hx=>exact ⟨_,(Option.some.inj hx).symm⟩
      exact ⟨_,rfl,_,rfl,.inl ⟨z,rfl,kk _ (Same.refl _)⟩⟩
    refine ⟨D,_,rfl,SqL.of hl,_,rfl,?_⟩
    rw [trues_all]
    refine iteF ?_
    refine hN _ _ ?_
    clear hN N1
    have s02:=Same.trans s1 s2
    have hp2:=s02 _ _ hp
    refine ⟨_,rfl,a,_,_,_,rfl,rfl,SqT.of hp2,a0,_,rfl,a,_,_,_,rfl,rfl,SqT.of hp2,a3,_,rfl,a,_,_,_,rfl,rfl,SqT.of hp2,a4,(by show 3 ≤ sizeLine; decide),fun t1 ht1=>?_⟩
    generalize hG:upd H' t1 _=H3
    have s3:Same H' H3:=by rw [← hG]; exact Same.put (Same.refl _) ht1
    have h3:H3 t1=some (.tup [.str p.nm,.int p.w,.int p.h]):=by rw [← hG]; exact upd_same
    clear hG
    refine ⟨_,rfl,_,rfl,_,rfl,(by show 3 ≤ sizeLine; decide),fun t2 ht2=>?_⟩
    generalize hG:upd H3 t2 _=H4
    have s4:Same H3 H4:=by rw [← hG]; exact Same.put (Same.refl _) ht2
    have h4:H4 t2=some (.tup [.str nm,.int w,.int h]):=by rw [← hG]; exact upd_same
    clear hG
    refine ⟨t1,t2,_,_,fun j=>match j with | 0=>decide (p.nm=nm) | 1=>decide (p.w=w) | _=>decide (p.h=h),rfl,rfl,.inr ⟨SqT.of (s4 _ _ h3),SqT.of h4⟩,rfl,(fun j x y e1 e2=>?_),?_⟩
    · match j,e1,e2 with
      | 0,e1,e2 =>
        cases e1
        cases e2
        exact EqD.flat rfl rfl
      | 1,e1,e2 =>
        cases e1
        cases e2
        exact EqD.flat rfl rfl
      | 2,e1,e2 =>
        cases e1
        cases e2
        exact EqD.flat rfl rfl
    · have:=key H4 (Same.trans s02 (Same.trans s3 s4))
      exact (congrArg (fun b=>Q (V.bl b) H4) (all3 (decide (p.nm=nm)) (decide (p.w=w)) (decide (p.h=h)))).mpr this
abbrev nIsTriG:List Str:=["thing"]
theorem scIsTriG:FnScope nIsTriG ["thing"] (defScope sIsTri):=⟨rfl,rfl,rfl,by decide +kernel,rfl,by decide +kernel,by decide +kernel⟩
set_option maxHeartbeats 16000000 in
theorem ok_isTriG {f f1 f2:Addr} {fd d1 d2:FuncData} (F:Fun K "is_triple" "is_triple" sIsTri f fd) (N:Names mg)
    (G1:FnOk P w K mg base CX0 1 f1 d1 ["thing","many"] spTupG) (b1:Binds K d1 ["thing","many"] []) (m1:mg "is_tuple_of"=some (.ref f1)) (k1:PySem.W.keepIn K (.ref f1)=true)
    (G2:FnOk P w K mg base CX0 1 f2 d2 ["thing"] spWholeG) (b2:Binds K d2 ["thing"] []) (m2:mg "is_whole"=some (.ref f2)) (k2:PySem.W.keepIn K (.ref f2)=true):FnOk P w K mg base CX0 2 f fd ["thing"] spIsTriG:=by
  refine F.ok scIsTriG (fun vs H Q E h=>?_) (fun cdv A outer s H vs Q E hr h=>?_)
  · obtain ⟨a,x,s1,s2,e,_⟩:=h
    rw [e]
    rfl
  · obtain ⟨a,x,s1,s2,e,hp,hx⟩:=h
    subst e
    have hr1:=hr.mono (j:=1) (by decide)
    refine ⟨_,pss_one (ps_ret (pe_and (pe_call G1 hr1 (by rfl) m1 k1 b1 .nil pass0 (pa_cons (pv 0) (pa_cons pe_int pa_nil))) (pe_and (pe_call G2 hr1 (by rfl) m2 k2 b2 .nil pass0 (pa_cons (pe_ix ix_tup (pv 0) pe_int (fun _ _=>rfl)) pa_nil)) (pe_and (pe_callB call_isinst (by rfl) N.inst PyProof.Rows.boot_isinstance (pa_cons (pe_ix ix_tup (pv 0) pe_int (fun _ _=>rfl)) (pa_cons (pe_bltn (v:=.ty "str") (by rfl) N.str PyProof.Rows.boot_str rfl (by decide)) pa_nil))) (pe_one (pe_callB call_isinst (by rfl) N.inst PyProof.Rows.boot_isinstance (pa_cons (pe_ix ix_tup (pv 0) pe_int (fun _ _=>rfl)) (pa_cons (pe_bltn (v:=.ty "str") (by rfl) N.str PyProof.Rows.boot_str rfl (by decide)) pa_nil)))))))),?_⟩
    try rw [show (cxOf CX0 P w K mg base nIsTriG "is_triple" (defScope sIsTri) f cdv A outer s H E).nox.K=K from rfl]
    refine ⟨_,rfl,_,3,rfl,.inl ⟨a,_,rfl,hp,_,rfl,iteB (by rfl) ?_⟩⟩
    rcases hx with ⟨z,rfl,k⟩ | ⟨b,rfl,k⟩
    · refine ⟨_,rfl,a,_,_,_,rfl,rfl,SqT.of hp,atI_nat (j:=0) rfl,_,rfl,.inl ⟨z,rfl,_,rfl,iteT ?_⟩⟩
      refine ⟨_,rfl,a,_,_,_,rfl,rfl,SqT.of hp,atI_nat (j:=1) rfl,_,"str",_,_,rfl,TyOf.str _,kit_strs,_,rfl,iteT ?_⟩
      exact ⟨_,rfl,a,_,_,_,rfl,rfl,SqT.of hp,atI_nat (j:=2) rfl,_,"str",_,_,rfl,TyOf.str _,kit_strs,k⟩
    · exact ⟨_,rfl,a,_,_,_,rfl,rfl,SqT.of hp,atI_nat (j:=0) rfl,_,rfl,.inr ⟨b,rfl,_,rfl,iteF k⟩⟩
abbrev nPaperG:List Str:=["thing"]
theorem scPaperG:FnScope nPaperG ["thing"] (defScope sPaper):=⟨rfl,rfl,rfl,by decide +kernel,rfl,by decide +kernel,by decide +kernel⟩
set_option maxHeartbeats 16000000 in
theorem ok_paperG {f f1:Addr} {fd d1:FuncData} (F:Fun K "is_paper" "is_paper" sPaper f fd) (N:Names mg)
    (G1:FnOk P w K mg base CX0 2 f1 d1 ["thing"] spIsTriG) (b1:Binds K d1 ["thing"] []) (m1:mg "is_triple"=some (.ref f1)) (k1:PySem.W.keepIn K (.ref f1)=true):FnOk P w K mg base CX0 3 f fd ["thing"] spPaperG:=by
  refine F.ok scPaperG (fun vs H Q E h=>?_) (fun cdv A outer s H vs Q E hr h=>?_)
  · obtain ⟨u,e,_⟩:=h
    rw [e]
    rfl
  · obtain ⟨u,e,hv,kT,kF⟩:=h
    subst e
    have hr2:=hr.mono (j:=2) (by decide)
    refine ⟨_,pss_one (ps_ret (pe_and (pe_callB call_isinst (by rfl) N.inst PyProof.Rows.boot_isinstance (pa_cons (pv 0) (pa_cons (pe_bltn (v:=.ty "list") (by rfl) N.list PyProof.Rows.boot_list rfl (by decide)) pa_nil))) (pe_one (pe_callB (call_allL rfl) (by rfl) N.all PyProof.Rows.boot_all (pa_cons (pe_comp (compSc_mk (fs:=defScope sPaper) (N:=nPaperG) rfl rfl (by decide +kernel)) rfl (pi_list (pv 0)) (fun _ _ _ _ _=>pts_nil) (fun _ _ _ _ _=>(pe_call G1 hr2 (by rfl) m1 k1 b1 .nil pass0 (pa_cons (pv 0) pa_nil)))) pa_nil))))),?_⟩
    try rw [show (cxOf CX0 P w K mg base nPaperG "is_paper" (defScope sPaper) f cdv A outer s H E).nox.K=K from rfl]
    rcases hv with ⟨q,es,rfl,hq,hl,he⟩ | ⟨q,es,rfl,hq⟩
    rotate_left
    · refine ⟨_,rfl,_,"list",_,_,rfl,TyOf.tup hq,kit_tl,_,rfl,iteF ?_⟩
      exact kF (fun ts ⟨a,ta,e,h1,_⟩=>by cases e; rw [hq] at h1; cases h1) H (Same.refl _)
    refine ⟨_,rfl,_,"list",_,_,rfl,TyOf.lst hq,kit_list,_,rfl,iteT ?_⟩
    refine ⟨_,rfl,q,rfl,⟨_,SqL.of hq⟩,comp_list (K:=K) (fun e=>V.bl (triB H e)) (SqL.of hq) (small (by omega)) ?_ fun D hD=>?_⟩
    · intro D i x l Q' hD hx hq'
      obtain ⟨p,y,s1,s2,rfl,hp,hy⟩:=he x (List.mem_of_getElem? hx)
      have hp':(upd H D (.lst l)) p=some (.tup [y,.str s1,.str s2]):=by rw [upd_ne (ne_of_none hp hD)]; exact hp
      refine ⟨_,rfl,p,y,s1,s2,rfl,hp',?_⟩
      rcases hy with ⟨z,rfl⟩ | ⟨b,rfl⟩
      · exact .inl ⟨z,rfl,by unfold triB at hq'; dsimp only at hq'; rw [hp] at hq'; exact hq'⟩
      · exact .inr ⟨b,rfl,by unfold triB at hq'; dsimp only at hq'; rw [hp] at hq'; exact hq'⟩
    have em:es.map (fun e=>V.bl (triB H e))=(es.map (triB H)).map V.bl:=by rw [List.map_map]; rfl
    rw [em]
    refine ⟨D,_,rfl,SqL.of upd_same,?_⟩
    have s1:Same H (upd H D (.lst ((es.map (triB H)).map V.bl))):=Same.put (Same.refl _) hD
    cases ea:(es.map (triB H)).all id with
    | true =>
      rw [List.all_map,List.all_eq_true] at ea
      obtain ⟨ta,ts,et,hR⟩:=tris_of es fun e hm=>tri_true (he e hm) (ea e hm)
      subst et
      exact kT ts ⟨q,ta,rfl,hq,hR⟩ _ s1
    | false =>
      refine kF (fun ts ⟨a,ta,e,h1,h2⟩=>?_) _ s1
      cases e
      have ez:=hq.symm.trans h1
      cases ez
      rw [List.all_map,List.all_eq_false] at ea
      obtain ⟨e,hm,hb⟩:=ea
      obtain ⟨p,hp,rfl⟩:=List.mem_map.mp hm
      obtain ⟨i,hi⟩:=List.getElem?_of_mem hp
      have hil:i < ts.length:=by
        have:=h2.1
        rw [List.length_map] at this
        have:=get_lt hi
        omega
      have z:=h2.2 i p (triV ts[i]) hi (by rw [List.getElem?_map,List.getElem?_eq_getElem hil]; rfl)
      refine hb ?_
      show triB H (.ref p)=true
      unfold triB
      dsimp only
      rw [z]
      rfl
end
end B69
namespace B69
open PySem L2 S2
def plK (W:Int) (fls:List Fl) (k:Nat):List Pl:=(allF W fls k).1
def rwK (W:Int) (fls:List Fl) (k:Nat):Int:=lastRow (plK W fls k)
def stK (W:Int) (fls:List Fl) (k:Nat):Pl:=(standF W fls (plK W fls k) (rwK W fls k)).1
theorem plK_succ (W:Int) (fls:List Fl) (k:Nat):plK W fls (k + 1)=plK W fls k ++ [stK W fls k]:=rfl
theorem plK_len (W:Int) (fls:List Fl) (k:Nat):(plK W fls k).length=k:=(allF_len W fls k).1
theorem rwK_succ (W:Int) (fls:List Fl) (k:Nat):rwK W fls (k + 1)=(stK W fls k).y:=by
  unfold rwK
  rw [plK_succ,lastRow_snoc]
theorem plK_get {W:Int} {fls:List Fl}:∀ {n k:Nat},k < n→(plK W fls n)[k]?=some (stK W fls k)
  | 0,k,h=>absurd h (Nat.not_lt_zero _)
  | n + 1,k,h=>by
    rw [plK_succ]
    by_cases e:k=n
    · subst e
      rw [List.getElem?_append_right (by rw [plK_len]; exact Nat.le_refl _),plK_len,Nat.sub_self]
      rfl
    · rw [List.getElem?_append_left (by rw [plK_len]; omega)]
      exact plK_get (by omega)
theorem inK {W:Int} {fls:List Fl} (hF:FlsOk W fls) {k:Nat} (h:k ≤ fls.length):∀ p ∈ plK W fls k,InW W (rwK W fls k) p:=(allF_ok hF k h).2
theorem stK_ok {W:Int} {fls:List Fl} (hF:FlsOk W fls) {k:Nat} (h:k < fls.length):StandOk W fls (plK W fls k) (rwK W fls k) (stK W fls k):=standF_ok hF (by rw [plK_len]; exact h) (inK hF (by omega))
theorem nmK {W:Int} {fls:List Fl} (hN:NmF fls) {k:Nat} (h:k ≤ fls.length):NmOk (plK W fls k):=hN.pls h
theorem one_iffK {W:Int} {fls:List Fl} (hF:FlsOk W fls) (hN:NmF fls) {k:Nat} (h:k < fls.length) {p:Pl} {ts:List Tri} :
    (plB p (gF fls k).nm (gF fls k).w (gF fls k).h && standsB W fls (plK W fls k) (gF fls k) (rwK W fls k) p ts)=true ↔ p=stK W fls k∧papEnd W fls (plK W fls k) (gF fls k) (rwK W fls k) ts=some (stK W fls k).y:=by
  have z:=one_iff (ts:=ts) (p:=p) (nmK (W:=W) hN (Nat.le_of_lt h)) (inK hF (Nat.le_of_lt h)) (by rw [plK_len]; omega) (by rw [plK_len]; exact (hF _ (gF_mem' h)).2.2) (stK_ok hF h)
  rw [plK_len] at z
  exact z
def GoodF (W:Int) (fls:List Fl) (H:Hp) (v u:V):Prop:=∃ (l:Addr) (pa:List Addr),v=.ref l∧H l=some (.lst (pa.map V.ref))∧RowsOf H pa ((plK W fls fls.length).map plRow) ∧
  ∃ (q:Addr) (us:List V),u=.ref q∧H q=some (.lst us)∧us.length=fls.length∧∀ k x,us[k]?=some x→∃ ts,OkPap H x ts∧papEnd W fls (plK W fls k) (gF fls k) (rwK W fls k) ts=some (stK W fls k).y
theorem good_len {W:Int} {fls:List Fl} {H:Hp} {l:Addr} {u:V} {es:List V} (g:GoodF W fls H (.ref l) u) (hl:H l=some (.lst es)):es.length=fls.length:=by
  obtain ⟨l',pa,e,h1,h2,_⟩:=g
  cases e
  have z:=hl.symm.trans h1
  cases z
  have:=h2.1
  rw [List.length_map,plK_len] at this
  rw [List.length_map,this]
theorem good_pl {W:Int} {fls:List Fl} {H:Hp} {l:Addr} {u e:V} {es:List V} {i:Nat} (g:GoodF W fls H (.ref l) u) (hl:H l=some (.lst es)) (he:es[i]?=some e):OkPl H e (stK W fls i):=by
  have hlen:=good_len g hl
  obtain ⟨l',pa,e',h1,h2,_⟩:=g
  cases e'
  have z:=hl.symm.trans h1
  cases z
  have hi:=get_lt he
  rw [hlen] at hi
  rw [List.getElem?_map] at he
  cases ep:pa[i]? with
  | none=>rw [ep] at he; cases he
  | some p =>
    rw [ep] at he
    cases he
    exact ⟨p,rfl,h2.2 i p _ ep (by rw [List.getElem?_map,plK_get hi]; rfl)⟩
theorem good_lenP {W:Int} {fls:List Fl} {H:Hp} {q:Addr} {v:V} {us:List V} (g:GoodF W fls H v (.ref q)) (hq:H q=some (.lst us)):us.length=fls.length:=by
  obtain ⟨_,_,_,_,_,q',us',e,h1,h2,_⟩:=g
  cases e
  have z:=hq.symm.trans h1
  cases z
  exact h2
theorem good_pap {W:Int} {fls:List Fl} {H:Hp} {q:Addr} {v x:V} {us:List V} {i:Nat} (g:GoodF W fls H v (.ref q)) (hq:H q=some (.lst us)) (hx:us[i]?=some x):∃ ts,OkPap H x ts∧papEnd W fls (plK W fls i) (gF fls i) (rwK W fls i) ts=some (stK W fls i).y:=by
  obtain ⟨_,_,_,_,_,q',us',e,h1,_,h2⟩:=g
  cases e
  have z:=hq.symm.trans h1
  cases z
  exact h2 i x hx
theorem GoodF.same {W:Int} {fls:List Fl} {H H':Hp} {v u:V} (g:GoodF W fls H v u) (s:Same H H'):GoodF W fls H' v u:=by
  obtain ⟨l,pa,e,h1,h2,q,us,e2,g1,g2,g3⟩:=g
  refine ⟨l,pa,e,s _ _ h1,h2.same s,q,us,e2,s _ _ g1,g2,fun k x hx=>?_⟩
  obtain ⟨ts,y1,y2⟩:=g3 k x hx
  exact ⟨ts,y1.same s,y2⟩
theorem GoodF.less {W:Int} {fls:List Fl} {H H':Hp} {v u:V} (g:GoodF W fls H' v u) (s:Same H H') (hv:PlsV H v) (hu:PapsV H u):GoodF W fls H v u:=by
  obtain ⟨l,pa,rfl,h1,h2,q,us,rfl,g1,g2,g3⟩:=g
  rcases hv with ⟨l',es,e,k1,_,k3⟩ | ⟨l',es,e,k1⟩ | e
  · cases e
    have z:=(s _ _ k1).symm.trans h1
    cases z
    rcases hu with ⟨q',fs,e,m1,_,m3⟩ | ⟨q',fs,e,m1⟩ | e
    · cases e
      have z:=(s _ _ m1).symm.trans g1
      cases z
      refine ⟨l,pa,rfl,k1,⟨h2.1,fun i p r e1 e2=>?_⟩,q,us,rfl,m1,g2,fun k x hx=>?_⟩
      · have y:=h2.2 i p r e1 e2
        rcases k3 (.ref p) (List.mem_map.mpr ⟨p,List.mem_of_getElem? e1,rfl⟩) with ⟨p',s0,zs,ep,hp⟩ | ep | ⟨p',zs,ep,hp⟩
        · cases ep
          rw [s _ _ hp] at y
          rw [hp]
          exact y
        · cases ep
        · cases ep
          rw [s _ _ hp] at y
          rw [hp]
          exact y
      · obtain ⟨ts,y1,y2⟩:=g3 k x hx
        exact ⟨ts,y1.less s (m3 x (List.mem_of_getElem? hx)),y2⟩
    · cases e
      have z:=(s _ _ m1).symm.trans g1
      cases z
    · cases e
  · cases e
    have z:=(s _ _ k1).symm.trans h1
    cases z
  · cases e
def spStoodG:Sp:=fun vs H Q _=>∃ (a:Addr) (fa:List Addr) (fls:List Fl) (W:Int) (v u:V),vs=[.int W,.ref a,v,u]∧FlAt H a fa fls∧FlsOk W fls∧NmF fls∧PlsV H v∧PapsV H u ∧
  (GoodF W fls H v u→∀ H',Same H H'→Q (.bl true) H')∧(¬ GoodF W fls H v u→∀ H',Same H H'→Q (.bl false) H')
theorem rows_snoc {H:Hp} {pa:List Addr} {pls:List Pl} {p:Addr} {s:Pl} (h:RowsOf H pa (pls.map plRow)) (hp:H p=some (.tup (plRow s))):RowsOf H (pa ++ [p]) ((pls ++ [s]).map plRow):=by
  rw [List.map_append]
  exact h.snoc (Same.refl _) hp
section
variable {P:Program} {w:World} {K:PySem.W.Frag} {mg:Str→Option Value} {base:Heap}
abbrev nStoodG:List Str:=["W","floats","standing","papers","row","number","thing","placed"]
theorem scStoodG:FnScope nStoodG ["W","floats","standing","papers"] (defScope sStood):=⟨rfl,rfl,rfl,by decide +kernel,rfl,by decide +kernel,by decide +kernel⟩
set_option maxHeartbeats 16000000 in
theorem ok_stoodG {f f1 f2 f3 f4:Addr} {fd d1 d2 d3 d4:FuncData} (F:Fun K "stood" "stood" sStood f fd) (N:Names mg)
    (G1:FnOk P w K mg base CX0 1 f1 d1 ["thing","many"] spLstG) (b1:Binds K d1 ["thing","many"] []) (m1:mg "is_list_of"=some (.ref f1)) (k1:PySem.W.keepIn K (.ref f1)=true)
    (G2:FnOk P w K mg base CX0 2 f2 d2 ["thing","name","wide","high"] spPlacedG) (b2:Binds K d2 ["thing","name","wide","high"] []) (m2:mg "is_placed"=some (.ref f2)) (k2:PySem.W.keepIn K (.ref f2)=true)
    (G3:FnOk P w K mg base CX0 3 f3 d3 ["thing"] spPaperG) (b3:Binds K d3 ["thing"] []) (m3:mg "is_paper"=some (.ref f3)) (k3:PySem.W.keepIn K (.ref f3)=true)
    (G4:FnOk P w K mg base CX0 5 f4 d4 ["W","floats","standing","row","placed","paper"] spStands) (b4:Binds K d4 ["W","floats","standing","row","placed","paper"] []) (m4:mg "stands"=some (.ref f4)) (k4:PySem.W.keepIn K (.ref f4)=true):FnOk P w K mg base CX0 6 f fd ["W","floats","standing","papers"] spStoodG:=by
  refine F.ok scStoodG (fun vs H Q E h=>?_) (fun cdv A outer s H vs Q E hr h=>?_)
  · obtain ⟨a,fa,fls,W,v,u,e,_⟩:=h
    rw [e]
    rfl
  · obtain ⟨a,fa,fls,W,v,u,e,hF,hFo,hNf,hv,hu,kT,kF⟩:=h
    subst e
    have hr1:=hr.mono (j:=1) (by decide)
    have hr2:=hr.mono (j:=2) (by decide)
    have hr3:=hr.mono (j:=3) (by decide)
    have hr5:=hr.mono (j:=5) (by decide)
    refine ⟨_,pss_cons (ps_if (pt_not (pw_and (pt_val (pe_call G1 hr1 (by rfl) m1 k1 b1 .nil pass0 (pa_cons (pv 2) (pa_cons (pe_callB call_len_seq (by rfl) N.len PySem.boot_len (pa_cons (pv 1) pa_nil)) pa_nil)))) (pw_and1 (pt_val (pe_call G1 hr1 (by rfl) m1 k1 b1 .nil pass0 (pa_cons (pv 3) (pa_cons (pe_callB call_len_seq (by rfl) N.len PySem.boot_len (pa_cons (pv 1) pa_nil)) pa_nil)))))).pt) (pss_one (ps_ret pe_bl)) pss_nil)
      (pss_cons (ps_set (i:=4) scStoodG.nd rfl (Or.inl rfl) pe_int)
      (pss_cons (ps_for PassesOwn.never rfl (pi_enL0 rfl N.enum (pa_cons (pv 1) pa_nil)) (pg_tup rfl (pgs_cons (pg_name (i:=5) scStoodG.nd rfl (Or.inl rfl)) (pgs_cons (pg_name (i:=6) scStoodG.nd rfl (Or.inl rfl)) pgs_nil)))
        (pss_cons (ps_set (i:=7) scStoodG.nd rfl (Or.inl rfl) (pe_ix ix_list (pv 2) (pv 5) (fun _ _=>rfl)))
        (pss_cons (ps_if (pt_not (pw_and (pt_val (pe_call G2 hr2 (by rfl) m2 k2 b2 .nil pass0 (pa_cons (pv 7) (pa_cons (pe_ix ix_tup (pv 6) pe_int (fun _ _=>rfl)) (pa_cons (pe_ix ix_tup (pv 6) pe_int (fun _ _=>rfl)) (pa_cons (pe_ix ix_tup (pv 6) pe_int (fun _ _=>rfl)) pa_nil)))))) (pw_and1 (pt_val (pe_call G3 hr3 (by rfl) m3 k3 b3 .nil pass0 (pa_cons (pe_ix ix_list (pv 3) (pv 5) (fun _ _=>rfl)) pa_nil))))).pt) (pss_one (ps_ret pe_bl)) pss_nil)
        (pss_cons (ps_if (pt_not (pt_val (pe_call G4 hr5 (by rfl) m4 k4 b4 .nil pass0 (pa_cons (pv 0) (pa_cons (pv 1) (pa_cons (pe_slice sl_list (pv 2) po_none (po_some (pv 5))) (pa_cons (pv 4) (pa_cons (pv 7) (pa_cons (pe_ix ix_list (pv 3) (pv 5) (fun _ _=>rfl)) pa_nil))))))))) (pss_one (ps_ret pe_bl)) pss_nil)
        (pss_one (ps_set (i:=4) scStoodG.nd rfl (Or.inl rfl) (pe_ix ix_tup (pv 7) pe_int (fun _ _=>rfl))))))))
      (pss_one (ps_ret pe_bl)))),?_⟩
    try rw [show (cxOf CX0 P w K mg base nStoodG "stood" (defScope sStood) f cdv A outer s H E).nox.K=K from rfl]
    have lfa:fa.length=fls.length:=by rw [hF.2.1.1,List.length_map]
    refine seq_abs fun N1 hN=>?_
    rcases hv with ⟨l,es,rfl,hl,hel,hes⟩ | hbad
    rotate_left
    · refine ⟨_,rfl,_,rfl,a,_,rfl,.inl (SqL.of hF.1),_,_,rfl,.inr ⟨hbad.elim (fun ⟨l,es,e,h⟩=>.inr ⟨l,es,e,h⟩) .inl,_,rfl,iteF (iteT ?_)⟩⟩
      refine kF (fun ⟨l,pa,e,h1,_⟩=>?_) H (Same.refl _)
      rcases hbad with ⟨l',es,e',h⟩ | e'
      · rw [e'] at e; cases e; rw [h] at h1; cases h1
      · rw [e'] at e; cases e
    refine ⟨_,rfl,_,rfl,a,_,rfl,.inl (SqL.of hF.1),_,_,rfl,.inl ⟨l,es,rfl,hl,_,rfl,?_⟩⟩
    by_cases e1:es.length=fls.length
    rotate_left
    · refine iteC (decide_eq_false (by rw [List.length_map,lfa]; omega)) (iteT ?_)
      exact kF (fun g=>e1 (good_len g hl)) H (Same.refl _)
    refine iteB (decide_eq_true (by rw [List.length_map,lfa]; omega)) ?_
    rcases hu with ⟨q,us,rfl,hq,hul,hus⟩ | hbad
    rotate_left
    · refine ⟨_,rfl,_,rfl,a,_,rfl,.inl (SqL.of hF.1),_,_,rfl,.inr ⟨hbad.elim (fun ⟨l,es,e,h⟩=>.inr ⟨l,es,e,h⟩) .inl,_,rfl,iteT ?_⟩⟩
      refine kF (fun ⟨_,_,_,_,_,q',us',e,h1,_⟩=>?_) H (Same.refl _)
      rcases hbad with ⟨l',es,e',h⟩ | e'
      · rw [e'] at e; cases e; rw [h] at h1; cases h1
      · rw [e'] at e; cases e
    refine ⟨_,rfl,_,rfl,a,_,rfl,.inl (SqL.of hF.1),_,_,rfl,.inl ⟨q,us,rfl,hq,_,rfl,?_⟩⟩
    by_cases e2:us.length=fls.length
    rotate_left
    · refine iteB (by rw [List.length_map,lfa,decide_eq_false (show ¬ ((us.length:Int)=(fls.length:Int)) by omega)]; rfl) ?_
      exact kF (fun g=>e2 (good_lenP g hq)) H (Same.refl _)
    refine iteC (by rw [List.length_map,lfa,e2,decide_eq_true rfl]; rfl) ?_
    refine hN _ _ ?_
    clear hN N1
    refine seq_abs fun N1 hN=>?_
    show N1 _ _
    refine hN _ _ ?_
    clear hN N1
    refine seq_abs fun N1 hN=>?_
    refine ⟨_,rfl,a,rfl,⟨_,SqL.of hF.1⟩,for_en (xs:=fa.map V.ref) (fun i σ H9=>∃ (v5 v6 v7:Option V),σ=[some (.int W),some (.ref a),some (.ref l),some (.ref q),some (.int (rwK W fls i)),v5,v6,v7]∧Same H H9∧(∃ pa:List Addr,es.take i=pa.map V.ref∧RowsOf H pa ((plK W fls i).map plRow))∧∀ k x,k < i→us[k]?=some x→∃ ts,OkPap H x ts∧papEnd W fls (plK W fls k) (gF fls k) (rwK W fls k) ts=some (stK W fls k).y)
      ⟨none,none,none,rfl,Same.refl _,⟨[],rfl,RowsOf.nil⟩,fun k x hk=>by omega⟩ (fun i σ H9 _ ⟨_,_,_,_,z,_⟩=>(SqL.of (z _ _ hF.1):SqL K H9 a (fa.map V.ref))) ?_ ?_⟩
    · rintro i x p0 σ H9 hx hp0 ⟨v5,v6,v7,rfl,s9,⟨pa,epa,hpa⟩,hpp⟩
      have hi:i < fls.length:=by have:=get_lt hx; rw [List.length_map] at this; omega
      have fg:=hF.get hi
      have ex:x=V.ref (fa.getD i 0):=by
        rw [List.getElem?_map,fg.1] at hx
        exact (Option.some.inj hx).symm
      subst ex
      obtain ⟨e,he⟩:∃ e,es[i]?=some e:=⟨_,List.getElem?_eq_getElem (by omega)⟩
      obtain ⟨y,hy⟩:∃ y,us[i]?=some y:=⟨_,List.getElem?_eq_getElem (by omega)⟩
      have hkE:=hes e (List.mem_of_getElem? he)
      have hkP:=hus y (List.mem_of_getElem? hy)
      generalize hG:upd H9 p0 _=H10
      have s10:Same H9 H10:=by rw [← hG]; exact Same.put (Same.refl _) hp0
      have hp10:H10 p0=some (.tup [.int (0 + (i:Int)),.ref (fa.getD i 0)]):=by rw [← hG]; exact upd_same
      clear hG
      have S10:=Same.trans s9 s10
      have f10:=S10 _ _ fg.2
      have ap:atI es (0 + (i:Int))=some e:=atI_of (j:=i) (by omega) he
      have aq:atI us (0 + (i:Int))=some y:=atI_of (j:=i) (by omega) hy
      have lpa:pa.length=i:=by have:=hpa.1; rw [List.length_map,plK_len] at this; exact this
      refine ⟨p0,_,rfl,SqT.of hp10,rfl,_,_,rfl,_,_,rfl,rfl,?_⟩
      refine seq_abs fun N2 hN2=>?_
      refine ⟨_,rfl,_,rfl,l,_,_,_,rfl,rfl,SqL.of (S10 _ _ hl),ap,?_⟩
      refine hN2 _ _ ?_
      clear hN2 N2
      refine seq_abs fun N2 hN2=>?_
      refine ⟨_,rfl,_,rfl,_,_,_,_,rfl,rfl,SqT.of f10,atI_nat (j:=0) rfl,_,rfl,_,_,_,_,rfl,rfl,SqT.of f10,atI_nat (j:=2) rfl,_,rfl,_,_,_,_,rfl,rfl,SqT.of f10,atI_nat (j:=3) rfl,_,_,_,_,rfl,hkE.same S10,fun p hop hpl H11 s11=>?_,fun hno H11 s11=>?_⟩
      rotate_left
      · refine ⟨_,rfl,iteF (iteT ?_)⟩
        refine kF (fun g=>?_) H11 (Same.trans S10 s11)
        have z:=hno _ ((good_pl g hl he).same S10)
        have z1:=(one_iffK hFo hNf hi (p:=stK W fls i) (ts:=(good_pap g hq hy).choose)).mpr ⟨rfl,(good_pap g hq hy).choose_spec.2⟩
        rw [z] at z1
        cases z1
      have hopH:OkPl H e p:=hop.less S10 hkE
      have S11:=Same.trans S10 s11
      refine ⟨_,rfl,iteT ?_⟩
      refine ⟨_,rfl,_,rfl,q,_,_,_,rfl,rfl,SqL.of (S11 _ _ hq),aq,y,rfl,hkP.same S11,fun ts hts H12 s12=>?_,fun hno H12 s12=>?_⟩
      rotate_left
      · refine ⟨_,rfl,iteT ?_⟩
        refine kF (fun g=>?_) H12 (Same.trans S11 s12)
        obtain ⟨ts,h1,_⟩:=good_pap g hq hy
        exact hno ts (h1.same S11)
      refine ⟨_,rfl,iteF ?_⟩
      refine hN2 _ _ ?_
      clear hN2 N2
      have htsH:OkPap H y ts:=hts.less S11 hkP
      have S12:=Same.trans S11 s12
      refine seq_abs fun N2 hN2=>?_
      refine ⟨_,rfl,_,rfl,_,rfl,_,rfl,_,rfl,l,_,rfl,SqL.of (S12 _ _ hl),fun lp hlp=>?_⟩
      have ecut:cutV es none (some (0 + (i:Int)))=pa.map V.ref:=by
        rw [show (0 + (i:Int))=(i:Int) by omega,cut_take _ _ (by omega),epa]
      rw [ecut]
      generalize hG:upd H12 lp _=H13
      have s13:Same H12 H13:=by rw [← hG]; exact Same.put (Same.refl _) hlp
      have h13:H13 lp=some (.lst (pa.map V.ref)):=by rw [← hG]; exact upd_same
      clear hG
      have S13:=Same.trans S12 s13
      have hPi:PlAt H13 lp pa (plK W fls i):=⟨h13,hpa.same S13,by rw [plK_len]; have:=hF.2.2; omega⟩
      obtain ⟨ae,rfl,hae⟩:=id hopH
      obtain ⟨qy,ta,rfl,hqy,hta⟩:=id htsH
      refine ⟨_,rfl,_,rfl,_,rfl,_,rfl,q,_,_,_,rfl,rfl,SqL.of (S13 _ _ hq),aq,a,lp,ae,qy,fa,pa,ta,fls,plK W fls i,W,rwK W fls i,p,ts,rfl,hF.same S13,hPi,S13 _ _ hae,S13 _ _ hqy,hta.same S13,by rw [plK_len]; exact hi,fun H14 s14=>⟨_,rfl,?_⟩⟩
      have S14:=Same.trans S13 s14
      rw [plK_len]
      have hone:=one_iffK hFo hNf hi (p:=p) (ts:=ts)
      cases hst:standsB W fls (plK W fls i) (gF fls i) (rwK W fls i) p ts with
      | false =>
        refine iteT ?_
        refine kF (fun g=>?_) H14 S14
        have e3:=OkPl.uniq (good_pl g hl he) hopH
        obtain ⟨ts',h1,h2⟩:=good_pap g hq hy
        have e4:=OkPap.uniq h1 htsH
        subst e4
        have z:=hone.mpr ⟨e3.symm,h2⟩
        rw [hst,Bool.and_false] at z
        cases z
      | true =>
        rw [hpl,hst] at hone
        obtain ⟨rfl,hpe⟩:=hone.mp rfl
        refine iteF ?_
        refine hN2 _ _ ?_
        clear hN2 N2
        refine ⟨_,rfl,ae,_,_,_,rfl,rfl,SqT.of (S14 _ _ hae),atI_nat (j:=2) rfl,?_⟩
        refine (show ∃ v5 v6 v7,_ from ⟨_,_,_,by rw [rwK_succ]; rfl,S14,⟨pa ++ [ae],?_,?_⟩,fun k x hk hxk=>?_⟩)
        · rw [List.take_succ,epa,he,List.map_append]
          rfl
        · rw [plK_succ]
          exact rows_snoc hpa hae
        · by_cases ek:k=i
          · subst ek
            rw [hy] at hxk
            cases hxk
            exact ⟨ts,htsH,hpe⟩
          · exact hpp k x (by omega) hxk
    · rintro σ H9 ⟨v5,v6,v7,rfl,s9,⟨pa,epa,hpa⟩,hpp⟩
      rw [List.length_map,lfa] at epa hpa hpp
      rw [List.take_of_length_le (by omega)] at epa
      subst epa
      refine hN _ _ ?_
      exact kT ⟨l,pa,rfl,hl,hpa,q,us,rfl,hq,e2,fun k x hx=>hpp k x (by have:=get_lt hx; omega) hx⟩ H9 s9
end
end B69
namespace B69
open PySem L2 S2
abbrev gNest (K:PySem.W.Frag):TG:=gTup K 2 (gCons (gName 0) (gCons (gTup K 5 (gCons (gName 1) (gCons (gName 2) (gCons (gName 3) (gCons (gName 4) (gCons (gName 5) gNil)))))) gNil))
theorem pg_nestK {X:Cx} {K:PySem.W.Frag} (hK:X.K=K) {x0 x1 x2 x3 x4 x5:Str} {p0 p1 p2 p3 p4 p5 pt pu:Pos} {kk kl:Nat} (hc:X.calm=true) (hN:X.N.Nodup)
    (h0:X.N[0]?=some x0) (h1:X.N[1]?=some x1) (h2:X.N[2]?=some x2) (h3:X.N[3]?=some x3) (h4:X.N[4]?=some x4) (h5:X.N[5]?=some x5)
    (l0:X.env.scope.names.lookup x0=some .local) (l1:X.env.scope.names.lookup x1=some .local) (l2:X.env.scope.names.lookup x2=some .local) (l3:X.env.scope.names.lookup x3=some .local) (l4:X.env.scope.names.lookup x4=some .local) (l5:X.env.scope.names.lookup x5=some .local) :
    PG X (.Tuple [.Name x0 p0,.Tuple [.Name x1 p1,.Name x2 p2,.Name x3 p3,.Name x4 p4,.Name x5 p5] kl pu] kk pt) (gNest K):=by
  subst hK
  exact pg_tup hc (pgs_cons (pg_name hN h0 (.inl l0) (.inr l0)) (pgs_cons (pg_tup hc (pgs_cons (pg_name hN h1 (.inl l1) (.inr l1)) (pgs_cons (pg_name hN h2 (.inl l2) (.inr l2)) (pgs_cons (pg_name hN h3 (.inl l3) (.inr l3)) (pgs_cons (pg_name hN h4 (.inl l4) (.inr l4)) (pgs_cons (pg_name hN h5 (.inl l5) (.inr l5)) pgs_nil)))))) pgs_nil))
def six (sd:Str) (p:Pl):St:=[some (.str sd),some (.str p.nm),some (.int p.x),some (.int p.y),some (.int p.w),some (.int p.h)]
theorem comp_ahead {K:PySem.W.Frag} {a:Addr} {as:List Addr} {sd:Nat→Str} {pl:Nat→Pl} {tt:TT} {te:TE} {σ:St} {H:Hp} {Q:VK} (c:Nat→Bool) (f:Nat→V) (hq:SqL K H a (as.map V.ref)) (hn:as.length < sizeLine)
    (hp:∀ (i:Nat) (b:Addr),as[i]?=some b→∃ p,H b=some (.tup [.str (sd i),.ref p])∧H p=some (.tup (plRow (pl i))))
    (ht:∀ (D:Addr) (i:Nat) (l:List V) (Q':Bool→Hp→Prop),H D=none→i < as.length→Q' (c i) (upd H D (.lst l))→tt (six (sd i) (pl i) ++ σ) (upd H D (.lst l)) Q')
    (he:∀ (D:Addr) (i:Nat) (l:List V) (Q':VK),H D=none→i < as.length→Q' (f i) (upd H D (.lst l))→te (six (sd i) (pl i) ++ σ) (upd H D (.lst l)) Q')
    (hd:∀ D,H D=none→Q (.ref D) (upd H D (.lst (((List.range as.length).filter c).map f)))):CompGoN (Itl K a) H 6 σ (gNest K) tt te Q:=by
  intro D hD
  refine ⟨fun i m H'=>m=as.length - i∧i ≤ as.length∧H'=upd H D (.lst (((List.range i).filter c).map f)),⟨as.length,by omega,Nat.zero_le _,rfl⟩,?_⟩
  rintro i m H' ⟨rfl,hi,rfl⟩
  have hs:Same H (upd H D (.lst (((List.range i).filter c).map f))):=fun b o e=>by rw [upd_ne (ne_of_none e hD)]; exact e
  have q:=hs.seq hq
  by_cases hlt:i < as.length
  · obtain ⟨b,eb⟩:∃ b,as[i]?=some b:=⟨_,List.getElem?_eq_getElem hlt⟩
    have ebm:(as.map V.ref)[i]?=some (V.ref b):=by rw [List.getElem?_map,eb]; rfl
    obtain ⟨p,h1,h2⟩:=hp i b eb
    refine .inr ⟨⟨as.map V.ref,_,q,ebm⟩,fun x H2 ρ lρ y=>?_⟩
    obtain ⟨e,y⟩:=y
    subst e
    have hx:=(y _ q).symm.trans ebm
    cases hx
    match ρ,lρ with
    | [r0,r1,r2,r3,r4,r5],_ =>
      refine ⟨b,_,rfl,SqT.of (hs _ _ h1),rfl,_,_,rfl,_,_,rfl,?_⟩
      refine ⟨p,_,rfl,SqT.of (hs _ _ h2),rfl,_,_,rfl,_,_,rfl,_,_,rfl,_,_,rfl,_,_,rfl,rfl,rfl,⟨six (sd i) (pl i),rfl,rfl⟩,?_⟩
      refine ht D i _ _ hD hlt ?_
      cases hc:c i with
      | false =>
        refine iteF ⟨as.length - (i + 1),by omega,rfl,hlt,?_⟩
        rw [range_filter_succ,hc]
        simp
      | true =>
        refine iteT (he D i _ _ hD hlt ⟨_,upd_same,?_,as.length - (i + 1),by omega,rfl,hlt,?_⟩)
        · rw [List.length_map]
          refine Nat.lt_of_le_of_lt (List.length_filter_le _ _) ?_
          rw [List.length_range]
          omega
        · rw [upd_upd,range_filter_succ,hc]
          rfl
  · have e:i=as.length:=by omega
    subst e
    exact .inl ⟨⟨as.map V.ref,q,by rw [List.length_map]; exact Nat.le_refl _⟩,hd D hD⟩
def AhAt (H:Hp) (l:Addr) (fls:List Fl) (pls:List Pl):Prop:=∃ ba:List Addr,H l=some (.lst (ba.map V.ref))∧ba.length=pls.length∧∀ (i:Nat) (b:Addr),ba[i]?=some b→∃ p,H b=some (.tup [.str (sideOf (gF fls i).lf),.ref p])∧H p=some (.tup (plRow (gP pls i)))
theorem AhAt.same {H H':Hp} {l:Addr} {fls:List Fl} {pls:List Pl} (h:AhAt H l fls pls) (s:Same H H'):AhAt H' l fls pls:=by
  obtain ⟨ba,h1,h2,h3⟩:=h
  refine ⟨ba,s _ _ h1,h2,fun i b e=>?_⟩
  obtain ⟨p,a1,a2⟩:=h3 i b e
  exact ⟨p,s _ _ a1,s _ _ a2⟩
def sdT (fls:List Fl) (pls:List Pl) (sd:Bool) (row high:Int) (i:Nat):Bool:=decide (sideOf (gF fls i).lf=sideOf sd) && (decide ((gP pls i).y < row + high) && decide (row < (gP pls i).y + (gP pls i).h))
theorem sdT_iff {fls:List Fl} {pls:List Pl} {sd:Bool} {row high:Int} {i:Nat}:sdT fls pls sd row high i=true ↔ (gF fls i).lf=sd∧lawTou row high (gP pls i)=true:=by
  unfold sdT lawTou
  rw [Bool.and_eq_true,decide_eq_true_iff,side_eq]
theorem edL_max {W row0:Int} {fls:List Fl} {pls:List Pl} {row high M:Int} (hp:∀ p ∈ pls,InW W row0 p) (hl:pls.length ≤ fls.length) (hh:0 < high)
    (hm:M ∈ (0 :: (((List.range pls.length).filter (sdT fls pls true row high)).map fun i=>(gP pls i).x + (gP pls i).w))) (ha:∀ b ∈ (0 :: (((List.range pls.length).filter (sdT fls pls true row high)).map fun i=>(gP pls i).x + (gP pls i).w)),b ≤ M):M=edL fls pls row high:=by
  have tq:∀ i,i < pls.length→lawTou row high (gP pls i)=touB (gP pls i) row high:=fun i hi=>lawTou_eq (hp _ (gP_mem hi)) hh
  have h1:M ≤ edL fls pls row high:=by
    rcases List.mem_cons.mp hm with z | z
    · rw [z]; exact edL_0 hp row high
    · obtain ⟨i,hi,e⟩:=List.mem_map.mp z
      obtain ⟨a1,a2⟩:=List.mem_filter.mp hi
      have a3:=List.mem_range.mp a1
      obtain ⟨b1,b2⟩:=sdT_iff.mp a2
      rw [← e]
      exact edL_ge (mem_tIdx.mpr ⟨by omega,a3,b1,by rw [← tq i a3]; exact b2⟩)
  have h2:edL fls pls row high ≤ M:=by
    rcases edL_is fls pls row high with z | ⟨i,hi,z⟩
    · rw [z]; exact ha 0 List.mem_cons_self
    · obtain ⟨a1,a2,a3,a4⟩:=mem_tIdx.mp hi
      rw [z]
      exact ha _ (List.mem_cons_of_mem _ (List.mem_map.mpr ⟨i,List.mem_filter.mpr ⟨List.mem_range.mpr a2,sdT_iff.mpr ⟨a3,by rw [tq i a2]; exact a4⟩⟩,rfl⟩))
  omega
theorem edR_min {W row0:Int} {fls:List Fl} {pls:List Pl} {row high M:Int} (hp:∀ p ∈ pls,InW W row0 p) (hl:pls.length ≤ fls.length) (hh:0 < high)
    (hm:M ∈ (W :: (((List.range pls.length).filter (sdT fls pls false row high)).map fun i=>(gP pls i).x))) (ha:∀ b ∈ (W :: (((List.range pls.length).filter (sdT fls pls false row high)).map fun i=>(gP pls i).x)),M ≤ b):M=edR W fls pls row high:=by
  have tq:∀ i,i < pls.length→lawTou row high (gP pls i)=touB (gP pls i) row high:=fun i hi=>lawTou_eq (hp _ (gP_mem hi)) hh
  have h1:edR W fls pls row high ≤ M:=by
    rcases List.mem_cons.mp hm with z | z
    · rw [z]; exact edR_W hp row high
    · obtain ⟨i,hi,e⟩:=List.mem_map.mp z
      obtain ⟨a1,a2⟩:=List.mem_filter.mp hi
      have a3:=List.mem_range.mp a1
      obtain ⟨b1,b2⟩:=sdT_iff.mp a2
      rw [← e]
      exact edR_le (mem_tIdx.mpr ⟨by omega,a3,b1,by rw [← tq i a3]; exact b2⟩)
  have h2:M ≤ edR W fls pls row high:=by
    rcases edR_is W fls pls row high with z | ⟨i,hi,z⟩
    · rw [z]; exact ha W List.mem_cons_self
    · obtain ⟨a1,a2,a3,a4⟩:=mem_tIdx.mp hi
      rw [z]
      exact ha _ (List.mem_cons_of_mem _ (List.mem_map.mpr ⟨i,List.mem_filter.mpr ⟨List.mem_range.mpr a2,sdT_iff.mpr ⟨a3,by rw [tq i a2]; exact a4⟩⟩,rfl⟩))
  omega
def spLEdges:Sp:=fun vs H Q _=>∃ (l:Addr) (fls:List Fl) (pls:List Pl) (W row0 row high:Int),vs=[.int W,.ref l,.int row,.int high]∧AhAt H l fls pls∧(∀ p ∈ pls,InW W row0 p)∧pls.length ≤ fls.length∧pls.length ≤ 1000∧0 < high ∧
  ∀ (t:Addr) (H':Hp),Same H H'→H' t=some (.tup [.int (edL fls pls row high),.int (edR W fls pls row high)])→Q (.ref t) H'
section
variable {P:Program} {w:World} {K:PySem.W.Frag} {mg:Str→Option Value} {base:Heap}
abbrev nLEdges:List Str:=["_law_wide","_law_ahead","_law_row","_law_high","_law_lefts","_law_rights"]
theorem scLEdges:FnScope nLEdges ["_law_wide","_law_ahead","_law_row","_law_high"] (defScope sLEdges):=⟨rfl,rfl,rfl,by decide +kernel,rfl,by decide +kernel,by decide +kernel⟩
theorem scLEdgesN0:(["_law_side","_law_name","_law_x","_law_y","_law_w","_law_h","_law_wide","_law_ahead","_law_row","_law_high","_law_lefts","_law_rights"]:List Str).Nodup:=by decide +kernel
set_option maxHeartbeats 16000000 in
theorem ok_lEdges {f:Addr} {fd:FuncData} (F:Fun K "_law_edges" "_law_edges" sLEdges f fd) (N:Names mg):FnOk P w K mg base CX0 1 f fd ["_law_wide","_law_ahead","_law_row","_law_high"] spLEdges:=by
  refine F.ok scLEdges (fun vs H Q E h=>?_) (fun cdv A outer s H vs Q E hr h=>?_)
  · obtain ⟨l,fls,pls,W,row0,row,high,e,_⟩:=h
    rw [e]
    rfl
  · obtain ⟨l,fls,pls,W,row0,row,high,e,hA,hp,hl,h1000,hh,k⟩:=h
    subst e
    refine ⟨_,pss_cons (ps_setCompN (i:=4) (k:=6) (N':=["_law_side","_law_name","_law_x","_law_y","_law_w","_law_h","_law_wide","_law_ahead","_law_row","_law_high","_law_lefts","_law_rights"]) (compScN_mk (fs:=defScope sLEdges) (N:=nLEdges) rfl rfl (by decide +kernel)) rfl scLEdges.nd rfl (Or.inl rfl) (pi_list (pv 1)) (fun _ _ _ _ _=>pg_nestK (K:=K) rfl rfl scLEdgesN0 rfl rfl rfl rfl rfl rfl rfl rfl rfl rfl rfl rfl) (fun _ _ _ _ _=>pts_one (pw_and (pt_cmpR op_eq (pv 0) pe_str (nomark _)) (pw_and (pt_cmpR op_lt (pv 3) (pe_op op_add (pv 8) (pv 9)) (nomark _)) (pw_and1 (pt_cmpR op_lt (pv 8) (pe_op op_add (pv 3) (pv 5)) (nomark _))))).pt) (fun _ _ _ _ _=>(pe_op op_add (pv 2) (pv 4))) rfl)
      (pss_cons (ps_setCompN (i:=5) (k:=6) (N':=["_law_side","_law_name","_law_x","_law_y","_law_w","_law_h","_law_wide","_law_ahead","_law_row","_law_high","_law_lefts","_law_rights"]) (compScN_mk (fs:=defScope sLEdges) (N:=nLEdges) rfl rfl (by decide +kernel)) rfl scLEdges.nd rfl (Or.inl rfl) (pi_list (pv 1)) (fun _ _ _ _ _=>pg_nestK (K:=K) rfl rfl scLEdgesN0 rfl rfl rfl rfl rfl rfl rfl rfl rfl rfl rfl rfl) (fun _ _ _ _ _=>pts_one (pw_and (pt_cmpR op_eq (pv 0) pe_str (nomark _)) (pw_and (pt_cmpR op_lt (pv 3) (pe_op op_add (pv 8) (pv 9)) (nomark _)) (pw_and1 (pt_cmpR op_lt (pv 8) (pe_op op_add (pv 3) (pv 5)) (nomark _))))).pt) (fun _ _ _ _ _=>(pv 2)) rfl)
      (pss_one (ps_ret (pe_tup (pa_cons (pe_callB (call_maxL rfl) (by rfl) N.max PyProof.Rows.boot_max (pa_cons (pe_op op_cat (pe_lst (pa_cons pe_int pa_nil)) (pv 4)) pa_nil)) (pa_cons (pe_callB (call_minL rfl) (by rfl) N.min PyProof.Rows.boot_min (pa_cons (pe_op op_cat (pe_lst (pa_cons (pv 0) pa_nil)) (pv 5)) pa_nil)) pa_nil)))))),?_⟩
    try rw [show (cxOf CX0 P w K mg base nLEdges "_law_edges" (defScope sLEdges) f cdv A outer s H E).nox.K=K from rfl]
    obtain ⟨ba,a1,a2,a3⟩:=id hA
    refine seq_abs fun N1 hN=>?_
    refine ⟨_,rfl,l,rfl,⟨_,SqL.of a1⟩,comp_ahead (sd:=fun i=>sideOf (gF fls i).lf) (pl:=gP pls) (sdT fls pls true row high) (fun i=>.int ((gP pls i).x + (gP pls i).w)) (SqL.of a1) (small (by omega)) a3 ?_ ?_ fun D hD=>?_⟩
    · intro D i l0 Q' hD hi hq
      unfold sdT at hq
      refine ⟨_,rfl,rfl,_,rfl,?_⟩
      by_cases c1:sideOf (gF fls i).lf=sideOf true
      · rw [decide_eq_true c1,Bool.true_and] at hq
        refine iteB (decide_eq_true (by rw [c1]; rfl)) ?_
        refine ⟨_,rfl,_,rfl,_,rfl,_,_,rfl,rfl,_,_,rfl,rfl,_,rfl,?_⟩
        by_cases c2:(gP pls i).y < row + high
        · rw [decide_eq_true c2,Bool.true_and] at hq
          refine iteB (decide_eq_true c2) ?_
          exact ⟨_,rfl,_,rfl,_,rfl,_,_,rfl,rfl,_,_,rfl,rfl,_,rfl,hq⟩
        · rw [decide_eq_false c2,Bool.false_and] at hq
          exact iteC (decide_eq_false c2) hq
      · rw [decide_eq_false c1,Bool.false_and] at hq
        exact iteC (decide_eq_false (fun z=>c1 (by injection z))) hq
    · intro D i l0 Q' hD hi hq
      exact ⟨_,rfl,_,rfl,_,_,rfl,rfl,hq⟩
    generalize hG:upd H D _=H1
    have s1:Same H H1:=by rw [← hG]; exact Same.put (Same.refl _) hD
    have h1:H1 D=some (.lst (((List.range ba.length).filter (sdT fls pls true row high)).map fun i=>.int ((gP pls i).x + (gP pls i).w))):=by rw [← hG]; exact upd_same
    clear hG
    refine hN _ _ ?_
    clear hN N1
    have a1':=s1 _ _ a1
    have a3':∀ (i:Nat) (b:Addr),ba[i]?=some b→∃ p,H1 b=some (.tup [.str (sideOf (gF fls i).lf),.ref p])∧H1 p=some (.tup (plRow (gP pls i))):=fun i b e=>by
      obtain ⟨p,z1,z2⟩:=a3 i b e
      exact ⟨p,s1 _ _ z1,s1 _ _ z2⟩
    refine seq_abs fun N1 hN=>?_
    refine ⟨_,rfl,l,rfl,⟨_,SqL.of a1'⟩,comp_ahead (sd:=fun i=>sideOf (gF fls i).lf) (pl:=gP pls) (sdT fls pls false row high) (fun i=>.int (gP pls i).x) (SqL.of a1') (small (by omega)) a3' ?_ ?_ fun D2 hD2=>?_⟩
    · intro D i l0 Q' hD hi hq
      unfold sdT at hq
      refine ⟨_,rfl,rfl,_,rfl,?_⟩
      by_cases c1:sideOf (gF fls i).lf=sideOf false
      · rw [decide_eq_true c1,Bool.true_and] at hq
        refine iteB (decide_eq_true (by rw [c1]; rfl)) ?_
        refine ⟨_,rfl,_,rfl,_,rfl,_,_,rfl,rfl,_,_,rfl,rfl,_,rfl,?_⟩
        by_cases c2:(gP pls i).y < row + high
        · rw [decide_eq_true c2,Bool.true_and] at hq
          refine iteB (decide_eq_true c2) ?_
          exact ⟨_,rfl,_,rfl,_,rfl,_,_,rfl,rfl,_,_,rfl,rfl,_,rfl,hq⟩
        · rw [decide_eq_false c2,Bool.false_and] at hq
          exact iteC (decide_eq_false c2) hq
      · rw [decide_eq_false c1,Bool.false_and] at hq
        exact iteC (decide_eq_false (fun z=>c1 (by injection z))) hq
    · intro D i l0 Q' hD hi hq
      exact ⟨_,rfl,hq⟩
    generalize hG:upd H1 D2 _=H2
    have s2:Same H1 H2:=by rw [← hG]; exact Same.put (Same.refl _) hD2
    have h2:H2 D2=some (.lst (((List.range ba.length).filter (sdT fls pls false row high)).map fun i=>.int (gP pls i).x)):=by rw [← hG]; exact upd_same
    clear hG
    refine hN _ _ ?_
    clear hN N1
    have hl1:((List.range ba.length).filter (sdT fls pls true row high)).length ≤ 1000:=Nat.le_trans (List.length_filter_le _ _) (by rw [List.length_range]; omega)
    have hl2:((List.range ba.length).filter (sdT fls pls false row high)).length ≤ 1000:=Nat.le_trans (List.length_filter_le _ _) (by rw [List.length_range]; omega)
    refine ⟨smallE (by simp),fun z1 hz1=>?_⟩
    generalize hG:upd H2 z1 _=H3
    have s3:Same H2 H3:=by rw [← hG]; exact Same.put (Same.refl _) hz1
    have h3:H3 z1=some (.lst [.int 0]):=by rw [← hG]; exact upd_same
    clear hG
    refine ⟨_,rfl,z1,D,_,_,rfl,rfl,h3,s3 _ _ (s2 _ _ h1),smallE (by rw [List.length_map,List.length_singleton]; omega),fun z2 hz2=>?_⟩
    have e1:[V.int 0] ++ ((List.range ba.length).filter (sdT fls pls true row high)).map (fun i=>V.int ((gP pls i).x + (gP pls i).w))=(0 :: ((List.range pls.length).filter (sdT fls pls true row high)).map fun i=>(gP pls i).x + (gP pls i).w).map V.int:=by
      rw [a2,List.map_cons,List.map_map]
      rfl
    rw [e1]
    generalize hG:upd H3 z2 _=H4
    have s4:Same H3 H4:=by rw [← hG]; exact Same.put (Same.refl _) hz2
    have h4:H4 z2=some (.lst ((0 :: ((List.range pls.length).filter (sdT fls pls true row high)).map fun i=>(gP pls i).x + (gP pls i).w).map V.int)):=by rw [← hG]; exact upd_same
    clear hG
    refine ⟨z2,_,rfl,SqL.of h4,Nat.succ_pos _,fun M1 hm1 ha1=>?_⟩
    have eM1:=edL_max hp hl hh hm1 ha1
    subst eM1
    refine ⟨_,rfl,smallE (by simp),fun z3 hz3=>?_⟩
    generalize hG:upd H4 z3 _=H5
    have s5:Same H4 H5:=by rw [← hG]; exact Same.put (Same.refl _) hz3
    have h5:H5 z3=some (.lst [.int W]):=by rw [← hG]; exact upd_same
    clear hG
    refine ⟨_,rfl,z3,D2,_,_,rfl,rfl,h5,s5 _ _ (s4 _ _ (s3 _ _ h2)),smallE (by rw [List.length_map,List.length_singleton]; omega),fun z4 hz4=>?_⟩
    have e2:[V.int W] ++ ((List.range ba.length).filter (sdT fls pls false row high)).map (fun i=>V.int (gP pls i).x)=(W :: ((List.range pls.length).filter (sdT fls pls false row high)).map fun i=>(gP pls i).x).map V.int:=by
      rw [a2,List.map_cons,List.map_map]
      rfl
    rw [e2]
    generalize hG:upd H5 z4 _=H6
    have s6:Same H5 H6:=by rw [← hG]; exact Same.put (Same.refl _) hz4
    have h6:H6 z4=some (.lst ((W :: ((List.range pls.length).filter (sdT fls pls false row high)).map fun i=>(gP pls i).x).map V.int)):=by rw [← hG]; exact upd_same
    clear hG
    refine ⟨z4,_,rfl,SqL.of h6,Nat.succ_pos _,fun M2 hm2 ha2=>?_⟩
    have eM2:=edR_min hp hl hh hm2 ha2
    subst eM2
    refine ⟨by show 2 ≤ sizeLine; decide,fun t ht=>?_⟩
    exact k t _ (Same.trans s1 (Same.trans s2 (Same.trans s3 (Same.trans s4 (Same.trans s5 (Same.trans s6 (Same.put (Same.refl _) ht))))))) upd_same
end
end B69
namespace B69
open PySem L2 S2
def FlsX (W:Int) (fls:List Fl):Prop:=FlsOk W fls∧∀ f ∈ fls,f.h ≤ 4
def spLFloats (K:PySem.W.Frag):Sp:=fun vs H Q _=>∃ (ln lc:Addr) (W:Int) (nms:List Str) (cs:List Int),vs=[.ref ln,.ref lc]∧H ln=some (.lst (nms.map V.str))∧SqL K H lc (cs.map V.int)∧cs.length ≤ nms.length∧cs.length ≤ 63∧8 ≤ W ∧
  ∀ (l:Addr) (fa:List Addr) (fls:List Fl) (H':Hp),H l=none→Same H H'→FlAt H' l fa fls→FlsX W fls→fls.length=cs.length→(∀ i,i < fls.length→(gF fls i).nm=nms.getD i "")→Q (.ref l) H'
theorem side_at (z:Int):∃ b:Bool,atI [V.str "left",V.str "right"] (z % 2)=some (V.str (sideOf b)):=by
  obtain ⟨i,e,hi⟩:=nat_of (z:=z % 2) (n:=2) (by omega) (by omega)
  match i,hi,e with
  | 0,_,e=>exact ⟨true,atI_of e rfl⟩
  | 1,_,e=>exact ⟨false,atI_of e rfl⟩
def spLStands:Sp:=fun vs H Q _=>∃ (l o:Addr) (v:V) (fls:List Fl) (pls:List Pl) (W row:Int) (s:Pl),vs=[.int W,.ref l,.int row,.ref o,v]∧AhAt H l fls pls∧H o=some (.tup (flRow (gF fls pls.length)))∧(∀ p ∈ pls,InW W row p)∧pls.length ≤ fls.length∧pls.length ≤ 1000∧0 < (gF fls pls.length).h∧StandOk W fls pls row s∧PlE H v ∧
  (OkPl H v s→∀ H',Same H H'→Q (.bl true) H')∧(¬ OkPl H v s→∀ H',Same H H'→Q (.bl false) H')
theorem all5 {g:Nat→Bool}:(List.range 5).all g=(g 0 && (g 1 && (g 2 && (g 3 && g 4)))):=by
  show (g 0 && (g 1 && (g 2 && (g 3 && (g 4 && true)))))=_
  rw [Bool.and_true]
section
variable {P:Program} {w:World} {K:PySem.W.Frag} {mg:Str→Option Value} {base:Heap}
abbrev nLFloats:List Str:=["_law_names_here","_law_cells","_law_floats_here","_law_k","_law_cell","_law_some"]
theorem scLFloats:FnScope nLFloats ["_law_names_here","_law_cells"] (defScope sLFloats):=⟨rfl,rfl,rfl,by decide +kernel,rfl,by decide +kernel,by decide +kernel⟩
set_option maxHeartbeats 16000000 in
theorem ok_lFloats {f f1:Addr} {fd d1:FuncData} (F:Fun K "_law_floats" "_law_floats" sLFloats f fd) (N:Names mg)
    (G1:FnOk P w K mg base CX0 1 f1 d1 ["_law_cell","_law_many"] spNumbers) (b1:Binds K d1 ["_law_cell","_law_many"] []) (m1:mg "_law_numbers"=some (.ref f1)) (k1:PySem.W.keepIn K (.ref f1)=true):FnOk P w K mg base CX0 2 f fd ["_law_names_here","_law_cells"] (spLFloats K):=by
  refine F.ok scLFloats (fun vs H Q E h=>?_) (fun cdv A outer s H vs Q E hr h=>?_)
  · obtain ⟨ln,lc,W,nms,cs,e,_⟩:=h
    rw [e]
    rfl
  · obtain ⟨ln,lc,W,nms,cs,e,hn,hc,hle,h63,hW,k⟩:=h
    subst e
    have hr1:=hr.mono (j:=1) (by decide)
    refine ⟨_,pss_cons (ps_set (i:=2) scLFloats.nd rfl (Or.inl rfl) (pe_lst pa_nil))
      (pss_cons (ps_for PassesOwn.never rfl (pi_enL0 rfl N.enum (pa_cons (pv 1) pa_nil)) (pg_tup rfl (pgs_cons (pg_name (i:=3) scLFloats.nd rfl (Or.inl rfl)) (pgs_cons (pg_name (i:=4) scLFloats.nd rfl (Or.inl rfl)) pgs_nil)))
        (pss_cons (ps_set (i:=5) scLFloats.nd rfl (Or.inl rfl) (pe_call G1 hr1 (by rfl) m1 k1 b1 .nil pass0 (pa_cons (pv 4) (pa_cons pe_int pa_nil))))
        (pss_one (ps_expr (pe_bm PySem.F.plainAttrs_list PySem.F.slot_list_append PySem.F.type_list_append mt_append (pv 2) (pa_cons (pe_tup (pa_cons (pe_ix ix_list (pv 0) (pv 3) (fun _ _=>rfl)) (pa_cons (pe_ix ix_list (pe_lst (pa_cons pe_str (pa_cons pe_str pa_nil))) (pe_op op_mod (pe_ix ix_list (pv 5) pe_int (fun _ _=>rfl)) pe_int) (fun _ _=>rfl)) (pa_cons (pe_op op_add pe_int (pe_op op_mod (pe_ix ix_list (pv 5) pe_int (fun _ _=>rfl)) pe_int)) (pa_cons (pe_op op_add pe_int (pe_op op_mod (pe_ix ix_list (pv 5) pe_int (fun _ _=>rfl)) pe_int)) pa_nil))))) pa_nil))))))
      (pss_one (ps_ret (pv 2)))),?_⟩
    try rw [show (cxOf CX0 P w K mg base nLFloats "_law_floats" (defScope sLFloats) f cdv A outer s H E).nox.K=K from rfl]
    refine seq_abs fun N1 hN=>?_
    refine ⟨smallE (by simp),fun l hl=>?_⟩
    generalize hG:upd H l _=H1
    have s1:Same H H1:=by rw [← hG]; exact Same.put (Same.refl _) hl
    have h1:H1 l=some (.lst []):=by rw [← hG]; exact upd_same
    clear hG
    refine hN _ _ ?_
    clear hN N1
    refine seq_abs fun N1 hN=>?_
    refine ⟨_,rfl,lc,rfl,⟨_,s1.seq hc⟩,for_en (xs:=cs.map V.int) (fun i σ H9=>∃ (fa:List Addr) (fls:List Fl) (v4 v5 v6:Option V),σ=[some (.ref ln),some (.ref lc),some (.ref l),v4,v5,v6]∧Same H H9∧H9 l=some (.lst (fa.map V.ref))∧RowsOf H9 fa (fls.map flRow)∧fls.length=i∧FlsX W fls∧∀ i,i < fls.length→(gF fls i).nm=nms.getD i "")
      ⟨[],[],none,none,none,rfl,s1,h1,RowsOf.nil,rfl,⟨fun f hf=>(by cases hf),fun f hf=>(by cases hf)⟩,fun i hi=>absurd hi (Nat.not_lt_zero _)⟩ (fun i σ H9 _ ⟨_,_,_,_,_,_,s9,_⟩=>s9.seq hc) ?_ ?_⟩
    · rintro i x p σ H9 hx hp ⟨fa,fls,v4,v5,v6,rfl,s9,h9,hrow,hlen,hok,hnm⟩
      obtain ⟨z,rfl,hz⟩:=int_at hx
      have hi:i < cs.length:=get_lt hz
      generalize hG:upd H9 p _=H10
      have s10:Same H9 H10:=by rw [← hG]; exact Same.put (Same.refl _) hp
      have hp10:H10 p=some (.tup [.int (0 + (i:Int)),.int z]):=by rw [← hG]; exact upd_same
      clear hG
      have h10:=s10 _ _ h9
      have r10:=hrow.same s10
      refine ⟨p,_,rfl,SqT.of hp10,rfl,_,_,rfl,_,_,rfl,rfl,?_⟩
      refine ⟨_,rfl,z,3,rfl,by decide,fun ls nn H11 hls s11 h11 hnn=>?_⟩
      have s0:=Same.trans s9 (Same.trans s10 s11)
      have hn11:=s0 _ _ hn
      have hl11:=s11 _ _ h10
      have r11:=r10.same s11
      have lnl:ln ≠ l:=ne_of_none hn hl
      refine ⟨_,rfl,.inl ⟨rfl,_,SqL.of hl11⟩,?_⟩
      have en:(nms.map V.str)[i]?=some (V.str (nms.getD i "")):=by
        rw [List.getElem?_map,List.getElem?_eq_getElem (by omega),List.getD_eq_getElem?_getD,List.getElem?_eq_getElem (by omega)]
        rfl
      refine ⟨_,rfl,_,rfl,ln,_,_,_,rfl,rfl,SqL.of hn11,atI_of (j:=i) (by omega) en,(by show 2 ≤ sizeLine; decide),fun l2 hl2=>?_⟩
      generalize hG:upd H11 l2 _=H12
      have s12:Same H11 H12:=by rw [← hG]; exact Same.put (Same.refl _) hl2
      have h12:H12 l2=some (.lst [.str "left",.str "right"]):=by rw [← hG]; exact upd_same
      clear hG
      obtain ⟨b,hb⟩:=side_at (gi nn 0)
      refine ⟨_,rfl,ls,_,_,_,rfl,rfl,SqL.of (s12 _ _ h11),atI_nat (j:=0) (gi_at (by omega)),_,_,rfl,rfl,(by show (0:Int) < 2; decide),l2,_,_,_,rfl,rfl,SqL.of h12,hb,?_⟩
      refine ⟨_,rfl,ls,_,_,_,rfl,rfl,SqL.of (s12 _ _ h11),atI_nat (j:=1) (gi_at (by omega)),_,_,rfl,rfl,(by show (0:Int) < 8; decide),_,_,rfl,rfl,?_⟩
      refine ⟨_,rfl,ls,_,_,_,rfl,rfl,SqL.of (s12 _ _ h11),atI_nat (j:=2) (gi_at (by omega)),_,_,rfl,rfl,(by show (0:Int) < 4; decide),_,_,rfl,rfl,(by show 4 ≤ sizeLine; decide),fun tp htp=>?_⟩
      have w1:0 ≤ gi nn 1 % 8:=Int.emod_nonneg _ (by omega)
      have w2:gi nn 1 % 8 < 8:=Int.emod_lt_of_pos _ (by decide)
      have w3:0 ≤ gi nn 2 % 4:=Int.emod_nonneg _ (by omega)
      have w4:gi nn 2 % 4 < 4:=Int.emod_lt_of_pos _ (by decide)
      have hfl:0 < (1 + gi nn 1 % 8)∧1 + gi nn 1 % 8 ≤ W∧0 < 1 + gi nn 2 % 4:=⟨by omega,by omega,by omega⟩
      let fl:Fl:=⟨nms.getD i "",b,1 + gi nn 1 % 8,1 + gi nn 2 % 4⟩
      have s13:Same H12 (upd H12 tp (.tup (flRow fl))):=Same.put (Same.refl _) htp
      have h13:(upd H12 tp (.tup (flRow fl))) tp=some (.tup (flRow fl)):=upd_same
      have hl13:=s13 _ _ (s12 _ _ hl11)
      have r13:=r11.same (Same.trans s12 s13)
      have lfa:fa.length=fls.length:=by rw [hrow.1,List.length_map]
      refine (show ∃ l' _,_ from ?_)
      refine ⟨l,_,_,rfl,rfl,hl13,small (by rw [List.length_map]; omega),?_⟩
      have S13:Same H (upd H12 tp (.tup (flRow fl))):=Same.trans s0 (Same.trans s12 s13)
      refine (show ∃ fa' fls' v4 v5 v6,_ from ⟨fa ++ [tp],fls ++ [fl],_,_,_,rfl,Same.put S13 hl,?_,?_,by rw [List.length_append,hlen]; rfl,?_,?_⟩)
      · rw [upd_same,List.map_append]
        rfl
      · rw [List.map_append]
        exact RowsOf.snoc (r13.updL hl13) (Same.refl _) (by rw [upd_ne (ne_of h13 hl13 (by intro z; cases z))]; exact h13)
      · refine ⟨fun f hf=>?_,fun f hf=>?_⟩
        · rcases List.mem_append.mp hf with z | z
          · exact hok.1 f z
          · rw [List.mem_singleton.mp z]
            exact hfl
        · rcases List.mem_append.mp hf with z | z
          · exact hok.2 f z
          · rw [List.mem_singleton.mp z]
            show 1 + gi nn 2 % 4 ≤ 4
            omega
      · intro q hq
        rw [List.length_append] at hq
        by_cases e:q < fls.length
        · rw [show gF (fls ++ [fl]) q=gF fls q by unfold gF; rw [List.getD_eq_getElem?_getD,List.getD_eq_getElem?_getD,List.getElem?_append_left e]]
          exact hnm q e
        · have e2:q=fls.length:=by
            have:q < fls.length + 1:=hq
            omega
          subst e2
          rw [gF_of (f:=fl) (by rw [List.getElem?_append_right (Nat.le_refl _),Nat.sub_self]; rfl),hlen]
    · rintro σ H9 ⟨fa,fls,v4,v5,v6,rfl,s9,h9,hrow,hlen,hok,hnm⟩
      rw [List.length_map] at hlen
      exact hN _ _ ⟨_,rfl,k l fa fls H9 hl s9 ⟨h9,hrow,by omega⟩ hok hlen hnm⟩
abbrev nLWhole:List Str:=["_law_thing"]
theorem scLWhole:FnScope nLWhole ["_law_thing"] (defScope sLWhole):=⟨rfl,rfl,rfl,by decide +kernel,rfl,by decide +kernel,by decide +kernel⟩
set_option maxHeartbeats 16000000 in
theorem ok_lWhole {f:Addr} {fd:FuncData} (F:Fun K "_law_whole" "_law_whole" sLWhole f fd) (N:Names mg):FnOk P w K mg base CX0 1 f fd ["_law_thing"] spWholeG:=by
  refine F.ok scLWhole (fun vs H Q E h=>?_) (fun cdv A outer s H vs Q E hr h=>?_)
  · obtain ⟨v,e,_⟩:=h
    rw [e]
    rfl
  · obtain ⟨v,e,hv⟩:=h
    subst e
    refine ⟨_,pss_one (ps_ret (pe_and (pe_callB call_isinst (by rfl) N.inst PyProof.Rows.boot_isinstance (pa_cons (pv 0) (pa_cons (pe_bltn (v:=.ty "int") (by rfl) N.int PyProof.Rows.boot_int rfl (by decide)) pa_nil))) (pe_one (pe_not (pe_callB call_isinst (by rfl) N.inst PyProof.Rows.boot_isinstance (pa_cons (pv 0) (pa_cons (pe_bltn (v:=.ty "bool") (by rfl) N.bool PyProof.Rows.boot_bool rfl (by decide)) pa_nil))))))),?_⟩
    try rw [show (cxOf CX0 P w K mg base nLWhole "_law_whole" (defScope sLWhole) f cdv A outer s H E).nox.K=K from rfl]
    rcases hv with ⟨z,rfl,k⟩ | ⟨b,rfl,k⟩
    · refine ⟨_,rfl,_,"int",_,_,rfl,TyOf.int z,kit_ints,_,rfl,iteT ?_⟩
      exact ⟨_,rfl,_,"bool",_,_,rfl,TyOf.int z,kit_intb,_,rfl,k⟩
    · refine ⟨_,rfl,_,"int",_,_,rfl,TyOf.bl b,kit_bi,_,rfl,iteT ?_⟩
      exact ⟨_,rfl,_,"bool",_,_,rfl,TyOf.bl b,kit_bb,_,rfl,k⟩
abbrev nLStands:List Str:=["_law_wide","_law_ahead","_law_row","_law_one","_law_thing","_law_left","_law_right","_law_x"]
theorem scLStands:FnScope nLStands ["_law_wide","_law_ahead","_law_row","_law_one","_law_thing"] (defScope sLStands):=⟨rfl,rfl,rfl,by decide +kernel,rfl,by decide +kernel,by decide +kernel⟩
set_option maxHeartbeats 16000000 in
theorem ok_lStands {f f1 f2:Addr} {fd d1 d2:FuncData} (F:Fun K "_law_stands" "_law_stands" sLStands f fd) (N:Names mg)
    (G1:FnOk P w K mg base CX0 1 f1 d1 ["_law_thing"] spWholeG) (b1:Binds K d1 ["_law_thing"] []) (m1:mg "_law_whole"=some (.ref f1)) (k1:PySem.W.keepIn K (.ref f1)=true)
    (G2:FnOk P w K mg base CX0 1 f2 d2 ["_law_wide","_law_ahead","_law_row","_law_high"] spLEdges) (b2:Binds K d2 ["_law_wide","_law_ahead","_law_row","_law_high"] []) (m2:mg "_law_edges"=some (.ref f2)) (k2:PySem.W.keepIn K (.ref f2)=true):FnOk P w K mg base CX0 2 f fd ["_law_wide","_law_ahead","_law_row","_law_one","_law_thing"] spLStands:=by
  refine F.ok scLStands (fun vs H Q E h=>?_) (fun cdv A outer s H vs Q E hr h=>?_)
  · obtain ⟨l,o,v,fls,pls,W,row,s0,e,_⟩:=h
    rw [e]
    rfl
  · obtain ⟨l,o,v,fls,pls,W,row,s0,e,hA,ho,hp,hl,h1000,hh,st,hv,kT,kF⟩:=h
    subst e
    have hr1:=hr.mono (j:=1) (by decide)
    have hu20:(A.deeper (PyProof.Rows.envOfC "_law_stands" (defScope sLStands) s.heap.objs.size f cdv)).units + 20 < cLine:=by have:=hr.units; omega
    refine ⟨_,pss_cons (ps_if (pw_or (pt_not (pt_val (pe_callB call_isinst (by rfl) N.inst PyProof.Rows.boot_isinstance (pa_cons (pv 4) (pa_cons (pe_bltn (v:=.ty "tuple") (by rfl) N.tuple PyProof.Rows.boot_tuple rfl (by decide)) pa_nil))))) (pw_or (pt_cmpR op_ne (pe_callB call_len_seq (by rfl) N.len PySem.boot_len (pa_cons (pv 4) pa_nil)) pe_int (nomark _)) (pw_or1 (pt_cmpR (r:=rIn K false) op_in_seq pe_bl (pe_comp (compSc_mk (fs:=defScope sLStands) (N:=nLStands) rfl rfl (by decide +kernel)) rfl (pi_tup (pe_slice sl_tup (pv 4) (po_some pe_int) po_none)) (fun _ _ _ _ _=>pts_nil) (fun _ _ _ _ _=>(pe_call G1 hr1 (by rfl) m1 k1 b1 .nil pass0 (pa_cons (pv 0) pa_nil)))) (by rfl))))).pt (pss_one (ps_ret pe_bl)) pss_nil)
      (pss_cons (ps_asg (pe_call G2 hr1 (by rfl) m2 k2 b2 .nil pass0 (pa_cons (pv 0) (pa_cons (pv 1) (pa_cons (pv 2) (pa_cons (pe_ix ix_tup (pv 3) pe_int (fun _ _=>rfl)) pa_nil))))) (pg_tup rfl (pgs_cons (pg_name (i:=5) scLStands.nd rfl (Or.inl rfl)) (pgs_cons (pg_name (i:=6) scLStands.nd rfl (Or.inl rfl)) pgs_nil))))
      (pss_cons (ps_while PassesOwn.never (pt_cmpR op_lt (pe_op op_sub (pv 6) (pv 5)) (pe_ix ix_tup (pv 3) pe_int (fun _ _=>rfl)) (nomark _))
        (pss_cons (ps_set (i:=2) scLStands.nd rfl (Or.inl rfl) (pe_op op_add (pv 2) pe_int))
        (pss_one (ps_asg (pe_call G2 hr1 (by rfl) m2 k2 b2 .nil pass0 (pa_cons (pv 0) (pa_cons (pv 1) (pa_cons (pv 2) (pa_cons (pe_ix ix_tup (pv 3) pe_int (fun _ _=>rfl)) pa_nil))))) (pg_tup rfl (pgs_cons (pg_name (i:=5) scLStands.nd rfl (Or.inl rfl)) (pgs_cons (pg_name (i:=6) scLStands.nd rfl (Or.inl rfl)) pgs_nil)))))))
      (pss_cons (ps_set (i:=7) scLStands.nd rfl (Or.inl rfl) (pv 5))
      (pss_cons (ps_if (pt_cmpR op_eq (pe_ix ix_tup (pv 3) pe_int (fun _ _=>rfl)) pe_str (nomark _)) (pss_one (ps_set (i:=7) scLStands.nd rfl (Or.inl rfl) (pe_op op_sub (pv 6) (pe_ix ix_tup (pv 3) pe_int (fun _ _=>rfl))))) pss_nil)
      (pss_one (ps_ret (pe_cmpR (op_eqDeep hu20) (pv 4) (pe_tup (pa_cons (pe_ix ix_tup (pv 3) pe_int (fun _ _=>rfl)) (pa_cons (pv 7) (pa_cons (pv 2) (pa_cons (pe_ix ix_tup (pv 3) pe_int (fun _ _=>rfl)) (pa_cons (pe_ix ix_tup (pv 3) pe_int (fun _ _=>rfl)) pa_nil)))))) (nomark _)))))))),?_⟩
    try rw [show (cxOf CX0 P w K mg base nLStands "_law_stands" (defScope sLStands) f cdv A outer s H E).nox.K=K from rfl]
    have hsy:=st.ge
    generalize hfe:gF fls pls.length=f0 at *
    refine seq_abs fun N1 hN=>?_
    rcases hv with ⟨a,n0,zs,rfl,hpv⟩ | rfl | ⟨a,es,rfl,hpv⟩
    rotate_left
    · refine ⟨_,rfl,_,"tuple",_,_,rfl,TyOf.non,kit_nt,_,rfl,iteT (iteT ?_)⟩
      exact kF (fun ⟨a,e,_⟩=>by cases e) H (Same.refl _)
    · refine ⟨_,rfl,_,"tuple",_,_,rfl,TyOf.lst hpv,kit_lt,_,rfl,iteT (iteT ?_)⟩
      exact kF (fun ⟨b,e,z⟩=>by cases e; rw [hpv] at z; cases z) H (Same.refl _)
    refine ⟨_,rfl,_,"tuple",_,_,rfl,TyOf.tup hpv,kit_tup,_,rfl,iteF ?_⟩
    by_cases h5:zs.length=4
    rotate_left
    · refine ⟨_,rfl,a,_,rfl,.inr (SqT.of hpv),rfl,_,rfl,iteB (by rw [dec_int,decide_eq_false (by rw [List.length_cons,List.length_map]; omega)]; rfl) (iteT ?_)⟩
      refine kF (fun ⟨b,e,z⟩=>?_) H (Same.refl _)
      cases e
      rw [hpv] at z
      injection z with z
      injection z with z
      have:=congrArg List.length z
      rw [List.length_cons,List.length_map] at this
      have e5:(plRow s0).length=5:=rfl
      omega
    refine ⟨_,rfl,a,_,rfl,.inr (SqT.of hpv),rfl,_,rfl,iteC (by rw [dec_int,decide_eq_true (by rw [List.length_cons,List.length_map]; omega)]; rfl) ?_⟩
    obtain ⟨x0,y0,w0,h0,rfl⟩:∃ a b c d,zs=[a,b,c,d]:=by
      match zs,h5 with
      | [a,b,c,d],_=>exact ⟨a,b,c,d,rfl⟩
    have hpv:H a=some (.tup (plRow ⟨n0,x0,y0,w0,h0⟩)):=hpv
    obtain ⟨p,ep⟩:∃ p:Pl,p=⟨n0,x0,y0,w0,h0⟩:=⟨_,rfl⟩
    rw [← ep] at hpv
    have key:∀ (b:Bool),(b=true ↔ p=s0)→∀ H',Same H H'→Q (.bl b) H':=fun b hb H' s'=>by
      cases b with
      | true=>exact kT ⟨a,rfl,by rw [← hb.mp rfl]; exact hpv⟩ H' s'
      | false=>exact kF (fun hk=>by have:=hb.mpr (OkPl.uniq ⟨a,rfl,hpv⟩ hk); cases this) H' s'
    clear h5 kT kF ep
    refine ⟨_,rfl,_,rfl,a,_,rfl,SqT.of hpv,(fun z=>absurd z.1 (by show ¬ (1=0); decide)),fun b hb=>?_⟩
    have ecut:cutV (plRow p) (some 1) none=[.int p.x,.int p.y,.int p.w,.int p.h]:=rfl
    rw [ecut]
    generalize hG:upd H b _=H1
    have s1:Same H H1:=by rw [← hG]; exact Same.put (Same.refl _) hb
    have h1:H1 b=some (.tup [.int p.x,.int p.y,.int p.w,.int p.h]):=by rw [← hG]; exact upd_same
    clear hG
    refine ⟨b,rfl,⟨_,SqT.of h1⟩,comp_allT h1 (small (Nat.le_of_ble_eq_true rfl)) ?_ fun D H' hD s2 hl'=>?_⟩
    · intro i x H' Q' hx s2 kk
      obtain ⟨z,rfl⟩:∃ z,x=V.int z:=by
        match i,hx with
        | 0,hx=>exact ⟨_,(Option.some.inj hx).symm⟩
        | 1,hx=>exact ⟨_,(Option.some.inj hx).symm⟩
        | 2,hx=>exact ⟨_,(Option.some.inj hx).symm⟩
        | 3,hx=>exact ⟨_,(Option.some.inj hx).symm⟩
      exact ⟨_,rfl,_,rfl,.inl ⟨z,rfl,kk _ (Same.refl _)⟩⟩
    refine ⟨D,_,rfl,.inl (SqL.of hl'),rfl,rfl,_,rfl,iteC rfl ?_⟩
    refine hN _ _ ?_
    clear hN N1
    have s02:=Same.trans s1 s2
    -- edges
    refine seq_abs fun N1 hN=>?_
    refine ⟨_,rfl,_,rfl,_,rfl,_,rfl,o,_,_,_,rfl,rfl,SqT.of (s02 _ _ ho),atI_nat (j:=3) rfl,l,fls,pls,W,row,row,f0.h,rfl,hA.same s02,hp,hl,h1000,hh,fun t H3 s3 ht=>?_⟩
    refine ⟨t,_,rfl,SqT.of ht,rfl,_,_,rfl,_,_,rfl,rfl,?_⟩
    refine hN _ _ ?_
    clear hN N1
    have s03:=Same.trans s02 s3
    clear h1 hl' hD hb s1 s2 s3 ht
    refine seq_abs fun N1 hN=>?_
    refine ⟨fun m' σ G=>∃ (r:Int),σ=[some (.int W),some (.ref l),some (.int r),some (.ref o),some (.ref a),some (.int (edL fls pls r f0.h)),some (.int (edR W fls pls r f0.h)),none]∧Same H G∧row ≤ r∧r ≤ s0.y∧m'=(s0.y - r).toNat,⟨_,row,rfl,s03,Int.le_refl _,hsy,rfl⟩,?_⟩
    rintro m' σ G ⟨r,rfl,sG,h1,h2,hm⟩
    refine ⟨_,rfl,_,rfl,_,_,rfl,rfl,_,rfl,o,_,_,_,rfl,rfl,SqT.of (sG _ _ ho),atI_nat (j:=2) rfl,_,_,rfl,rfl,_,rfl,?_⟩
    by_cases hr2:r < s0.y
    · have hfi:=st.first r h1 hr2
      rw [hfe] at hfi
      refine iteB (decide_eq_true hfi) ⟨fun σ' H'=>σ'=[some (.int W),some (.ref l),some (.int (r + 1)),some (.ref o),some (.ref a),some (.int (edL fls pls (r + 1) f0.h)),some (.int (edR W fls pls (r + 1) f0.h)),none]∧Same H H',fun σ' H' ⟨e1,e2⟩=>⟨(s0.y - (r + 1)).toNat,by omega,r + 1,e1,e2,by omega,by omega,rfl⟩,?_⟩
      refine ⟨_,rfl,_,_,rfl,rfl,?_⟩
      refine ⟨_,rfl,_,rfl,_,rfl,_,rfl,o,_,_,_,rfl,rfl,SqT.of (sG _ _ ho),atI_nat (j:=3) rfl,l,fls,pls,W,row,r + 1,f0.h,rfl,hA.same sG,hp,hl,h1000,hh,fun t H3 s3 ht=>?_⟩
      exact ⟨t,_,rfl,SqT.of ht,rfl,_,_,rfl,_,_,rfl,rfl,rfl,Same.trans sG s3⟩
    · have er:r=s0.y:=by omega
      subst er
      have hfi:=st.fit
      rw [hfe] at hfi
      refine iteC (decide_eq_false (by show ¬ (edR W fls pls s0.y f0.h - edL fls pls s0.y f0.h < f0.w); omega)) ?_
      refine hN _ _ ?_
      clear hN N1
      have hx:=st.x
      have hnm:=st.nm
      have hw:=st.w
      have hhh:=st.h
      rw [hfe] at hx hnm hw hhh
      refine seq_abs fun N1 hN=>?_
      refine ⟨_,rfl,?_⟩
      refine hN _ _ ?_
      clear hN N1
      refine seq_abs fun N1 hN=>?_
      have fin:N1 [some (.int W),some (.ref l),some (.int s0.y),some (.ref o),some (.ref a),some (.int (edL fls pls s0.y f0.h)),some (.int (edR W fls pls s0.y f0.h)),some (.int s0.x)] G:=by
        refine hN _ _ ?_
        clear hN N1
        have ho':=sG _ _ ho
        refine ⟨_,rfl,_,rfl,o,_,_,_,rfl,rfl,SqT.of ho',atI_nat (j:=0) rfl,_,rfl,_,rfl,_,rfl,o,_,_,_,rfl,rfl,SqT.of ho',atI_nat (j:=2) rfl,_,rfl,o,_,_,_,rfl,rfl,SqT.of ho',atI_nat (j:=3) rfl,(by show 5 ≤ sizeLine; decide),fun t2 ht2=>?_⟩
        generalize hG:upd G t2 _=G2
        have g2:Same G G2:=by rw [← hG]; exact Same.put (Same.refl _) ht2
        have q2:G2 t2=some (.tup [.str f0.nm,.int s0.x,.int s0.y,.int f0.w,.int f0.h]):=by rw [← hG]; exact upd_same
        clear hG
        refine ⟨a,t2,_,_,fun j=>match j with | 0=>decide (p.nm=f0.nm) | 1=>decide (p.x=s0.x) | 2=>decide (p.y=s0.y) | 3=>decide (p.w=f0.w) | _=>decide (p.h=f0.h),rfl,rfl,.inr ⟨SqT.of (g2 _ _ (sG _ _ hpv)),SqT.of q2⟩,rfl,(fun j x y e1 e2=>?_),?_⟩
        · match j,e1,e2 with
          | 0,e1,e2=>cases e1; cases e2; exact EqD.flat rfl rfl
          | 1,e1,e2=>cases e1; cases e2; exact EqD.flat rfl rfl
          | 2,e1,e2=>cases e1; cases e2; exact EqD.flat rfl rfl
          | 3,e1,e2=>cases e1; cases e2; exact EqD.flat rfl rfl
          | 4,e1,e2=>cases e1; cases e2; exact EqD.flat rfl rfl
        · refine key _ ?_ G2 (Same.trans sG g2)
          refine Iff.trans (b:=(decide (p.nm=f0.nm) && (decide (p.x=s0.x) && (decide (p.y=s0.y) && (decide (p.w=f0.w) && decide (p.h=f0.h)))))=true) (by
            refine Iff.trans (b:=(List.range 5).all (fun j=>match j with | 0=>decide (p.nm=f0.nm) | 1=>decide (p.x=s0.x) | 2=>decide (p.y=s0.y) | 3=>decide (p.w=f0.w) | _=>decide (p.h=f0.h))=true) Iff.rfl ?_
            rw [all5]
            exact Iff.rfl) ?_
          rw [Bool.and_eq_true,Bool.and_eq_true,Bool.and_eq_true,Bool.and_eq_true,decide_eq_true_iff,decide_eq_true_iff,decide_eq_true_iff,decide_eq_true_iff,decide_eq_true_iff,← hnm,← hw,← hhh]
          constructor
          · rintro ⟨z1,z2,z3,z4,z5⟩; exact Pl.ext' z1 z2 z3 z4 z5
          · rintro rfl; exact ⟨rfl,rfl,rfl,rfl,rfl⟩
      refine ⟨_,rfl,o,_,_,_,rfl,rfl,SqT.of (sG _ _ ho),atI_nat (j:=1) rfl,rfl,_,rfl,?_⟩
      cases hlf:f0.lf with
      | true =>
        refine iteC (decide_eq_false (by rw [show sideOf true="left" from rfl]; intro z; injection z with z; exact absurd z (by decide))) ?_
        rw [hlf,if_pos rfl] at hx
        rw [hx] at fin
        exact fin
      | false =>
        refine iteB (decide_eq_true rfl) ?_
        refine ⟨_,rfl,_,rfl,o,_,_,_,rfl,rfl,SqT.of (sG _ _ ho),atI_nat (j:=2) rfl,_,_,rfl,rfl,?_⟩
        rw [hlf,if_neg (by decide)] at hx
        rw [hx] at fin
        exact fin
end
end B69
namespace B69
open PySem L2 S2
def spLTouch:Sp:=fun vs H Q _=>∃ (a:Addr) (p:Pl) (row high:Int),vs=[.ref a,.int row,.int high]∧H a=some (.tup (plRow p))∧Q (.bl (lawTou row high p)) H
section
variable {P:Program} {w:World} {K:PySem.W.Frag} {mg:Str→Option Value} {base:Heap}
theorem scLTouch:FnScope ["_law_thing","_law_row","_law_high"] ["_law_thing","_law_row","_law_high"] (defScope sLTouch):=⟨rfl,rfl,rfl,by decide +kernel,rfl,by decide +kernel,by decide +kernel⟩
theorem ok_ltouch {f:Addr} {fd:FuncData} (F:Fun K "_law_touch" "_law_touch" sLTouch f fd):FnOk P w K mg base CX0 1 f fd ["_law_thing","_law_row","_law_high"] spLTouch:=by
  refine F.ok scLTouch (fun vs H Q E h=>?_) (fun cdv A outer s H vs Q E hr h=>?_)
  · obtain ⟨a,p,row,high,e,_⟩:=h
    rw [e]
    rfl
  · obtain ⟨a,p,row,high,e,hp,k⟩:=h
    subst e
    refine ⟨_,pss_one (ps_ret (pe_and (pe_cmpR op_lt (pe_ix ix_tup (pv 0) pe_int (fun _ _=>rfl)) (pe_op op_add (pv 1) (pv 2)) (nomark _)) (pe_one (pe_cmpR op_lt (pv 1) (pe_op op_add (pe_ix ix_tup (pv 0) pe_int (fun _ _=>rfl)) (pe_ix ix_tup (pv 0) pe_int (fun _ _=>rfl))) (nomark _))))),?_⟩
    refine ⟨_,rfl,a,_,_,_,rfl,rfl,SqT.of hp,atI_nat (j:=2) rfl,_,rfl,_,rfl,_,_,rfl,rfl,_,_,rfl,rfl,_,rfl,?_⟩
    unfold lawTou at k
    by_cases e:p.y < row + high
    · refine iteB (decide_eq_true e) ?_
      rw [decide_eq_true e,Bool.true_and] at k
      exact ⟨_,rfl,_,rfl,a,_,_,_,rfl,rfl,SqT.of hp,atI_nat (j:=2) rfl,_,rfl,a,_,_,_,rfl,rfl,SqT.of hp,atI_nat (j:=4) rfl,_,_,rfl,rfl,_,_,rfl,rfl,k⟩
    · refine iteC (decide_eq_false e) ?_
      rw [decide_eq_false e,Bool.false_and] at k
      exact k
end
def oI:Option Int→V
  | none=>.non
  | some z=>.int z
def e0S (sd:Bool) (W:Int):Int:=if sd=true then 0 else W
def spLBars:Sp:=fun vs H Q _=>∃ (l o:Addr) (n:Str) (sd:Bool) (fls:List Fl) (pls:List Pl) (f:Fl) (W row:Int),vs=[.int W,.ref l,.int row,.ref o,.str n,.str (sideOf sd)]∧AhAt H l fls pls∧H o=some (.tup (flRow f))∧pls.length ≤ 1000 ∧
  ∀ H',Same H H'→Q (oI (barF fls pls sd (e0S sd W) row f.h n)) H'
theorem find_at {p:Nat→Bool} {n i:Nat} (hi:i < n) (h1:p i=true) (h2:∀ j,j < i→p j=false):(List.range n).find? p=some i:=by
  rw [List.find?_range_eq_some]
  exact ⟨h1,List.mem_range.mpr hi,fun j hj=>by rw [h2 j hj]; rfl⟩
theorem sd_dec (sd:Bool):(if decide (V.str (sideOf sd)=V.str "right")=true then (1:Int) else 0)=if sd=true then 0 else 1:=by
  cases sd <;> decide
def spLShows:Sp:=fun vs H Q _=>∃ (l o c:Addr) (u:V) (fls:List Fl) (pls:List Pl) (f:Fl) (W row row0:Int) (s:Pl),vs=[.int W,.ref l,u,.int row,.ref o,.ref c]∧AhAt H l fls pls∧H o=some (.tup (flRow f))∧(∀ p ∈ pls,InW W row0 p)∧NmOk pls∧pls.length ≤ fls.length∧pls.length ≤ 1000∧0 < f.h∧H c=some (.tup (plRow s))∧PapE H u ∧
  ((∃ ts,OkPap H u ts∧papEnd W fls pls f row ts=some s.y)→∀ H',Same H H'→Q (.bl true) H')∧((¬ ∃ ts,OkPap H u ts∧papEnd W fls pls f row ts=some s.y)→∀ H',Same H H'→Q (.bl false) H')
theorem pap_at {H:Hp} {q p:Addr} {es:List V} {ts:List Tri} {i:Nat} {x:V} {s1 s2:Str} (h:OkPap H (.ref q) ts) (hq:H q=some (.lst es)) (hi:es[i]?=some (.ref p)) (hp:H p=some (.tup [x,.str s1,.str s2])):∃ z,x=.int z∧ts[i]?=some (z,s1,s2):=by
  obtain ⟨a,ta,e,h1,h2⟩:=h
  cases e
  have z:=hq.symm.trans h1
  cases z
  rw [List.getElem?_map] at hi
  cases et:ta[i]? with
  | none=>rw [et] at hi; cases hi
  | some p' =>
    rw [et] at hi
    cases hi
    have hl:=get_lt et
    rw [h2.1,List.length_map] at hl
    have e1:ts[i]?=some ts[i]:=List.getElem?_eq_getElem hl
    have y:=h2.2 i p _ et (by rw [List.getElem?_map,e1]; rfl)
    rw [hp] at y
    generalize ts[i]=t at *
    obtain ⟨t1,t2,t3⟩:=t
    unfold triV at y
    cases y
    exact ⟨_,rfl,e1⟩
section
variable {P:Program} {w:World} {K:PySem.W.Frag} {mg:Str→Option Value} {base:Heap}
abbrev nLBars:List Str:=["_law_wide","_law_ahead","_law_row","_law_one","_law_name","_law_side","_law_here","_law_thing"]
theorem scLBars:FnScope nLBars ["_law_wide","_law_ahead","_law_row","_law_one","_law_name","_law_side"] (defScope sLBars):=⟨rfl,rfl,rfl,by decide +kernel,rfl,by decide +kernel,by decide +kernel⟩
set_option maxHeartbeats 16000000 in
theorem ok_lBars {f f1:Addr} {fd d1:FuncData} (F:Fun K "_law_bars" "_law_bars" sLBars f fd) (N:Names mg)
    (G1:FnOk P w K mg base CX0 1 f1 d1 ["_law_thing","_law_row","_law_high"] spLTouch) (b1:Binds K d1 ["_law_thing","_law_row","_law_high"] []) (m1:mg "_law_touch"=some (.ref f1)) (k1:PySem.W.keepIn K (.ref f1)=true):FnOk P w K mg base CX0 2 f fd ["_law_wide","_law_ahead","_law_row","_law_one","_law_name","_law_side"] spLBars:=by
  refine F.ok scLBars (fun vs H Q E h=>?_) (fun cdv A outer s H vs Q E hr h=>?_)
  · obtain ⟨l,o,n,sd,fls,pls,f,W,row,e,_⟩:=h
    rw [e]
    rfl
  · obtain ⟨l,o,n,sd,fls,pls,f,W,row,e,hA,ho,h1000,k⟩:=h
    subst e
    have hr1:=hr.mono (j:=1) (by decide)
    refine ⟨_,pss_cons (ps_if (pt_cmpR op_eq (pv 4) pe_str (nomark _)) (pss_one (ps_ret (pe_ix ix_list (pe_lst (pa_cons pe_int (pa_cons (pv 0) pa_nil))) (pe_callTy call_int1 (by rfl) N.int PyProof.Rows.boot_int (pa_cons (pe_cmpR op_eq (pv 5) pe_str (nomark _)) pa_nil)) (fun _ _=>rfl)))) pss_nil)
      (pss_cons (ps_for PassesOwn.never rfl (pi_list (pv 1)) (pg_tup rfl (pgs_cons (pg_name (i:=6) scLBars.nd rfl (Or.inl rfl)) (pgs_cons (pg_name (i:=7) scLBars.nd rfl (Or.inl rfl)) pgs_nil)))
        (pss_one (ps_if (pw_and (pt_cmpR op_eq (pv 6) (pv 5) (nomark _)) (pw_and (pt_cmpR op_eq (pe_ix ix_tup (pv 7) pe_int (fun _ _=>rfl)) (pv 4) (nomark _)) (pw_and1 (pt_val (pe_call G1 hr1 (by rfl) m1 k1 b1 .nil pass0 (pa_cons (pv 7) (pa_cons (pv 2) (pa_cons (pe_ix ix_tup (pv 3) pe_int (fun _ _=>rfl)) pa_nil)))))))).pt (pss_one (ps_ret (pe_op op_add (pe_ix ix_tup (pv 7) pe_int (fun _ _=>rfl)) (pe_ix ix_list (pe_lst (pa_cons (pe_ix ix_tup (pv 7) pe_int (fun _ _=>rfl)) (pa_cons pe_int pa_nil))) (pe_callTy call_int1 (by rfl) N.int PyProof.Rows.boot_int (pa_cons (pe_cmpR op_eq (pv 5) pe_str (nomark _)) pa_nil)) (fun _ _=>rfl))))) pss_nil)))
      (pss_one (ps_ret pe_non))),?_⟩
    try rw [show (cxOf CX0 P w K mg base nLBars "_law_bars" (defScope sLBars) f cdv A outer s H E).nox.K=K from rfl]
    obtain ⟨ba,a1,a2,a3⟩:=id hA
    have six0:=sd_dec sd
    refine seq_abs fun N1 hN=>?_
    refine ⟨_,rfl,rfl,_,rfl,?_⟩
    by_cases hn:n=""
    · refine iteB (decide_eq_true (by rw [hn])) ?_
      refine ⟨_,rfl,(by show 2 ≤ sizeLine; decide),fun z1 hz1=>?_⟩
      generalize hG:upd H z1 _=H1
      have s1:Same H H1:=by rw [← hG]; exact Same.put (Same.refl _) hz1
      have h1:H1 z1=some (.lst [.int 0,.int W]):=by rw [← hG]; exact upd_same
      clear hG
      refine ⟨_,rfl,rfl,.inr ⟨_,rfl,?_⟩⟩
      rw [six0]
      have kk:=k H1 s1
      unfold barF e0S at kk
      rw [if_pos hn] at kk
      cases sd with
      | true=>exact ⟨z1,_,_,_,rfl,rfl,SqL.of h1,atI_nat (j:=0) rfl,kk⟩
      | false=>exact ⟨z1,_,_,_,rfl,rfl,SqL.of h1,atI_nat (j:=1) rfl,kk⟩
    refine iteC (decide_eq_false (fun z=>hn (by injection z))) ?_
    refine hN _ _ ?_
    clear hN N1
    have kb:=k
    unfold barF at kb
    rw [if_neg hn] at kb
    clear k
    refine seq_abs fun N1 hN=>?_
    refine ⟨_,rfl,l,rfl,⟨_,SqL.of a1⟩,for_list (K:=K) (a:=l) (xs:=ba.map V.ref) (fun i σ G=>∃ v6 v7,σ=[some (.int W),some (.ref l),some (.int row),some (.ref o),some (.str n),some (.str (sideOf sd)),v6,v7]∧G=H∧∀ j,j < i→barP fls pls sd row f.h n j=false) ⟨_,_,rfl,rfl,fun j hj=>by omega⟩ (fun i σ G _ ⟨_,_,_,e,_⟩=>by rw [e]; exact SqL.of a1) ?_ ?_⟩
    · rintro i x σ G hx ⟨v6,v7,rfl,rfl,hno⟩
      have hi:i < pls.length:=by have:=get_lt hx; rw [List.length_map] at this; omega
      rw [List.getElem?_map] at hx
      cases eb:ba[i]? with
      | none=>rw [eb] at hx; cases hx
      | some b =>
        rw [eb] at hx
        cases hx
        obtain ⟨p,b1,b2⟩:=a3 i b eb
        refine ⟨b,_,rfl,SqT.of b1,rfl,_,_,rfl,_,_,rfl,rfl,?_⟩
        have nxt:barP fls pls sd row f.h n i=false→∀ v6 v7:Option V,∃ v6' v7',([some (.int W),some (.ref l),some (.int row),some (.ref o),some (.str n),some (.str (sideOf sd)),v6,v7]:St)=[some (.int W),some (.ref l),some (.int row),some (.ref o),some (.str n),some (.str (sideOf sd)),v6',v7']∧G=G∧∀ j,j < i + 1→barP fls pls sd row f.h n j=false:=fun hb v6 v7=>⟨v6,v7,rfl,rfl,fun j hj=>by
          by_cases e:j=i
          · subst e; exact hb
          · exact hno j (by omega)⟩
        refine ⟨_,rfl,_,rfl,rfl,_,rfl,?_⟩
        by_cases c1:(gF fls i).lf=sd
        rotate_left
        · refine iteC (decide_eq_false (fun z=>c1 ((side_eq _ _).mp (by injection z)))) ?_
          exact iteF (nxt (by unfold barP; rw [decide_eq_false c1]; rfl) _ _)
        refine iteB (decide_eq_true (by rw [c1])) ?_
        refine ⟨_,rfl,p,_,_,_,rfl,rfl,SqT.of b2,atI_nat (j:=0) rfl,_,rfl,rfl,_,rfl,?_⟩
        by_cases c2:(gP pls i).nm=n
        rotate_left
        · refine iteC (decide_eq_false (fun z=>c2 (by injection z))) ?_
          exact iteF (nxt (by unfold barP; rw [decide_eq_false c2,Bool.false_and,Bool.and_false]) _ _)
        refine iteB (decide_eq_true (by rw [c2])) ?_
        refine ⟨_,rfl,_,rfl,_,rfl,o,_,_,_,rfl,rfl,SqT.of ho,atI_nat (j:=3) rfl,p,gP pls i,row,f.h,rfl,b2,_,rfl,?_⟩
        cases c3:lawTou row f.h (gP pls i) with
        | false=>exact iteF (nxt (by unfold barP; rw [c3,Bool.and_false,Bool.and_false]) _ _)
        | true =>
          refine iteT ?_
          have hb:barP fls pls sd row f.h n i=true:=by unfold barP; rw [decide_eq_true c1,decide_eq_true c2,c3]; rfl
          rw [find_at hi hb hno] at kb
          refine ⟨_,rfl,p,_,_,_,rfl,rfl,SqT.of b2,atI_nat (j:=1) rfl,_,rfl,p,_,_,_,rfl,rfl,SqT.of b2,atI_nat (j:=3) rfl,(by show 2 ≤ sizeLine; decide),fun z1 hz1=>?_⟩
          generalize hG:upd G z1 _=H1
          have s1:Same G H1:=by rw [← hG]; exact Same.put (Same.refl _) hz1
          have h1:H1 z1=some (.lst [.int (gP pls i).w,.int 0]):=by rw [← hG]; exact upd_same
          clear hG
          refine ⟨_,rfl,rfl,.inr ⟨_,rfl,?_⟩⟩
          rw [six0]
          have kk:=kb H1 s1
          cases sd with
          | true=>exact ⟨z1,_,_,_,rfl,rfl,SqL.of h1,atI_nat (j:=0) rfl,_,_,rfl,rfl,kk⟩
          | false =>
            refine ⟨z1,_,_,_,rfl,rfl,SqL.of h1,atI_nat (j:=1) rfl,_,_,rfl,rfl,?_⟩
            show Q (V.int ((gP pls i).x + 0)) H1
            rw [show (gP pls i).x + 0=(gP pls i).x by omega]
            exact kk
    · rintro σ G ⟨v6,v7,rfl,rfl,hno⟩
      rw [List.length_map,a2] at hno
      refine hN _ _ ?_
      have hz:(List.range pls.length).find? (barP fls pls sd row f.h n)=none:=List.find?_eq_none.mpr fun j hj=>by rw [hno j (List.mem_range.mp hj)]; decide
      rw [hz] at kb
      exact kb G (Same.refl _)
abbrev nLShows:List Str:=["_law_wide","_law_ahead","_law_paper_here","_law_row","_law_one","_law_thing","_law_triple","_law_left","_law_right"]
theorem scLShows:FnScope nLShows ["_law_wide","_law_ahead","_law_paper_here","_law_row","_law_one","_law_thing"] (defScope sLShows):=⟨rfl,rfl,rfl,by decide +kernel,rfl,by decide +kernel,by decide +kernel⟩
set_option maxHeartbeats 16000000 in
theorem ok_lShows {f f1 f2:Addr} {fd d1 d2:FuncData} (F:Fun K "_law_shows" "_law_shows" sLShows f fd) (N:Names mg)
    (G1:FnOk P w K mg base CX0 1 f1 d1 ["_law_thing"] spWholeG) (b1:Binds K d1 ["_law_thing"] []) (m1:mg "_law_whole"=some (.ref f1)) (k1:PySem.W.keepIn K (.ref f1)=true)
    (G2:FnOk P w K mg base CX0 2 f2 d2 ["_law_wide","_law_ahead","_law_row","_law_one","_law_name","_law_side"] spLBars) (b2:Binds K d2 ["_law_wide","_law_ahead","_law_row","_law_one","_law_name","_law_side"] []) (m2:mg "_law_bars"=some (.ref f2)) (k2:PySem.W.keepIn K (.ref f2)=true):FnOk P w K mg base CX0 3 f fd ["_law_wide","_law_ahead","_law_paper_here","_law_row","_law_one","_law_thing"] spLShows:=by
  refine F.ok scLShows (fun vs H Q E h=>?_) (fun cdv A outer s H vs Q E hr h=>?_)
  · obtain ⟨l,o,c,u,fls,pls,f0,W,row,row0,s0,e,_⟩:=h
    rw [e]
    rfl
  · obtain ⟨l,o,c,u,fls,pls,f0,W,row,row0,s0,e,hA,ho,hp,hNm,hl,h1000,hh,hc,hu,kT,kF⟩:=h
    subst e
    have hr1:=hr.mono (j:=1) (by decide)
    have hr2:=hr.mono (j:=2) (by decide)
    refine ⟨_,pss_cons (ps_if (pt_not (pt_val (pe_callB call_isinst (by rfl) N.inst PyProof.Rows.boot_isinstance (pa_cons (pv 2) (pa_cons (pe_bltn (v:=.ty "list") (by rfl) N.list PyProof.Rows.boot_list rfl (by decide)) pa_nil))))) (pss_one (ps_ret pe_bl)) pss_nil)
      (pss_cons (ps_for PassesOwn.never rfl (pi_list (pv 2)) (pg_name (i:=6) scLShows.nd rfl (Or.inl rfl))
        (pss_cons (ps_if (pw_or (pt_not (pt_val (pe_callB call_isinst (by rfl) N.inst PyProof.Rows.boot_isinstance (pa_cons (pv 6) (pa_cons (pe_bltn (v:=.ty "tuple") (by rfl) N.tuple PyProof.Rows.boot_tuple rfl (by decide)) pa_nil))))) (pw_or (pt_cmpR op_ne (pe_callB call_len_seq (by rfl) N.len PySem.boot_len (pa_cons (pv 6) pa_nil)) pe_int (nomark _)) (pw_or1 (pt_not (pt_val (pe_call G1 hr1 (by rfl) m1 k1 b1 .nil pass0 (pa_cons (pe_ix ix_tup (pv 6) pe_int (fun _ _=>rfl)) pa_nil))))))).pt (pss_one (ps_ret pe_bl)) pss_nil)
        (pss_cons (ps_if (pw_or (pt_cmpR op_le (pe_ix ix_tup (pv 6) pe_int (fun _ _=>rfl)) (pv 3) (nomark _)) (pw_or (pt_not (pt_val (pe_callB call_isinst (by rfl) N.inst PyProof.Rows.boot_isinstance (pa_cons (pe_ix ix_tup (pv 6) pe_int (fun _ _=>rfl)) (pa_cons (pe_bltn (v:=.ty "str") (by rfl) N.str PyProof.Rows.boot_str rfl (by decide)) pa_nil))))) (pw_or1 (pt_not (pt_val (pe_callB call_isinst (by rfl) N.inst PyProof.Rows.boot_isinstance (pa_cons (pe_ix ix_tup (pv 6) pe_int (fun _ _=>rfl)) (pa_cons (pe_bltn (v:=.ty "str") (by rfl) N.str PyProof.Rows.boot_str rfl (by decide)) pa_nil)))))))).pt (pss_one (ps_ret pe_bl)) pss_nil)
        (pss_one (ps_while PassesOwn.never (pt_cmpR op_lt (pv 3) (pe_ix ix_tup (pv 6) pe_int (fun _ _=>rfl)) (nomark _))
          (pss_cons (ps_set (i:=7) scLShows.nd rfl (Or.inl rfl) (pe_call G2 hr2 (by rfl) m2 k2 b2 .nil pass0 (pa_cons (pv 0) (pa_cons (pv 1) (pa_cons (pv 3) (pa_cons (pv 4) (pa_cons (pe_ix ix_tup (pv 6) pe_int (fun _ _=>rfl)) (pa_cons pe_str pa_nil))))))))
          (pss_cons (ps_set (i:=8) scLShows.nd rfl (Or.inl rfl) (pe_call G2 hr2 (by rfl) m2 k2 b2 .nil pass0 (pa_cons (pv 0) (pa_cons (pv 1) (pa_cons (pv 3) (pa_cons (pv 4) (pa_cons (pe_ix ix_tup (pv 6) pe_int (fun _ _=>rfl)) (pa_cons pe_str pa_nil))))))))
          (pss_cons (ps_if (pw_or (pt_cmpR op_isN (pv 7) pe_non (nomark _)) (pw_or (pt_cmpR op_isN (pv 8) pe_non (nomark _)) (pw_or1 (pt_cmpR op_ge (pe_op op_sub (pv 8) (pv 7)) (pe_ix ix_tup (pv 4) pe_int (fun _ _=>rfl)) (nomark _))))).pt (pss_one (ps_ret pe_bl)) pss_nil)
          (pss_one (ps_set (i:=3) scLShows.nd rfl (Or.inl rfl) (pe_op op_add (pv 3) pe_int)))))))))))
      (pss_one (ps_ret (pe_cmpR op_eq (pv 3) (pe_ix ix_tup (pv 5) pe_int (fun _ _=>rfl)) (nomark _))))),?_⟩
    try rw [show (cxOf CX0 P w K mg base nLShows "_law_shows" (defScope sLShows) f cdv A outer s H E).nox.K=K from rfl]
    refine seq_abs fun N1 hN=>?_
    rcases hu with ⟨q,es,rfl,hq,hel,hes⟩ | ⟨q,es,rfl,hq⟩
    rotate_left
    · refine ⟨_,rfl,_,"list",_,_,rfl,TyOf.tup hq,kit_tl,_,rfl,iteT ?_⟩
      refine kF (fun ⟨ts,⟨a,ta,e,h1,_⟩,_⟩=>?_) H (Same.refl _)
      cases e
      rw [hq] at h1
      cases h1
    refine ⟨_,rfl,_,"list",_,_,rfl,TyOf.lst hq,kit_list,_,rfl,iteF ?_⟩
    refine hN _ _ ?_
    clear hN N1
    refine seq_abs fun N1 hN=>?_
    refine ⟨_,rfl,q,rfl,⟨_,SqL.of hq⟩,for_list (K:=K) (a:=q) (xs:=es) (fun i σ G=>∃ (e:Int) (v6 v7 v8:Option V),σ=[some (.int W),some (.ref l),some (.ref q),some (.int e),some (.ref o),some (.ref c),v6,v7,v8]∧Same H G∧(∀ ts,OkPap H (.ref q) ts→papEnd W fls pls f0 row (ts.take i)=some e)∧∀ j x,j < i→es[j]?=some x→triB H x=true)
      ⟨row,none,none,none,rfl,Same.refl _,fun ts _=>rfl,fun j x hj=>by omega⟩ (fun i σ G _ ⟨_,_,_,_,_,z,_⟩=>SqL.of (z _ _ hq)) ?_ ?_⟩
    · rintro i x σ G hx ⟨e,v6,v7,v8,rfl,sG,hpe,hall⟩
      obtain ⟨p,y,s1,s2,rfl,hpt,hy⟩:=hes x (List.mem_of_getElem? hx)
      have hpG:=sG _ _ hpt
      have at0:atI [y,V.str s1,V.str s2] 0=some y:=atI_nat (j:=0) rfl
      have at1:atI [y,V.str s1,V.str s2] 1=some (V.str s1):=atI_nat (j:=1) rfl
      have at2:atI [y,V.str s1,V.str s2] 2=some (V.str s2):=atI_nat (j:=2) rfl
      refine seq_abs fun N2 hN2=>?_
      refine ⟨_,rfl,_,"tuple",_,_,rfl,TyOf.tup hpG,kit_tup,_,rfl,iteF ?_⟩
      refine ⟨_,rfl,p,_,rfl,.inr (SqT.of hpG),rfl,_,rfl,iteC rfl ?_⟩
      rcases hy with ⟨z,rfl⟩ | ⟨b,rfl⟩
      rotate_left
      · refine ⟨_,rfl,p,_,_,_,rfl,rfl,SqT.of hpG,at0,_,rfl,.inr ⟨b,rfl,_,rfl,iteT ?_⟩⟩
        refine kF (fun ⟨ts,h1,_⟩=>?_) G sG
        obtain ⟨z,e1,_⟩:=pap_at h1 hq hx hpt
        cases e1
      refine ⟨_,rfl,p,_,_,_,rfl,rfl,SqT.of hpG,at0,_,rfl,.inl ⟨z,rfl,_,rfl,iteF ?_⟩⟩
      refine hN2 _ _ ?_
      clear hN2 N2
      have stop:(decide (e < z) && cantB W fls pls f0 e (z - 1) s1 s2)=false→∀ H',Same H H'→Q (.bl false) H':=fun hb=>kF fun ⟨ts,h1,h2⟩=>by
        obtain ⟨z',e1,e2⟩:=pap_at h1 hq hx hpt
        cases e1
        have e3:papEnd W fls pls f0 row (ts.take (i + 1))=none:=by
          rw [pap_snoc e2,hpe ts h1]
          show (if (decide (e < z) && cantB W fls pls f0 e (z - 1) s1 s2)=true then some z else none)=none
          rw [if_neg (by rw [hb]; decide)]
        rw [pap_stop e3] at h2
        cases h2
      refine seq_abs fun N2 hN2=>?_
      refine ⟨_,rfl,p,_,_,_,rfl,rfl,SqT.of hpG,at0,_,rfl,_,_,rfl,rfl,_,rfl,?_⟩
      by_cases hez:e < z
      rotate_left
      · refine iteB (decide_eq_true (by omega)) (iteT ?_)
        exact stop (by rw [decide_eq_false hez]; rfl) G sG
      refine iteC (decide_eq_false (by omega)) ?_
      refine ⟨_,rfl,p,_,_,_,rfl,rfl,SqT.of hpG,at1,_,"str",_,_,rfl,TyOf.str _,kit_strs,_,rfl,iteF ?_⟩
      refine ⟨_,rfl,p,_,_,_,rfl,rfl,SqT.of hpG,at2,_,"str",_,_,rfl,TyOf.str _,kit_strs,_,rfl,iteF ?_⟩
      refine hN2 _ _ ?_
      clear hN2 N2
      refine ⟨fun m' σ G'=>∃ (r:Int) (v7 v8:Option V),σ=[some (.int W),some (.ref l),some (.ref q),some (.int r),some (.ref o),some (.ref c),some (.ref p),v7,v8]∧Same H G'∧e ≤ r∧r ≤ z∧(∀ r',e ≤ r'→r' < r→BarR W fls pls f0 s1 s2 r')∧m'=(z - r).toNat,⟨_,e,v7,v8,rfl,sG,Int.le_refl _,by omega,fun r' h1 h2=>by omega,rfl⟩,?_⟩
      rintro m' σ G' ⟨r,v7,v8,rfl,sG',h1,h2,hbar,hm⟩
      have hpG':=sG' _ _ hpt
      refine ⟨_,rfl,_,rfl,p,_,_,_,rfl,rfl,SqT.of hpG',at0,_,_,rfl,rfl,_,rfl,?_⟩
      by_cases hrz:r < z
      · refine iteB (decide_eq_true hrz) ⟨fun σ' H'=>∃ (v7 v8:Option V),σ'=[some (.int W),some (.ref l),some (.ref q),some (.int (r + 1)),some (.ref o),some (.ref c),some (.ref p),v7,v8]∧Same H H'∧BarR W fls pls f0 s1 s2 r,fun σ' H' ⟨v7,v8,e1,e2,e3⟩=>⟨(z - (r + 1)).toNat,by omega,r + 1,v7,v8,e1,e2,by omega,by omega,fun r' g1 g2=>by
          by_cases er:r'=r
          · subst er; exact e3
          · exact hbar r' g1 (by omega),rfl⟩,?_⟩
        have nob:¬ BarR W fls pls f0 s1 s2 r→∀ H',Same H H'→Q (.bl false) H':=fun hno=>stop (by
          rw [decide_eq_true hez,Bool.true_and]
          cases hcb:cantB W fls pls f0 e (z - 1) s1 s2 with
          | false=>rfl
          | true=>exact (hno ((cant_iff hNm hp hl hh hez).mp hcb r h1 hrz)).elim)
        refine seq_abs fun N2 hN2=>?_
        refine ⟨_,rfl,_,rfl,_,rfl,_,rfl,_,rfl,p,_,_,_,rfl,rfl,SqT.of hpG',at1,l,o,s1,true,fls,pls,f0,W,r,rfl,hA.same sG',sG' _ _ ho,h1000,fun G3 s3=>?_⟩
        refine hN2 _ _ ?_
        clear hN2 N2
        have sG3:=Same.trans sG' s3
        refine seq_abs fun N2 hN2=>?_
        refine ⟨_,rfl,_,rfl,_,rfl,_,rfl,_,rfl,p,_,_,_,rfl,rfl,SqT.of (sG3 _ _ hpt),at2,l,o,s2,false,fls,pls,f0,W,r,rfl,hA.same sG3,sG3 _ _ ho,h1000,fun G4 s4=>?_⟩
        refine hN2 _ _ ?_
        clear hN2 N2
        have sG4:=Same.trans sG3 s4
        refine seq_abs fun N2 hN2=>?_
        cases hL:barF fls pls true (e0S true W) r f0.h s1 with
        | none =>
          refine ⟨_,rfl,rfl,_,rfl,iteB rfl (iteT ?_)⟩
          exact nob (fun ⟨L,R,b1,_,_⟩=>by rw [show barF fls pls true 0 r f0.h s1=none from hL] at b1; cases b1) G4 sG4
        | some L =>
          refine ⟨_,rfl,rfl,_,rfl,iteC rfl ?_⟩
          cases hR:barF fls pls false (e0S false W) r f0.h s2 with
          | none =>
            refine ⟨_,rfl,rfl,_,rfl,iteB rfl (iteT ?_)⟩
            exact nob (fun ⟨L,R,_,b2,_⟩=>by rw [show barF fls pls false W r f0.h s2=none from hR] at b2; cases b2) G4 sG4
          | some R =>
            refine ⟨_,rfl,rfl,_,rfl,iteC rfl ?_⟩
            refine ⟨_,rfl,_,rfl,_,_,rfl,rfl,_,rfl,o,_,_,_,rfl,rfl,SqT.of (sG4 _ _ ho),atI_nat (j:=2) rfl,_,_,rfl,rfl,_,rfl,?_⟩
            by_cases hRL:R - L < f0.w
            rotate_left
            · refine iteB (decide_eq_true (by show R - L ≥ f0.w; omega)) ?_
              exact nob (fun ⟨L',R',b1,b2,b3⟩=>by
                rw [show barF fls pls true 0 r f0.h s1=some L from hL] at b1
                rw [show barF fls pls false W r f0.h s2=some R from hR] at b2
                cases b1
                cases b2
                exact hRL b3) G4 sG4
            refine iteC (decide_eq_false (by show ¬ (R - L ≥ f0.w); omega)) ?_
            refine hN2 _ _ ?_
            clear hN2 N2
            refine ⟨_,rfl,_,_,rfl,rfl,?_⟩
            exact (show ∃ v7 v8,_ from ⟨_,_,rfl,sG4,L,R,hL,hR,hRL⟩)
      · have er:r=z:=by omega
        subst er
        refine iteC (decide_eq_false (by omega)) ?_
        have hcb:=(cant_iff (n0:=s1) (n1:=s2) hNm hp hl hh hez).mpr hbar
        refine (show ∃ (e:Int) (v6 v7 v8:Option V),_ from ⟨r,_,v7,v8,rfl,sG',fun ts h1'=>?_,fun j x hj hxj=>?_⟩)
        · obtain ⟨z',e1,e2⟩:=pap_at h1' hq hx hpt
          cases e1
          rw [pap_snoc e2,hpe ts h1']
          show (if (decide (e < r) && cantB W fls pls f0 e (r - 1) s1 s2)=true then some r else none)=some r
          rw [if_pos (by rw [hcb,decide_eq_true hez]; rfl)]
        · by_cases ej:j=i
          · subst ej
            rw [hx] at hxj
            cases hxj
            unfold triB
            dsimp only
            rw [hpt]
          · exact hall j x (by omega) hxj
    · rintro σ G ⟨e,v6,v7,v8,rfl,sG,hpe,hall⟩
      refine hN _ _ ?_
      clear hN N1
      obtain ⟨ta,ts,et,hR⟩:=tris_of es fun x hm=>by
        obtain ⟨j,hj⟩:=List.getElem?_of_mem hm
        exact tri_true (hes x hm) (hall j x (get_lt hj) hj)
      subst et
      have hok:OkPap H (.ref q) ts:=⟨q,ta,rfl,hq,hR⟩
      have z:=hpe ts hok
      rw [List.length_map,hR.1,List.length_map,List.take_length] at z
      refine ⟨_,rfl,_,rfl,c,_,_,_,rfl,rfl,SqT.of (sG _ _ hc),atI_nat (j:=2) rfl,rfl,?_⟩
      rw [dec_int]
      by_cases ee:e=s0.y
      · rw [decide_eq_true ee]
        exact kT ⟨ts,hok,by rw [z,ee]⟩ G sG
      · rw [decide_eq_false ee]
        refine kF (fun ⟨ts',h1,h2⟩=>ee ?_) G sG
        have:=OkPap.uniq h1 hok
        subst this
        rw [z] at h2
        exact Option.some.inj h2
end
end B69
namespace B69
open PySem L2 S2
theorem AhAt.snoc {H:Hp} {l b p:Addr} {ba:List Addr} {fls:List Fl} {pls:List Pl} {s:Pl} {xs:List V} (h1:H l=some (.lst (ba.map V.ref))) (h2:ba.length=pls.length) (h3:∀ (i:Nat) (b:Addr),ba[i]?=some b→∃ p,H b=some (.tup [.str (sideOf (gF fls i).lf),.ref p])∧H p=some (.tup (plRow (gP pls i))))
    (hb:H b=some (.tup [.str (sideOf (gF fls pls.length).lf),.ref p])) (hp:H p=some (.tup (plRow s))):AhAt (upd H l (.lst (ba.map V.ref ++ [V.ref b]))) l fls (pls ++ [s]):=by
  have nl:∀ {q:Addr} {ys:List V},H q=some (.tup ys)→q ≠ l:=fun {q ys} e z=>by rw [z,h1] at e; cases e
  refine ⟨ba ++ [b],by rw [upd_same,List.map_append]; rfl,by rw [List.length_append,List.length_append,h2]; rfl,fun i c e=>?_⟩
  by_cases hi:i < ba.length
  · rw [List.getElem?_append_left hi] at e
    obtain ⟨q,q1,q2⟩:=h3 i c e
    refine ⟨q,by rw [upd_ne (nl q1)]; exact q1,?_⟩
    rw [upd_ne (nl q2),gP_snoc_lt (by omega)]
    exact q2
  · have hlt:=get_lt e
    rw [List.length_append,List.length_singleton] at hlt
    have ei:i=ba.length:=by omega
    subst ei
    rw [List.getElem?_append_right (Nat.le_refl _),Nat.sub_self] at e
    cases e
    refine ⟨p,by rw [upd_ne (nl hb),h2]; exact hb,?_⟩
    rw [upd_ne (nl hp),h2,gP_snoc_eq]
    exact hp
section
variable {P:Program} {w:World} {K:PySem.W.Frag} {mg:Str→Option Value} {base:Heap}
abbrev nLDue:List Str:=["_law_wide","_law_floats_here","_law_standing","_law_papers","_law_ahead","_law_row","_law_k","_law_one"]
theorem scLDue:FnScope nLDue ["_law_wide","_law_floats_here","_law_standing","_law_papers"] (defScope sLDue):=⟨rfl,rfl,rfl,by decide +kernel,rfl,by decide +kernel,by decide +kernel⟩
set_option maxHeartbeats 16000000 in
theorem ok_lDue {f f1 f2:Addr} {fd d1 d2:FuncData} (F:Fun K "_law_due" "_law_due" sLDue f fd) (N:Names mg)
    (G1:FnOk P w K mg base CX0 2 f1 d1 ["_law_wide","_law_ahead","_law_row","_law_one","_law_thing"] spLStands) (b1:Binds K d1 ["_law_wide","_law_ahead","_law_row","_law_one","_law_thing"] []) (m1:mg "_law_stands"=some (.ref f1)) (k1:PySem.W.keepIn K (.ref f1)=true)
    (G2:FnOk P w K mg base CX0 3 f2 d2 ["_law_wide","_law_ahead","_law_paper_here","_law_row","_law_one","_law_thing"] spLShows) (b2:Binds K d2 ["_law_wide","_law_ahead","_law_paper_here","_law_row","_law_one","_law_thing"] []) (m2:mg "_law_shows"=some (.ref f2)) (k2:PySem.W.keepIn K (.ref f2)=true):FnOk P w K mg base CX0 4 f fd ["_law_wide","_law_floats_here","_law_standing","_law_papers"] spStoodG:=by
  refine F.ok scLDue (fun vs H Q E h=>?_) (fun cdv A outer s H vs Q E hr h=>?_)
  · obtain ⟨a,fa,fls,W,v,u,e,_⟩:=h
    rw [e]
    rfl
  · obtain ⟨a,fa,fls,W,v,u,e,hF,hFo,hNf,hv,hu,kT,kF⟩:=h
    subst e
    have hr2:=hr.mono (j:=2) (by decide)
    have hr3:=hr.mono (j:=3) (by decide)
    refine ⟨_,pss_cons (ps_if (pw_or (pt_not (pt_val (pe_callB call_isinst (by rfl) N.inst PyProof.Rows.boot_isinstance (pa_cons (pv 2) (pa_cons (pe_bltn (v:=.ty "list") (by rfl) N.list PyProof.Rows.boot_list rfl (by decide)) pa_nil))))) (pw_or1 (pt_not (pt_val (pe_callB call_isinst (by rfl) N.inst PyProof.Rows.boot_isinstance (pa_cons (pv 3) (pa_cons (pe_bltn (v:=.ty "list") (by rfl) N.list PyProof.Rows.boot_list rfl (by decide)) pa_nil))))))).pt (pss_one (ps_ret pe_bl)) pss_nil)
      (pss_cons (ps_if (pw_or (pt_cmpR op_ne (pe_callB call_len_seq (by rfl) N.len PySem.boot_len (pa_cons (pv 2) pa_nil)) (pe_callB call_len_seq (by rfl) N.len PySem.boot_len (pa_cons (pv 1) pa_nil)) (nomark _)) (pw_or1 (pt_cmpR op_ne (pe_callB call_len_seq (by rfl) N.len PySem.boot_len (pa_cons (pv 3) pa_nil)) (pe_callB call_len_seq (by rfl) N.len PySem.boot_len (pa_cons (pv 1) pa_nil)) (nomark _)))).pt (pss_one (ps_ret pe_bl)) pss_nil)
      (pss_cons (ps_set (i:=4) scLDue.nd rfl (Or.inl rfl) (pe_lst pa_nil))
      (pss_cons (ps_set (i:=5) scLDue.nd rfl (Or.inl rfl) pe_int)
      (pss_cons (ps_for PassesOwn.never rfl (pi_enL0 rfl N.enum (pa_cons (pv 1) pa_nil)) (pg_tup rfl (pgs_cons (pg_name (i:=6) scLDue.nd rfl (Or.inl rfl)) (pgs_cons (pg_name (i:=7) scLDue.nd rfl (Or.inl rfl)) pgs_nil)))
        (pss_cons (ps_if (pt_not (pt_val (pe_call G1 hr2 (by rfl) m1 k1 b1 .nil pass0 (pa_cons (pv 0) (pa_cons (pv 4) (pa_cons (pv 5) (pa_cons (pv 7) (pa_cons (pe_ix ix_list (pv 2) (pv 6) (fun _ _=>rfl)) pa_nil)))))))) (pss_one (ps_ret pe_bl)) pss_nil)
        (pss_cons (ps_if (pt_not (pt_val (pe_call G2 hr3 (by rfl) m2 k2 b2 .nil pass0 (pa_cons (pv 0) (pa_cons (pv 4) (pa_cons (pe_ix ix_list (pv 3) (pv 6) (fun _ _=>rfl)) (pa_cons (pv 5) (pa_cons (pv 7) (pa_cons (pe_ix ix_list (pv 2) (pv 6) (fun _ _=>rfl)) pa_nil))))))))) (pss_one (ps_ret pe_bl)) pss_nil)
        (pss_cons (ps_expr (pe_bm PySem.F.plainAttrs_list PySem.F.slot_list_append PySem.F.type_list_append mt_append (pv 4) (pa_cons (pe_tup (pa_cons (pe_ix ix_tup (pv 7) pe_int (fun _ _=>rfl)) (pa_cons (pe_ix ix_list (pv 2) (pv 6) (fun _ _=>rfl)) pa_nil))) pa_nil)))
        (pss_one (ps_set (i:=5) scLDue.nd rfl (Or.inl rfl) (pe_ix ix_tup (pe_ix ix_list (pv 2) (pv 6) (fun _ _=>rfl)) pe_int (fun _ _=>rfl))))))))
      (pss_one (ps_ret pe_bl)))))),?_⟩
    try rw [show (cxOf CX0 P w K mg base nLDue "_law_due" (defScope sLDue) f cdv A outer s H E).nox.K=K from rfl]
    have lfa:fa.length=fls.length:=by rw [hF.2.1.1,List.length_map]
    have h100:=hF.2.2
    refine seq_abs fun N1 hN=>?_
    rcases hv with ⟨l,es,rfl,hl,hel,hes⟩ | ⟨l,es,rfl,hl⟩ | rfl
    rotate_left
    · refine ⟨_,rfl,_,"list",_,_,rfl,TyOf.tup hl,kit_tl,_,rfl,iteT (iteT ?_)⟩
      exact kF (fun ⟨l',pa,e,h1,_⟩=>by cases e; rw [hl] at h1; cases h1) H (Same.refl _)
    · refine ⟨_,rfl,_,"list",_,_,rfl,TyOf.non,kit_nl,_,rfl,iteT (iteT ?_)⟩
      exact kF (fun ⟨l',pa,e,h1,_⟩=>by cases e) H (Same.refl _)
    refine ⟨_,rfl,_,"list",_,_,rfl,TyOf.lst hl,kit_list,_,rfl,iteF ?_⟩
    rcases hu with ⟨q,us,rfl,hq,hul,hus⟩ | ⟨q,us,rfl,hq⟩ | rfl
    rotate_left
    · refine ⟨_,rfl,_,"list",_,_,rfl,TyOf.tup hq,kit_tl,_,rfl,iteT ?_⟩
      exact kF (fun ⟨_,_,_,_,_,q',us',e,h1,_⟩=>by cases e; rw [hq] at h1; cases h1) H (Same.refl _)
    · refine ⟨_,rfl,_,"list",_,_,rfl,TyOf.non,kit_nl,_,rfl,iteT ?_⟩
      exact kF (fun ⟨_,_,_,_,_,q',us',e,h1,_⟩=>by cases e) H (Same.refl _)
    refine ⟨_,rfl,_,"list",_,_,rfl,TyOf.lst hq,kit_list,_,rfl,iteF ?_⟩
    refine hN _ _ ?_
    clear hN N1
    refine seq_abs fun N1 hN=>?_
    refine ⟨_,rfl,l,_,rfl,.inl (SqL.of hl),_,rfl,a,_,rfl,.inl (SqL.of hF.1),rfl,_,rfl,?_⟩
    by_cases e1:es.length=fls.length
    rotate_left
    · refine iteB (by rw [dec_int,decide_eq_false (by rw [List.length_map,lfa]; omega)]; rfl) (iteT ?_)
      exact kF (fun g=>e1 (good_len g hl)) H (Same.refl _)
    refine iteC (by rw [dec_int,decide_eq_true (by rw [List.length_map,lfa,e1])]; rfl) ?_
    refine ⟨_,rfl,q,_,rfl,.inl (SqL.of hq),_,rfl,a,_,rfl,.inl (SqL.of hF.1),rfl,_,rfl,?_⟩
    by_cases e2:us.length=fls.length
    rotate_left
    · refine iteB (by rw [dec_int,decide_eq_false (by rw [List.length_map,lfa]; omega)]; rfl) ?_
      exact kF (fun g=>e2 (good_lenP g hq)) H (Same.refl _)
    refine iteC (by rw [dec_int,decide_eq_true (by rw [List.length_map,lfa,e2])]; rfl) ?_
    refine hN _ _ ?_
    clear hN N1
    refine seq_abs fun N1 hN=>?_
    refine ⟨smallE (by simp),fun la hla=>?_⟩
    generalize hG:upd H la _=H1
    have s1:Same H H1:=by rw [← hG]; exact Same.put (Same.refl _) hla
    have h1:H1 la=some (.lst []):=by rw [← hG]; exact upd_same
    clear hG
    refine hN _ _ ?_
    clear hN N1
    refine seq_abs fun N1 hN=>?_
    show N1 _ _
    refine hN _ _ ?_
    clear hN N1
    refine seq_abs fun N1 hN=>?_
    refine ⟨_,rfl,a,rfl,⟨_,SqL.of (s1 _ _ hF.1)⟩,for_en (xs:=fa.map V.ref) (fun i σ G=>∃ (v6 v7:Option V),σ=[some (.int W),some (.ref a),some (.ref l),some (.ref q),some (.ref la),some (.int (rwK W fls i)),v6,v7]∧Same H G∧AhAt G la fls (plK W fls i)∧(∃ pa:List Addr,es.take i=pa.map V.ref∧RowsOf H pa ((plK W fls i).map plRow))∧∀ k x,k < i→us[k]?=some x→∃ ts,OkPap H x ts∧papEnd W fls (plK W fls k) (gF fls k) (rwK W fls k) ts=some (stK W fls k).y)
      ⟨none,none,rfl,s1,⟨[],h1,rfl,fun i b e=>by simp at e⟩,⟨[],rfl,RowsOf.nil⟩,fun k x hk=>by omega⟩ (fun i σ G _ ⟨_,_,_,z,_⟩=>(SqL.of (z _ _ hF.1):SqL K G a (fa.map V.ref))) ?_ ?_⟩
    · rintro i x p0 σ G hx hp0 ⟨v6,v7,rfl,sG,hA,⟨pa,epa,hpa⟩,hpp⟩
      have hi:i < fls.length:=by have:=get_lt hx; rw [List.length_map] at this; omega
      have fg:=hF.get hi
      have ex:x=V.ref (fa.getD i 0):=by
        rw [List.getElem?_map,fg.1] at hx
        exact (Option.some.inj hx).symm
      subst ex
      obtain ⟨e,he⟩:∃ e,es[i]?=some e:=⟨_,List.getElem?_eq_getElem (by omega)⟩
      obtain ⟨y,hy⟩:∃ y,us[i]?=some y:=⟨_,List.getElem?_eq_getElem (by omega)⟩
      have hkE:=hes e (List.mem_of_getElem? he)
      have hkP:=hus y (List.mem_of_getElem? hy)
      generalize hG:upd G p0 _=H10
      have s10:Same G H10:=by rw [← hG]; exact Same.put (Same.refl _) hp0
      have hp10:H10 p0=some (.tup [.int (0 + (i:Int)),.ref (fa.getD i 0)]):=by rw [← hG]; exact upd_same
      clear hG
      have S10:=Same.trans sG s10
      have f10:=S10 _ _ fg.2
      have ap:atI es (0 + (i:Int))=some e:=atI_of (j:=i) (by omega) he
      have aq:atI us (0 + (i:Int))=some y:=atI_of (j:=i) (by omega) hy
      have lk:(plK W fls i).length=i:=plK_len W fls i
      obtain ⟨fo1,fo2,fo3⟩:=hFo _ (gF_mem' hi)
      refine ⟨p0,_,rfl,SqT.of hp10,rfl,_,_,rfl,_,_,rfl,rfl,?_⟩
      refine seq_abs fun N2 hN2=>?_
      refine ⟨_,rfl,_,rfl,_,rfl,_,rfl,_,rfl,_,rfl,l,_,_,_,rfl,rfl,SqL.of (S10 _ _ hl),ap,la,fa.getD i 0,e,fls,plK W fls i,W,rwK W fls i,stK W fls i,rfl,hA.same s10,by rw [lk]; exact f10,inK hFo (by omega),by omega,by omega,by rw [lk]; exact fo3,stK_ok hFo hi,hkE.same S10,fun hop H11 s11=>?_,fun hno H11 s11=>?_⟩
      rotate_left
      · refine ⟨_,rfl,iteT ?_⟩
        exact kF (fun g=>hno ((good_pl g hl he).same S10)) H11 (Same.trans S10 s11)
      refine ⟨_,rfl,iteF ?_⟩
      refine hN2 _ _ ?_
      clear hN2 N2
      have S11:=Same.trans S10 s11
      have hopH:=hop.less S10 hkE
      obtain ⟨ae,rfl,hae⟩:=id hopH
      refine seq_abs fun N2 hN2=>?_
      refine ⟨_,rfl,_,rfl,_,rfl,_,rfl,q,_,_,_,rfl,rfl,SqL.of (S11 _ _ hq),aq,_,rfl,_,rfl,_,rfl,_,rfl,l,_,_,_,rfl,rfl,SqL.of (S11 _ _ hl),ap,la,fa.getD i 0,ae,y,fls,plK W fls i,gF fls i,W,rwK W fls i,rwK W fls i,stK W fls i,rfl,(hA.same s10).same s11,s11 _ _ f10,inK hFo (by omega),nmK hNf (by omega),by omega,by omega,fo3,S11 _ _ hae,hkP.same S11,fun hyes H12 s12=>?_,fun hno H12 s12=>?_⟩
      rotate_left
      · refine ⟨_,rfl,iteT ?_⟩
        refine kF (fun g=>hno ?_) H12 (Same.trans S11 s12)
        obtain ⟨ts,g1,g2⟩:=good_pap g hq hy
        exact ⟨ts,g1.same S11,g2⟩
      obtain ⟨ts,hts,hpe⟩:=hyes
      have htsH:=hts.less S11 hkP
      refine ⟨_,rfl,iteF ?_⟩
      refine hN2 _ _ ?_
      clear hN2 N2
      have S12:=Same.trans S11 s12
      obtain ⟨ba,a1,a2,a3⟩:=((hA.same s10).same s11).same s12
      refine seq_abs fun N2 hN2=>?_
      refine ⟨_,rfl,.inl ⟨rfl,_,SqL.of a1⟩,?_⟩
      refine ⟨_,rfl,_,_,_,_,rfl,rfl,SqT.of (s12 _ _ (s11 _ _ f10)),atI_nat (j:=1) rfl,_,rfl,_,rfl,l,_,_,_,rfl,rfl,SqL.of (S12 _ _ hl),ap,(by show 2 ≤ sizeLine; decide),fun b hb=>?_⟩
      generalize hG:upd H12 b _=H13
      have s13:Same H12 H13:=by rw [← hG]; exact Same.put (Same.refl _) hb
      have h13:H13 b=some (.tup [.str (sideOf (gF fls i).lf),.ref ae]):=by rw [← hG]; exact upd_same
      clear hG
      refine ⟨la,_,_,rfl,rfl,s13 _ _ a1,small (by rw [List.length_map]; omega),?_⟩
      have S13:=Same.trans S12 s13
      refine hN2 _ _ ?_
      clear hN2 N2
      have S14:Same H (upd H13 la (.lst (ba.map V.ref ++ [V.ref b]))):=Same.put S13 hla
      have hA14:AhAt (upd H13 la (.lst (ba.map V.ref ++ [V.ref b]))) la fls (plK W fls i ++ [stK W fls i]):=AhAt.snoc (xs:=[]) (s13 _ _ a1) a2 (fun j c ej=>by
        obtain ⟨p,z1,z2⟩:=a3 j c ej
        exact ⟨p,s13 _ _ z1,s13 _ _ z2⟩) (by rw [lk]; exact h13) (S13 _ _ hae)
      generalize upd H13 la (.lst (ba.map V.ref ++ [V.ref b]))=H14 at *
      refine ⟨_,rfl,_,rfl,l,_,_,_,rfl,rfl,SqL.of (S14 _ _ hl),ap,ae,_,_,_,rfl,rfl,SqT.of (S14 _ _ hae),atI_nat (j:=2) rfl,?_⟩
      refine (show ∃ v6 v7,_ from ⟨_,_,by rw [rwK_succ]; rfl,S14,hA14,⟨pa ++ [ae],?_,?_⟩,fun k x hk hxk=>?_⟩)
      · rw [List.take_succ,epa,he,List.map_append]
        rfl
      · rw [plK_succ]
        exact rows_snoc hpa hae
      · by_cases ek:k=i
        · subst ek
          rw [hy] at hxk
          cases hxk
          exact ⟨ts,htsH,hpe⟩
        · exact hpp k x (by omega) hxk
    · rintro σ G ⟨v6,v7,rfl,sG,hA,⟨pa,epa,hpa⟩,hpp⟩
      rw [List.length_map,lfa] at epa hpa hpp
      rw [List.take_of_length_le (by omega)] at epa
      subst epa
      refine hN _ _ ?_
      exact kT ⟨l,pa,rfl,hl,hpa,q,us,rfl,hq,e2,fun k x hx=>hpp k x (by have:=get_lt hx; omega) hx⟩ G sG
end
end B69
namespace L2
open PySem PySem.Spec PyProof.Rows
theorem tuple_addW0 (l b:Addr) (items items2:Array Value) (n n2:Nat) (dd dd2:Option Addr) (sl sl2:Array (Option Value)) (hc0:items.isEmpty=true) :
    Meets (Builtin.«tuple.__add__» ⟨[.ref l,.ref b],[]⟩) (fun _ R s=>s.heap.get? l=some { cls:=.type "tuple",dict:=dd,data:=.seq items n,slots:=sl }∧s.heap.get? b=some { cls:=.type "tuple",dict:=dd2,data:=.seq items2 n2,slots:=sl2 }∧R (.ok (.ret (Value.ref b))) { s with heap:=s.heap,toks:=s.toks }) :=
  .of_wp fun prog w A R s h=>by obtain ⟨hp,g,d,tk,os⟩:=s; obtain ⟨hl,hb,h⟩:=h; have f1:=AutoSeq1.idx_int; have f2:=AutoSeq1.sub_tuple_tuple; have f3:=AutoSeq1.sub_list_list; have f4:=AutoSeq1.sub_tuple_list; have f5:=AutoSeq1.sub_list_tuple; wp_walk using wpAny_loadPart' hl,wpAny_loadPart' hb; exact ⟨_,rfl,h⟩
section
variable {X:Cx}
def rCatT0 (K:PySem.W.Frag):R2:=fun x y H Q=>∃ a b ys,x=.ref a∧y=.ref b∧SqT K H a []∧SqT K H b ys∧Q (.ref b) H
theorem op_catT0:OpR X (binaryOp .Add) (rCatT0 X.K):=by
  intro pins s σ H x y v u Q I rx ry h
  obtain ⟨a,b,ys,rfl,rfl,ha,hb,q⟩:=h
  cases rx
  cases ry
  obtain ⟨its,r1,p1,_⟩:=I.tuple ha
  obtain ⟨its2,r2,p2,_⟩:=I.tuple hb
  cases r1
  obtain ⟨⟨cls,dd,data,sl⟩,ho,hc,n,hd⟩:=id p1
  obtain ⟨⟨cls2,dd2,data2,sl2⟩,ho2,hc2,n2,hd2⟩:=id p2
  simp only at hc hd hc2 hd2
  subst hc hd hc2 hd2
  exact concat_meets ⟨_,ho,rfl⟩ ⟨_,ho2,rfl⟩ noFill_tuple_add seq_tuple_add PySem.F.slot_tuple_add PySem.F.entry_tuple_add (PySem.F.args_tuple_add_2 _ _)
      (tuple_addW0 a b _ _ n n2 dd dd2 sl sl2 rfl) ⟨ho,ho2,⟨.ref b,H,I,rfl,q⟩⟩
def rCatA (K:PySem.W.Frag):R2:=fun x y H Q=>∃ a b xs ys,x=.ref a∧y=.ref b∧SqT K H a xs∧SqT K H b ys∧xs.length + ys.length ≤ sizeLine∧(xs=[]→Q (.ref b) H)∧(xs ≠ []→ys=[]→Q (.ref a) H)∧(∀ p,H p=none→Q (.ref p) (upd H p (.tup (xs ++ ys))))
theorem op_catA:OpR X (binaryOp .Add) (rCatA X.K):=by
  intro pins s σ H x y v u Q I rx ry h
  obtain ⟨a,b,xs,ys,rfl,rfl,ha,hb,hz,q0,q1,q2⟩:=h
  by_cases e:xs=[]
  · subst e
    exact op_catT0 pins s σ H _ _ v u Q I rx ry ⟨a,b,ys,rfl,rfl,ha,hb,q0 rfl⟩
  · exact op_catT pins s σ H _ _ v u Q I rx ry ⟨a,b,xs,ys,rfl,rfl,ha,hb,e,hz,q1 e,fun _=>q2⟩
end
end L2
namespace B69
open PySem L2 S2
def VE (σ:St) (H0:Hp) (te:TE) (x:V):Prop:=∀ (H:Hp) (Q:VK),Same H0 H→Q x H→te σ H Q
def ET (σ:St) (H0:Hp) (te:TE) (xs:List V):Prop:=∀ (H:Hp) (Q:VK),Same H0 H→(∀ p H',Same H H'→H' p=some (.tup xs)→Q (.ref p) H')→te σ H Q
def EP (σ:St) (H0:Hp) (te:TE) (b:Nat):Prop:=∀ (H:Hp) (Q:VK),Same H0 H→(∀ a es H',Same H H'→H' a=some (.lst es)→es.length ≤ b→(∀ e ∈ es,TriE H' e)→Q (.ref a) H')→te σ H Q
section
variable {K:PySem.W.Frag} {σ:St} {H0:Hp} {ta tb te tn:TE} {xs ys:List V} {j b c:Nat}
theorem et_cat (h:ET σ H0 ta xs) (g:ET σ H0 tb ys) (hl:xs.length + ys.length ≤ 100000):ET σ H0 (tOp (rCatA K) ta tb) (xs ++ ys):=fun H Q s k=>h H _ s fun p H1 s1 h1=>g H1 _ (Same.trans s s1) fun q H2 s2 h2=>by
  refine ⟨p,q,xs,ys,rfl,rfl,SqT.of (s2 _ _ h1),SqT.of h2,smallE hl,fun e=>?_,fun _ e=>?_,fun r hr=>k r _ (Same.trans s1 (Same.trans s2 (Same.put (Same.refl _) hr))) upd_same⟩
  · subst e
    exact k q H2 (Same.trans s1 s2) h2
  · subst e
    rw [List.append_nil] at k
    exact k p H2 (Same.trans s1 s2) (s2 _ _ h1)
theorem et_var {i:Nat} {a:Addr} (hv:σ[i]?=some (some (.ref a))) (ha:H0 a=some (.tup xs)):ET σ H0 (tVar i) xs:=fun H Q s k=>⟨_,hv,k a H (Same.refl _) (s _ _ ha)⟩
theorem et_till (h:ET σ H0 te xs) (hn:VE σ H0 tn (.int (j:Int))) (hj:j < xs.length):ET σ H0 (tSl (rSlT K) te tNoPart (tPart tn)) (xs.take j):=fun H Q s k=>h H _ s fun p H1 s1 h1=>hn H1 _ (Same.trans s s1) (by
  refine ⟨_,rfl,p,xs,rfl,SqT.of h1,fun z=>?_,fun r hr=>?_⟩
  · have:=z.2
    rw [HT.sIx_nat] at this
    omega
  · have ec:cutV xs none (some (j:Int))=xs.take j:=cut_take xs j (by omega)
    rw [ec]
    exact k r _ (Same.trans s1 (Same.put (Same.refl _) hr)) upd_same)
theorem cut_drop (xs:List V) (i:Nat) (h:i ≤ xs.length):cutV xs (some (i:Int)) none=xs.drop i:=by
  unfold cutV
  rw [HT.sIx_none,HT.sIx_nat,Nat.min_eq_left h,List.take_of_length_le]
  rw [List.length_drop]
  exact Nat.le_refl _
theorem et_from (h:ET σ H0 te xs) (hn:VE σ H0 tn (.int (j:Int))) (hj:0 < j) (hl:j ≤ xs.length):ET σ H0 (tSl (rSlT K) te (tPart tn) tNoPart) (xs.drop j):=fun H Q s k=>h H _ s fun p H1 s1 h1=>hn H1 _ (Same.trans s s1) (by
  refine ⟨_,rfl,p,xs,rfl,SqT.of h1,fun z=>?_,fun r hr=>?_⟩
  · have:=z.1
    rw [HT.sIx_nat] at this
    omega
  · rw [cut_drop xs j hl]
    exact k r _ (Same.trans s1 (Same.put (Same.refl _) hr)) upd_same)
theorem et_one {x:V} (h:VE σ H0 te x):ET σ H0 (tTup (tCons te tNil)) [x]:=fun H Q s k=>h H _ s ⟨by show 1 ≤ sizeLine; decide,fun p hp=>k p _ (Same.put (Same.refl _) hp) upd_same⟩
theorem et_three {tc td:TE} {x y z:V} (h1:VE σ H0 te x) (h2:VE σ H0 tc y) (h3:VE σ H0 td z):ET σ H0 (tTup (tCons te (tCons tc (tCons td tNil)))) [x,y,z]:=fun H Q s k=>h1 H _ s (h2 H _ s (h3 H _ s ⟨by show 3 ≤ sizeLine; decide,fun p hp=>k p _ (Same.put (Same.refl _) hp) upd_same⟩))
theorem ve_var {i:Nat} {x:V} (hv:σ[i]?=some (some x)):VE σ H0 (tVar i) x:=fun H Q s k=>⟨_,hv,k⟩
theorem ve_c {x:V}:VE σ H0 (tC x) x:=fun H Q s k=>k
theorem ve_ixT {i:Nat} {a:Addr} {z:Int} {x:V} (hv:σ[i]?=some (some (.ref a))) (ha:H0 a=some (.tup xs)) (hn:VE σ H0 tn (.int z)) (hx:atI xs z=some x):VE σ H0 (tOp (rIxT K) (tVar i) tn) x:=fun H Q s k=>⟨_,hv,hn H _ s ⟨a,_,_,_,rfl,rfl,SqT.of (s _ _ ha),hx,k⟩⟩
theorem ve_add {x y:Int} (h:VE σ H0 ta (.int x)) (g:VE σ H0 tb (.int y)):VE σ H0 (tOp (rI0 fun i j=>.int (i + j)) ta tb) (.int (x + y)):=fun H Q s k=>h H _ s (g H _ s ⟨_,_,rfl,rfl,k⟩)
theorem ve_sub {x y:Int} (h:VE σ H0 ta (.int x)) (g:VE σ H0 tb (.int y)):VE σ H0 (tOp (rI0 fun i j=>.int (i - j)) ta tb) (.int (x - y)):=fun H Q s k=>h H _ s (g H _ s ⟨_,_,rfl,rfl,k⟩)
theorem ep_cat (h:EP σ H0 ta b) (g:EP σ H0 tb c) (hl:b + c ≤ 10000):EP σ H0 (tOp rCat ta tb) (b + c):=fun H Q s k=>h H _ s fun a xs H1 s1 h1 l1 e1=>g H1 _ (Same.trans s s1) fun a2 ys H2 s2 h2 l2 e2 =>
  ⟨a,a2,xs,ys,rfl,rfl,s2 _ _ h1,h2,smallE (by omega),fun p hp=>k p _ _ (Same.trans s1 (Same.trans s2 (Same.put (Same.refl _) hp))) upd_same (by rw [List.length_append]; omega) fun e he=>by
    rcases List.mem_append.mp he with z | z
    · exact (e1 e z).same (Same.trans s2 (Same.put (Same.refl _) hp))
    · exact (e2 e z).same (Same.put (Same.refl _) hp)⟩
theorem ep_till {i:Nat} {a:Addr} {es:List V} {n:Int} (hv:σ[i]?=some (some (.ref a))) (ha:H0 a=some (.lst es)) (hl:es.length ≤ b) (he:∀ e ∈ es,TriE H0 e) (hn:VE σ H0 tn (.int n)):EP σ H0 (tSl (rSlL K) (tVar i) tNoPart (tPart tn)) b:=fun H Q s k=>by
  refine ⟨_,hv,hn H _ s ⟨_,rfl,a,es,rfl,SqL.of (s _ _ ha),fun p hp=>k p _ _ (Same.put (Same.refl _) hp) upd_same (Nat.le_trans (cutV_length _ _ _) hl) fun e hm=>?_⟩⟩
  exact (he e (List.mem_of_mem_drop (List.mem_of_mem_take hm))).same (Same.trans s (Same.put (Same.refl _) hp))
theorem ep_from {i:Nat} {a:Addr} {es:List V} {n:Int} (hv:σ[i]?=some (some (.ref a))) (ha:H0 a=some (.lst es)) (hl:es.length ≤ b) (he:∀ e ∈ es,TriE H0 e) (hn:VE σ H0 tn (.int n)):EP σ H0 (tSl (rSlL K) (tVar i) (tPart tn) tNoPart) b:=fun H Q s k=>by
  refine ⟨_,hv,hn H _ s ⟨_,rfl,a,es,rfl,SqL.of (s _ _ ha),fun p hp=>k p _ _ (Same.put (Same.refl _) hp) upd_same (Nat.le_trans (cutV_length _ _ _) hl) fun e hm=>?_⟩⟩
  exact (he e (List.mem_of_mem_drop (List.mem_of_mem_take hm))).same (Same.trans s (Same.put (Same.refl _) hp))
theorem ep_one {y:V} {s1 s2:Str} (h:ET σ H0 te [y,.str s1,.str s2]) (hy:(∃ z,y=.int z) ∨ ∃ b,y=.bl b):EP σ H0 (tLst (tCons te tNil)) 1:=fun H Q s k=>h H _ s fun v H1 s1' hv=>⟨smallE (by show 1 ≤ 100000; decide),fun p hp=>k p [.ref v] _ (Same.trans s1' (Same.put (Same.refl _) hp)) upd_same (Nat.le_refl _) fun e he=>by
  rw [List.mem_singleton.mp he]
  exact ⟨v,y,s1,s2,rfl,(Same.put (Same.refl _) hp:Same H1 _) _ _ hv,hy⟩⟩
theorem EP.ret {H:Hp} {D0:Ends} (h:EP σ H ta b) (hb:b ≤ 10000) (k:∀ v H',Same H H'→PapE H' v→D0.rt v H'):tRet ta D0 σ H:=h H _ (Same.refl _) fun a es H1 s1 h1 l1 e1=>k _ H1 s1 (.inl ⟨a,es,rfl,h1,by omega,e1⟩)
end
theorem atN {α:Type} (xs:List α) (z:Int) (h:0 < xs.length):∃ y,atI xs (z % (xs.length:Int))=some y∧y ∈ xs:=by
  obtain ⟨i,e,hi⟩:=mod_nat (z:=z) h
  exact ⟨xs[i],atI_of e (List.getElem?_eq_getElem hi),List.getElem_mem hi⟩
theorem n8 {ns:List Int} (h:ns.length=8) {j:Nat} (hj:j < 8):atI (ns.map V.int) ((j:Nat):Int)=some (.int (gi ns j)):=atI_nat (gi_at (by omega))
def spLPlace:Sp:=fun vs H Q _=>∃ (c ls:Addr) (p:Pl) (ns:List Int),vs=[.ref c,.ref ls]∧H c=some (.tup (plRow p))∧H ls=some (.lst (ns.map V.int))∧ns.length=8∧∀ v H',Same H H'→PlE H' v→Q v H'
section
variable {P:Program} {w:World} {K:PySem.W.Frag} {mg:Str→Option Value} {base:Heap}
abbrev nLPlace:List Str:=["_law_thing","_law_some","_law_at","_law_by","_law_changed"]
theorem scLPlace:FnScope nLPlace ["_law_thing","_law_some"] (defScope sLPlace):=⟨rfl,rfl,rfl,by decide +kernel,rfl,by decide +kernel,by decide +kernel⟩
set_option maxHeartbeats 16000000 in
theorem ok_lPlace {f:Addr} {fd:FuncData} (F:Fun K "_law_place" "_law_place" sLPlace f fd) (N:Names mg):FnOk P w K mg base CX0 1 f fd ["_law_thing","_law_some"] spLPlace:=by
  refine F.ok scLPlace (fun vs H Q E h=>?_) (fun cdv A outer s H vs Q E hr h=>?_)
  · obtain ⟨c,ls,p,ns,e,_⟩:=h
    rw [e]
    rfl
  · obtain ⟨c,ls,p,ns,e,hc,hs,hn,k⟩:=h
    subst e
    refine ⟨_,pss_cons (ps_set (i:=2) scLPlace.nd rfl (Or.inl rfl) (pe_op op_add pe_int (pe_op op_mod (pe_ix ix_list (pv 1) pe_int (fun _ _=>rfl)) pe_int)))
      (pss_cons (ps_set (i:=3) scLPlace.nd rfl (Or.inl rfl) (pe_ix ix_list (pe_lst (pa_cons pe_int (pa_cons (pe_un un_neg pe_int) (pa_cons pe_int (pa_cons (pe_op op_sub (pe_op op_mod (pe_ix ix_list (pv 1) pe_int (fun _ _=>rfl)) pe_int) pe_int) pa_nil))))) (pe_op op_mod (pe_ix ix_list (pv 1) pe_int (fun _ _=>rfl)) pe_int) (fun _ _=>rfl)))
      (pss_cons (ps_set (i:=4) scLPlace.nd rfl (Or.inl rfl) (pe_op op_catA (pe_op op_catA (pe_slice sl_tup (pv 0) po_none (po_some (pv 2))) (pe_tup (pa_cons (pe_op op_add (pe_ix ix_tup (pv 0) (pv 2) (fun _ _=>rfl)) (pv 3)) pa_nil))) (pe_slice sl_tup (pv 0) (po_some (pe_op op_add (pv 2) pe_int)) po_none)))
      (pss_one (ps_ret (pe_ix ix_list (pe_lst (pa_cons (pv 4) (pa_cons (pv 4) (pa_cons (pv 4) (pa_cons pe_non (pa_cons (pe_callTy call_list_of (by rfl) N.list PyProof.Rows.boot_list (pa_cons (pv 0) pa_nil)) (pa_cons (pe_op op_catA (pv 0) (pe_tup (pa_cons pe_int pa_nil))) (pa_cons (pe_slice sl_tup (pv 0) po_none (po_some pe_int)) (pa_cons (pe_op op_catA (pe_tup (pa_cons pe_str pa_nil)) (pe_slice sl_tup (pv 0) (po_some pe_int) po_none)) pa_nil))))))))) (pe_op op_mod (pe_ix ix_list (pv 1) pe_int (fun _ _=>rfl)) pe_int) (fun _ _=>rfl)))))),?_⟩
    try rw [show (cxOf CX0 P w K mg base nLPlace "_law_place" (defScope sLPlace) f cdv A outer s H E).nox.K=K from rfl]
    refine seq_abs fun N1 hN=>?_
    refine ⟨_,rfl,ls,_,_,_,rfl,rfl,SqL.of hs,n8 hn (j:=2) (by decide),_,_,rfl,rfl,(by show (0:Int) < 4; decide),_,_,rfl,rfl,?_⟩
    refine hN _ _ ?_
    clear hN N1
    obtain ⟨at0,eat,hat⟩:∃ at0:Nat,1 + gi ns 2 % 4=((at0 + 1:Nat):Int)∧at0 < 4:=by
      obtain ⟨i,e,hi⟩:=mod_nat (z:=gi ns 2) (n:=4) (by decide)
      have e':gi ns 2 % 4=(i:Int):=e
      exact ⟨i,by omega,hi⟩
    dsimp only
    rw [eat]
    refine seq_abs fun N1 hN=>?_
    refine ⟨_,rfl,_,rfl,ls,_,_,_,rfl,rfl,SqL.of hs,n8 hn (j:=3) (by decide),_,_,rfl,rfl,(by show (0:Int) < 30; decide),_,_,rfl,rfl,(by show 4 ≤ sizeLine; decide),fun l4 hl4=>?_⟩
    generalize hG:upd H l4 _=H1
    have s1:Same H H1:=by rw [← hG]; exact Same.put (Same.refl _) hl4
    have h1:H1 l4=some (.lst [.int 1,.int (-1),.int 2,.int (gi ns 3 % 30 - 9)]):=by rw [← hG]; exact upd_same
    clear hG
    obtain ⟨yv,ey,hy⟩:=atN [V.int 1,.int (-1),.int 2,.int (gi ns 3 % 30 - 9)] (gi ns 4) (Nat.succ_pos _)
    obtain ⟨by0,rfl⟩:∃ y:Int,yv=.int y:=by
      rcases List.mem_cons.mp hy with rfl | hy
      · exact ⟨_,rfl⟩
      rcases List.mem_cons.mp hy with rfl | hy
      · exact ⟨_,rfl⟩
      rcases List.mem_cons.mp hy with rfl | hy
      · exact ⟨_,rfl⟩
      exact ⟨_,List.mem_singleton.mp hy⟩
    refine ⟨_,rfl,ls,_,_,_,rfl,rfl,SqL.of (s1 _ _ hs),n8 hn (j:=4) (by decide),_,_,rfl,rfl,(by show (0:Int) < 4; decide),l4,_,_,_,rfl,rfl,SqL.of h1,ey,?_⟩
    refine hN _ _ ?_
    clear hN N1
    have hc1:=s1 _ _ hc
    obtain ⟨z0,ez0⟩:∃ z:Int,(plRow p)[at0 + 1]?=some (.int z):=by
      match at0,hat with
      | 0,_=>exact ⟨_,rfl⟩
      | 1,_=>exact ⟨_,rfl⟩
      | 2,_=>exact ⟨_,rfl⟩
      | 3,_=>exact ⟨_,rfl⟩
    have ech:∃ zs:List Int,(plRow p).take (at0 + 1) ++ [V.int (z0 + by0)] ++ (plRow p).drop (at0 + 1 + 1)=.str p.nm :: zs.map V.int:=by
      match at0,hat with
      | 0,_=>exact ⟨[z0 + by0,p.y,p.w,p.h],rfl⟩
      | 1,_=>exact ⟨[p.x,z0 + by0,p.w,p.h],rfl⟩
      | 2,_=>exact ⟨[p.x,p.y,z0 + by0,p.h],rfl⟩
      | 3,_=>exact ⟨[p.x,p.y,p.w,z0 + by0],rfl⟩
    obtain ⟨zs,ezs⟩:=ech
    have h5:(plRow p).length=5:=rfl
    have A:ET [some (.ref c),some (.ref ls),some (.int ((at0 + 1:Nat):Int)),some (.int by0),none] H1 (tOp (rCatA K) (tOp (rCatA K) (tSl (rSlT K) (tVar 0) tNoPart (tPart (tVar 2))) (tTup (tCons (tOp (rI0 fun i j=>.int (i + j)) (tOp (rIxT K) (tVar 0) (tVar 2)) (tVar 3)) tNil))) (tSl (rSlT K) (tVar 0) (tPart (tOp (rI0 fun i j=>.int (i + j)) (tVar 2) (tC (.int 1)))) tNoPart)) (.str p.nm :: zs.map V.int):=by
      rw [← ezs]
      exact et_cat (et_cat (et_till (et_var rfl hc1) (ve_var rfl) (by omega)) (et_one (ve_add (ve_ixT rfl hc1 (ve_var rfl) (atI_nat ez0)) (ve_var rfl))) (by rw [List.length_take]; simp; omega)) (et_from (j:=at0 + 1 + 1) (et_var rfl hc1) (by rw [show ((at0 + 1 + 1:Nat):Int)=((at0 + 1:Nat):Int) + 1 from rfl]; exact ve_add (ve_var rfl) ve_c) (by omega) (by omega)) (by rw [List.length_append,List.length_take,List.length_drop]; simp; omega)
    refine seq_abs fun N1 hN=>?_
    refine A H1 _ (Same.refl _) fun ch H2 s2 h2=>?_
    refine hN _ _ ?_
    clear hN N1
    have hc2:=s2 _ _ hc1
    refine ⟨_,rfl,_,rfl,_,rfl,_,rfl,c,_,rfl,.inr (SqT.of hc2),fun l5 hl5=>?_⟩
    generalize hG:upd H2 l5 _=H3
    have s3:Same H2 H3:=by rw [← hG]; exact Same.put (Same.refl _) hl5
    have h3:H3 l5=some (.lst (plRow p)):=by rw [← hG]; exact upd_same
    clear hG
    have B:ET [some (.ref c),some (.ref ls),some (.int ((at0 + 1:Nat):Int)),some (.int by0),some (.ref ch)] H2 (tOp (rCatA K) (tVar 0) (tTup (tCons (tC (.int 0)) tNil))) (plRow p ++ [.int 0]):=et_cat (et_var rfl hc2) (et_one ve_c) (by rw [h5]; decide)
    refine B H3 _ s3 fun t6 H4 s4 h4=>?_
    have C:ET [some (.ref c),some (.ref ls),some (.int ((at0 + 1:Nat):Int)),some (.int by0),some (.ref ch)] H2 (tSl (rSlT K) (tVar 0) tNoPart (tPart (tC (.int 4)))) ((plRow p).take 4):=et_till (j:=4) (et_var rfl hc2) ve_c (by omega)
    refine C H4 _ (Same.trans s3 s4) fun t4 H5 s5 h5'=>?_
    have D:ET [some (.ref c),some (.ref ls),some (.int ((at0 + 1:Nat):Int)),some (.int by0),some (.ref ch)] H2 (tOp (rCatA K) (tTup (tCons (tC (.str "zz")) tNil)) (tSl (rSlT K) (tVar 0) (tPart (tC (.int 1))) tNoPart)) ([.str "zz"] ++ (plRow p).drop 1):=et_cat (et_one ve_c) (et_from (j:=1) (et_var rfl hc2) ve_c (by decide) (by omega)) (by rw [List.length_drop]; simp; omega)
    refine D H5 _ (Same.trans s3 (Same.trans s4 s5)) fun tz H6 s6 h6=>?_
    refine ⟨(by show 8 ≤ sizeLine; decide),fun l8 hl8=>?_⟩
    generalize hG:upd H6 l8 _=H7
    have s7:Same H6 H7:=by rw [← hG]; exact Same.put (Same.refl _) hl8
    have h7:H7 l8=some (.lst [.ref ch,.ref ch,.ref ch,.non,.ref l5,.ref t6,.ref t4,.ref tz]):=by rw [← hG]; exact upd_same
    clear hG
    have s26:=Same.trans s3 (Same.trans s4 (Same.trans s5 (Same.trans s6 s7)))
    have s12:=Same.trans s2 s26
    obtain ⟨yv,ey,hy⟩:=atN [V.ref ch,.ref ch,.ref ch,.non,.ref l5,.ref t6,.ref t4,.ref tz] (gi ns 5) (Nat.succ_pos _)
    refine ⟨_,rfl,ls,_,_,_,rfl,rfl,SqL.of (s12 _ _ (s1 _ _ hs)),n8 hn (j:=5) (by decide),_,_,rfl,rfl,(by show (0:Int) < 8; decide),l8,_,_,_,rfl,rfl,SqL.of h7,ey,?_⟩
    refine k yv H7 (Same.trans s1 s12) ?_
    have hch:PlE H7 (.ref ch):=.inl ⟨ch,p.nm,zs,rfl,s26 _ _ h2⟩
    rcases List.mem_cons.mp hy with rfl | hy
    · exact hch
    rcases List.mem_cons.mp hy with rfl | hy
    · exact hch
    rcases List.mem_cons.mp hy with rfl | hy
    · exact hch
    rcases List.mem_cons.mp hy with rfl | hy
    · exact .inr (.inl rfl)
    rcases List.mem_cons.mp hy with rfl | hy
    · exact .inr (.inr ⟨l5,_,rfl,(Same.trans s4 (Same.trans s5 (Same.trans s6 s7))) _ _ h3⟩)
    rcases List.mem_cons.mp hy with rfl | hy
    · exact .inl ⟨t6,p.nm,[p.x,p.y,p.w,p.h,0],rfl,(Same.trans s5 (Same.trans s6 s7)) _ _ h4⟩
    rcases List.mem_cons.mp hy with rfl | hy
    · exact .inl ⟨t4,p.nm,[p.x,p.y,p.w],rfl,(Same.trans s6 s7) _ _ h5'⟩
    rw [List.mem_singleton.mp hy]
    exact .inl ⟨tz,"zz",[p.x,p.y,p.w,p.h],rfl,s7 _ _ h6⟩
end
end B69
namespace B69
open PySem L2 S2
def spLPaper:Sp:=fun vs H Q _=>∃ (ln q ls:Addr) (nms:List Str) (ta:List Addr) (ts:List Tri) (ns:List Int),vs=[.ref ln,.ref q,.ref ls]∧H ln=some (.lst (nms.map V.str))∧0 < nms.length∧nms.length ≤ 1000∧H q=some (.lst (ta.map V.ref))∧RowsOf H ta (ts.map triV)∧ts.length ≤ 1000∧H ls=some (.lst (ns.map V.int))∧ns.length=8∧∀ v H',Same H H'→PapE H' v→Q v H'
theorem tris_in {H:Hp} {ta:List Addr} {ts:List Tri} (h:RowsOf H ta (ts.map triV)):∀ e ∈ ta.map V.ref,TriE H e:=fun e he=>by
  obtain ⟨p,hp,rfl⟩:=List.mem_map.mp he
  obtain ⟨i,hi⟩:=List.getElem?_of_mem hp
  have hl:i < ts.length:=by have:=h.1; rw [List.length_map] at this; have:=get_lt hi; omega
  have z:=h.2 i p (triV ts[i]) hi (by rw [List.getElem?_map,List.getElem?_eq_getElem hl]; rfl)
  exact ⟨p,_,_,_,rfl,z,.inl ⟨_,rfl⟩⟩
theorem atStr (nms:List Str) (z:Int) (h:0 < nms.length):∃ s,atI (nms.map V.str) (z % ((nms.map V.str).length:Int))=some (.str s):=by
  obtain ⟨y,e,hy⟩:=atN (nms.map V.str) z (by rw [List.length_map]; exact h)
  obtain ⟨s,_,rfl⟩:=List.mem_map.mp hy
  exact ⟨s,e⟩
section
variable {P:Program} {w:World} {K:PySem.W.Frag} {mg:Str→Option Value} {base:Heap}
abbrev nLPaper:List Str:=["_law_names_here","_law_paper_here","_law_some","_law_at","_law_triple","_law_how","_law_old","_law_some_other"]
theorem scLPaper:FnScope nLPaper ["_law_names_here","_law_paper_here","_law_some"] (defScope sLPaper):=⟨rfl,rfl,rfl,by decide +kernel,rfl,by decide +kernel,by decide +kernel⟩
set_option maxHeartbeats 16000000 in
theorem ok_lPaper {f:Addr} {fd:FuncData} (F:Fun K "_law_paper" "_law_paper" sLPaper f fd) (N:Names mg):FnOk P w K mg base CX0 1 f fd ["_law_names_here","_law_paper_here","_law_some"] spLPaper:=by
  refine F.ok scLPaper (fun vs H Q E h=>?_) (fun cdv A outer s H vs Q E hr h=>?_)
  · obtain ⟨ln,q,ls,nms,ta,ts,ns,e,_⟩:=h
    rw [e]
    rfl
  · obtain ⟨ln,q,ls,nms,ta,ts,ns,e,hnm,hn0,hn1,hq,hR,ht1,hs,hn,k⟩:=h
    subst e
    have hu0:(A.deeper (PyProof.Rows.envOfC "_law_paper" (defScope sLPaper) s.heap.objs.size f cdv)).units < cLine:=by have:=hr.units; omega
    refine ⟨_,pss_cons (ps_set (i:=3) scLPaper.nd rfl (Or.inl rfl) (pe_op op_mod (pe_ix ix_list (pv 2) pe_int (fun _ _=>rfl)) (pe_op op_add (pe_callB call_len_seq (by rfl) N.len PySem.boot_len (pa_cons (pv 1) pa_nil)) pe_int)))
      (pss_cons (ps_set (i:=4) scLPaper.nd rfl (Or.inl rfl) (pe_tup (pa_cons (pe_op op_mod (pe_ix ix_list (pv 2) pe_int (fun _ _=>rfl)) pe_int) (pa_cons (pe_ix ix_list (pv 0) (pe_op op_mod (pe_ix ix_list (pv 2) pe_int (fun _ _=>rfl)) (pe_callB call_len_seq (by rfl) N.len PySem.boot_len (pa_cons (pv 0) pa_nil))) (fun _ _=>rfl)) (pa_cons (pe_ix ix_list (pv 0) (pe_op op_mod (pe_ix ix_list (pv 2) pe_int (fun _ _=>rfl)) (pe_callB call_len_seq (by rfl) N.len PySem.boot_len (pa_cons (pv 0) pa_nil))) (fun _ _=>rfl)) pa_nil)))))
      (pss_cons (ps_set (i:=5) scLPaper.nd rfl (Or.inl rfl) (pe_op op_mod (pe_ix ix_list (pv 2) pe_int (fun _ _=>rfl)) pe_int))
      (pss_cons (ps_if (pw_or (pt_cmpR op_eq (pv 5) pe_int (nomark _)) (pw_or1 (pt_cmpR (op_eqN hu0) (pv 1) (pe_lst pa_nil) (nomark _)))).pt (pss_one (ps_ret (pe_op op_cat (pe_op op_cat (pe_slice sl_list (pv 1) po_none (po_some (pv 3))) (pe_lst (pa_cons (pv 4) pa_nil))) (pe_slice sl_list (pv 1) (po_some (pv 3)) po_none)))) pss_nil)
      (pss_cons (ps_set (i:=3) scLPaper.nd rfl (Or.inl rfl) (pe_op op_mod (pe_ix ix_list (pv 2) pe_int (fun _ _=>rfl)) (pe_callB call_len_seq (by rfl) N.len PySem.boot_len (pa_cons (pv 1) pa_nil))))
      (pss_cons (ps_set (i:=6) scLPaper.nd rfl (Or.inl rfl) (pe_ix ix_list (pv 1) (pv 3) (fun _ _=>rfl)))
      (pss_cons (ps_set (i:=7) scLPaper.nd rfl (Or.inl rfl) (pe_lst (pa_cons (pe_op op_catA (pe_tup (pa_cons (pe_op op_add (pe_ix ix_tup (pv 6) pe_int (fun _ _=>rfl)) pe_int) pa_nil)) (pe_slice sl_tup (pv 6) (po_some pe_int) po_none)) (pa_cons (pe_op op_catA (pe_tup (pa_cons (pe_op op_sub (pe_ix ix_tup (pv 6) pe_int (fun _ _=>rfl)) pe_int) pa_nil)) (pe_slice sl_tup (pv 6) (po_some pe_int) po_none)) (pa_cons (pe_tup (pa_cons (pe_ix ix_tup (pv 6) pe_int (fun _ _=>rfl)) (pa_cons (pe_ix ix_tup (pv 4) pe_int (fun _ _=>rfl)) (pa_cons (pe_ix ix_tup (pv 6) pe_int (fun _ _=>rfl)) pa_nil)))) (pa_cons (pe_op op_catA (pe_slice sl_tup (pv 6) po_none (po_some pe_int)) (pe_slice sl_tup (pv 4) (po_some pe_int) po_none)) pa_nil))))))
      (pss_cons (ps_if (pw_and (pt_cmpR op_eq (pv 5) pe_int (nomark _)) (pw_and1 (pt_cmpR op_eq (pe_op op_mod (pe_ix ix_list (pv 2) pe_int (fun _ _=>rfl)) pe_int) pe_int (nomark _)))).pt (pss_one (ps_ret (pe_op op_cat (pe_op op_cat (pe_slice sl_list (pv 1) po_none (po_some (pv 3))) (pe_lst (pa_cons (pe_op op_catA (pe_tup (pa_cons (pe_op op_add (pe_ix ix_tup (pv 6) pe_int (fun _ _=>rfl)) (pe_op op_pow pe_int pe_int)) pa_nil)) (pe_slice sl_tup (pv 6) (po_some pe_int) po_none)) pa_nil))) (pe_slice sl_list (pv 1) (po_some (pe_op op_add (pv 3) pe_int)) po_none)))) pss_nil)
      (pss_cons (ps_if (pt_cmpR op_lt (pv 5) pe_int (nomark _)) (pss_one (ps_ret (pe_op op_cat (pe_op op_cat (pe_slice sl_list (pv 1) po_none (po_some (pv 3))) (pe_lst (pa_cons (pe_ix ix_list (pv 7) (pe_op op_sub (pv 5) pe_int) (fun _ _=>rfl)) pa_nil))) (pe_slice sl_list (pv 1) (po_some (pe_op op_add (pv 3) pe_int)) po_none)))) pss_nil)
      (pss_cons (ps_if (pt_cmpR op_eq (pv 5) pe_int (nomark _)) (pss_one (ps_ret (pe_op op_cat (pe_slice sl_list (pv 1) po_none (po_some (pv 3))) (pe_slice sl_list (pv 1) (po_some (pe_op op_add (pv 3) pe_int)) po_none)))) pss_nil)
      (pss_one (ps_ret (pe_ix ix_list (pe_lst (pa_cons (pe_callTy call_tuple_of (by rfl) N.tuple PyProof.Rows.boot_tuple (pa_cons (pv 1) pa_nil)) (pa_cons (pe_op op_cat (pe_op op_cat (pe_slice sl_list (pv 1) po_none (po_some (pv 3))) (pe_lst (pa_cons (pe_op op_catA (pe_tup (pa_cons (pe_cmpR op_gt (pe_ix ix_tup (pv 6) pe_int (fun _ _=>rfl)) pe_int (nomark _)) pa_nil)) (pe_slice sl_tup (pv 6) (po_some pe_int) po_none)) pa_nil))) (pe_slice sl_list (pv 1) (po_some (pe_op op_add (pv 3) pe_int)) po_none)) (pa_cons (pv 1) pa_nil)))) (pe_op op_mod (pe_ix ix_list (pv 2) pe_int (fun _ _=>rfl)) pe_int) (fun _ _=>rfl))))))))))))),?_⟩
    try rw [show (cxOf CX0 P w K mg base nLPaper "_law_paper" (defScope sLPaper) f cdv A outer s H E).nox.K=K from rfl]
    have lta:ta.length=ts.length:=by rw [hR.1,List.length_map]
    have hel:=tris_in hR
    have hla:(ta.map V.ref).length ≤ 1000:=by rw [List.length_map]; omega
    refine seq_abs fun N1 hN=>?_
    refine ⟨_,rfl,ls,_,_,_,rfl,rfl,SqL.of hs,n8 hn (j:=2) (by decide),_,rfl,q,_,rfl,.inl (SqL.of hq),_,_,rfl,rfl,_,_,rfl,rfl,(by show (0:Int) < ((ta.map V.ref).length:Int) + 1; omega),?_⟩
    refine hN _ _ ?_
    clear hN N1
    try dsimp only
    generalize gi ns 2 % (((ta.map V.ref).length:Int) + 1)=at1
    obtain ⟨s4,e4⟩:=atStr nms (gi ns 4) hn0
    obtain ⟨s5,e5⟩:=atStr nms (gi ns 5) hn0
    have hl0:(0:Int) < ((nms.map V.str).length:Int):=by rw [List.length_map]; omega
    refine seq_abs fun N1 hN=>?_
    refine ⟨_,rfl,ls,_,_,_,rfl,rfl,SqL.of hs,n8 hn (j:=3) (by decide),_,_,rfl,rfl,(by show (0:Int) < 12; decide),?_⟩
    refine ⟨_,rfl,_,rfl,ls,_,_,_,rfl,rfl,SqL.of hs,n8 hn (j:=4) (by decide),_,rfl,ln,_,rfl,.inl (SqL.of hnm),_,_,rfl,rfl,hl0,ln,_,_,_,rfl,rfl,SqL.of hnm,e4,?_⟩
    refine ⟨_,rfl,_,rfl,ls,_,_,_,rfl,rfl,SqL.of hs,n8 hn (j:=5) (by decide),_,rfl,ln,_,rfl,.inl (SqL.of hnm),_,_,rfl,rfl,hl0,ln,_,_,_,rfl,rfl,SqL.of hnm,e5,?_⟩
    refine ⟨(by show 3 ≤ sizeLine; decide),fun tt htt=>?_⟩
    try dsimp only at htt
    generalize hG:upd H tt _=H1
    have s1:Same H H1:=by rw [← hG]; exact Same.put (Same.refl _) htt
    have h1:H1 tt=some (.tup [.int (gi ns 3 % 12),.str s4,.str s5]):=by rw [← hG]; exact upd_same
    clear hG
    refine hN _ _ ?_
    clear hN N1
    generalize gi ns 3 % 12=z3 at *
    have hs1:=s1 _ _ hs
    have hq1:=s1 _ _ hq
    have hel1:∀ e ∈ ta.map V.ref,TriE H1 e:=fun e he=>(hel e he).same s1
    refine seq_abs fun N1 hN=>?_
    refine ⟨_,rfl,ls,_,_,_,rfl,rfl,SqL.of hs1,n8 hn (j:=6) (by decide),_,_,rfl,rfl,(by show (0:Int) < 8; decide),?_⟩
    refine hN _ _ ?_
    clear hN N1
    obtain ⟨hw,ehw,hhw⟩:=mod_nat (z:=gi ns 6) (n:=8) (by decide)
    try dsimp only
    rw [show gi ns 6 % 8=(hw:Int) from ehw]
    have ins:∀ (v6 v7:Option V) (G:Hp),Same H1 G→∀ D0:Ends,(∀ v H',Same G H'→PapE H' v→D0.rt v H')→tRet (tOp rCat (tOp rCat (tSl (rSlL K) (tVar 1) tNoPart (tPart (tVar 3))) (tLst (tCons (tVar 4) tNil))) (tSl (rSlL K) (tVar 1) (tPart (tVar 3)) tNoPart)) D0 [some (.ref ln),some (.ref q),some (.ref ls),some (.int at1),some (.ref tt),some (.int (hw:Int)),v6,v7] G:=fun v6 v7 G sG D0 hk =>
      EP.ret (H:=G) (ep_cat (ep_cat (ep_till (b:=1000) rfl (sG _ _ hq1) hla (fun e he=>(hel1 e he).same sG) (ve_var rfl)) (ep_one (et_var rfl (sG _ _ h1)) (.inl ⟨_,rfl⟩)) (by decide)) (ep_from (b:=1000) rfl (sG _ _ hq1) hla (fun e he=>(hel1 e he).same sG) (ve_var rfl)) (by decide)) (by decide) hk
    refine seq_abs fun N1 hN=>?_
    refine ⟨_,rfl,rfl,_,rfl,?_⟩
    by_cases c0:hw=0
    · refine iteB (decide_eq_true (by rw [c0]; rfl)) (iteT ?_)
      exact ins _ _ H1 (Same.refl _) _ fun v H' s' hv=>k v H' (Same.trans s1 s') hv
    refine iteC (decide_eq_false (fun z=>c0 (by injection z with z; omega))) ?_
    refine ⟨_,rfl,smallE (by simp),fun l0 hl0'=>?_⟩
    generalize hG:upd H1 l0 _=H2
    have s2:Same H1 H2:=by rw [← hG]; exact Same.put (Same.refl _) hl0'
    have h2:H2 l0=some (.lst []):=by rw [← hG]; exact upd_same
    clear hG
    refine ⟨q,l0,_,rfl,rfl,SqL.of (s2 _ _ hq1),SqL.of h2,_,rfl,?_⟩
    cases eta:ta with
    | nil =>
      refine iteB rfl ?_
      exact ins _ _ H2 s2 _ fun v H' s' hv=>k v H' (Same.trans s1 (Same.trans s2 s')) hv
    | cons t0 ta0 =>
    rw [← eta]
    have hta0:0 < ta.length:=by rw [eta]; exact Nat.succ_pos _
    refine iteC (by rw [eta]; rfl) ?_
    refine hN _ _ ?_
    clear hN N1
    clear ins eta
    have hs2:=s2 _ _ hs1
    have hq2:=s2 _ _ hq1
    have h12:=s2 _ _ h1
    have s02:=Same.trans s1 s2
    have hel2:∀ e ∈ ta.map V.ref,TriE H2 e:=fun e he=>(hel e he).same s02
    refine seq_abs fun N1 hN=>?_
    refine ⟨_,rfl,ls,_,_,_,rfl,rfl,SqL.of hs2,n8 hn (j:=2) (by decide),_,rfl,q,_,rfl,.inl (SqL.of hq2),_,_,rfl,rfl,(by show (0:Int) < ((ta.map V.ref).length:Int); rw [List.length_map]; omega),?_⟩
    refine hN _ _ ?_
    clear hN N1
    obtain ⟨at2,eat2,hat2⟩:=mod_nat (z:=gi ns 2) (n:=(ta.map V.ref).length) (by rw [List.length_map]; exact hta0)
    try dsimp only
    rw [eat2]
    rw [List.length_map] at hat2
    obtain ⟨o,eo⟩:∃ o,ta[at2]?=some o:=⟨_,List.getElem?_eq_getElem hat2⟩
    have eom:(ta.map V.ref)[at2]?=some (V.ref o):=by rw [List.getElem?_map,eo]; rfl
    have hot:H2 o=some (.tup (triV ts[at2])):=s02 _ _ (hR.2 at2 o _ eo (by rw [List.getElem?_map,List.getElem?_eq_getElem (by omega)]; rfl))
    generalize ts[at2]=tx at hot
    obtain ⟨t0,t1,t2⟩:=tx
    have hot:H2 o=some (.tup [.int t0,.str t1,.str t2]):=hot
    refine seq_abs fun N1 hN=>?_
    refine ⟨_,rfl,_,rfl,q,_,_,_,rfl,rfl,SqL.of hq2,atI_nat eom,?_⟩
    refine hN _ _ ?_
    clear hN N1
    have a0:atI [V.int t0,.str t1,.str t2] 0=some (.int t0):=atI_nat (j:=0) rfl
    have a2:atI [V.int t0,.str t1,.str t2] 2=some (.str t2):=atI_nat (j:=2) rfl
    have b1:atI [V.int z3,.str s4,.str s5] 1=some (.str s4):=atI_nat (j:=1) rfl
    -- the four others
    have E1:∀ (v7:Option V),ET [some (.ref ln),some (.ref q),some (.ref ls),some (.int (at2:Int)),some (.ref tt),some (.int (hw:Int)),some (.ref o),v7] H2 (tOp (rCatA K) (tTup (tCons (tOp (rI0 fun i j=>.int (i + j)) (tOp (rIxT K) (tVar 6) (tC (.int 0))) (tC (.int 1))) tNil)) (tSl (rSlT K) (tVar 6) (tPart (tC (.int 1))) tNoPart)) [.int (t0 + 1),.str t1,.str t2]:=fun v7=>et_cat (xs:=[.int (t0 + 1)]) (ys:=[.str t1,.str t2]) (et_one (ve_add (ve_ixT rfl hot ve_c a0) ve_c)) (et_from (j:=1) (xs:=[.int t0,.str t1,.str t2]) (et_var rfl hot) ve_c (by decide) (by show 1 ≤ 3; decide)) (by show 3 ≤ 100000; decide)
    have E2:∀ (v7:Option V),ET [some (.ref ln),some (.ref q),some (.ref ls),some (.int (at2:Int)),some (.ref tt),some (.int (hw:Int)),some (.ref o),v7] H2 (tOp (rCatA K) (tTup (tCons (tOp (rI0 fun i j=>.int (i - j)) (tOp (rIxT K) (tVar 6) (tC (.int 0))) (tC (.int 1))) tNil)) (tSl (rSlT K) (tVar 6) (tPart (tC (.int 1))) tNoPart)) [.int (t0 - 1),.str t1,.str t2]:=fun v7=>et_cat (xs:=[.int (t0 - 1)]) (ys:=[.str t1,.str t2]) (et_one (ve_sub (ve_ixT rfl hot ve_c a0) ve_c)) (et_from (j:=1) (xs:=[.int t0,.str t1,.str t2]) (et_var rfl hot) ve_c (by decide) (by show 1 ≤ 3; decide)) (by show 3 ≤ 100000; decide)
    have E3:∀ (v7:Option V),ET [some (.ref ln),some (.ref q),some (.ref ls),some (.int (at2:Int)),some (.ref tt),some (.int (hw:Int)),some (.ref o),v7] H2 (tTup (tCons (tOp (rIxT K) (tVar 6) (tC (.int 0))) (tCons (tOp (rIxT K) (tVar 4) (tC (.int 1))) (tCons (tOp (rIxT K) (tVar 6) (tC (.int 2))) tNil)))) [.int t0,.str s4,.str t2]:=fun v7=>et_three (ve_ixT rfl hot ve_c a0) (ve_ixT rfl h12 ve_c b1) (ve_ixT rfl hot ve_c a2)
    have E4:∀ (v7:Option V),ET [some (.ref ln),some (.ref q),some (.ref ls),some (.int (at2:Int)),some (.ref tt),some (.int (hw:Int)),some (.ref o),v7] H2 (tOp (rCatA K) (tSl (rSlT K) (tVar 6) tNoPart (tPart (tC (.int 2)))) (tSl (rSlT K) (tVar 4) (tPart (tC (.int 2))) tNoPart)) [.int t0,.str t1,.str s5]:=fun v7=>et_cat (xs:=[.int t0,.str t1]) (ys:=[.str s5]) (et_till (j:=2) (xs:=[.int t0,.str t1,.str t2]) (et_var rfl hot) ve_c (by show 2 < 3; decide)) (et_from (j:=2) (xs:=[.int z3,.str s4,.str s5]) (et_var rfl h12) ve_c (by decide) (by show 2 ≤ 3; decide)) (by show 3 ≤ 100000; decide)
    refine seq_abs fun N1 hN=>?_
    refine E1 _ H2 _ (Same.refl _) fun p1 H3 s3 h3=>?_
    refine E2 _ H3 _ s3 fun p2 H4 s4' h4=>?_
    refine E3 _ H4 _ (Same.trans s3 s4') fun p3 H5 s5' h5=>?_
    refine E4 _ H5 _ (Same.trans s3 (Same.trans s4' s5')) fun p4 H6 s6 h6=>?_
    refine ⟨(by show 4 ≤ sizeLine; decide),fun l4 hl4=>?_⟩
    generalize hG:upd H6 l4 _=H7
    have s7:Same H6 H7:=by rw [← hG]; exact Same.put (Same.refl _) hl4
    have h7:H7 l4=some (.lst [.ref p1,.ref p2,.ref p3,.ref p4]):=by rw [← hG]; exact upd_same
    clear hG
    refine hN _ _ ?_
    clear hN N1
    have s27:=Same.trans s3 (Same.trans s4' (Same.trans s5' (Same.trans s6 s7)))
    have s07:=Same.trans s02 s27
    have hs7:=s27 _ _ hs2
    have hq7:=s27 _ _ hq2
    have hot7:=s27 _ _ hot
    have hel7:∀ e ∈ ta.map V.ref,TriE H7 e:=fun e he=>(hel e he).same s07
    have kk:∀ v H',Same H7 H'→PapE H' v→Q v H':=fun v H' s' hv=>k v H' (Same.trans s07 s') hv
    have hh4:∀ x ∈ [V.ref p1,.ref p2,.ref p3,.ref p4],TriE H7 x:=fun x hx=>by
      rcases List.mem_cons.mp hx with rfl | hx
      · exact ⟨p1,_,_,_,rfl,(Same.trans s4' (Same.trans s5' (Same.trans s6 s7))) _ _ h3,.inl ⟨_,rfl⟩⟩
      rcases List.mem_cons.mp hx with rfl | hx
      · exact ⟨p2,_,_,_,rfl,(Same.trans s5' (Same.trans s6 s7)) _ _ h4,.inl ⟨_,rfl⟩⟩
      rcases List.mem_cons.mp hx with rfl | hx
      · exact ⟨p3,_,_,_,rfl,(Same.trans s6 s7) _ _ h5,.inl ⟨_,rfl⟩⟩
      rw [List.mem_singleton.mp hx]
      exact ⟨p4,_,_,_,rfl,s7 _ _ h6,.inl ⟨_,rfl⟩⟩
    clear h1 h2 h12 h3 h4 h5 h6 E1 E2 E3 E4 s3 s4' s5' s6 s7 hl4 hel hel1 hel2
    have Etill:∀ (G:Hp),Same H7 G→EP [some (.ref ln),some (.ref q),some (.ref ls),some (.int (at2:Int)),some (.ref tt),some (.int (hw:Int)),some (.ref o),some (.ref l4)] G (tSl (rSlL K) (tVar 1) tNoPart (tPart (tVar 3))) 1000:=fun G sG=>ep_till rfl (sG _ _ hq7) hla (fun e he=>(hel7 e he).same sG) (ve_var rfl)
    have Efrom:∀ (G:Hp),Same H7 G→EP [some (.ref ln),some (.ref q),some (.ref ls),some (.int (at2:Int)),some (.ref tt),some (.int (hw:Int)),some (.ref o),some (.ref l4)] G (tSl (rSlL K) (tVar 1) (tPart (tOp (rI0 fun i j=>.int (i + j)) (tVar 3) (tC (.int 1)))) tNoPart) 1000:=fun G sG=>ep_from rfl (sG _ _ hq7) hla (fun e he=>(hel7 e he).same sG) (ve_add (ve_var rfl) ve_c)
    -- how == 1 and some[7] % 4 == 0
    refine seq_abs fun N1 hN=>?_
    have nx:N1 [some (.ref ln),some (.ref q),some (.ref ls),some (.int (at2:Int)),some (.ref tt),some (.int (hw:Int)),some (.ref o),some (.ref l4)] H7:=by
      refine hN _ _ ?_
      clear hN N1
      refine seq_abs fun N1 hN=>?_
      refine ⟨_,rfl,_,_,rfl,rfl,_,rfl,ite2 (fun hlt=>?_) (fun hge=>hN _ _ ?_)⟩
      · have hlt':=of_decide_eq_true hlt
        obtain ⟨x,ex⟩:∃ x,[V.ref p1,.ref p2,.ref p3,.ref p4][hw - 1]?=some x:=⟨_,List.getElem?_eq_getElem (by show hw - 1 < 4; omega)⟩
        obtain ⟨px,y,u1,u2,rfl,hpx,hy⟩:=hh4 x (List.mem_of_getElem? ex)
        refine EP.ret (H:=H7) (ep_cat (ep_cat (Etill H7 (Same.refl _)) (fun G Q' sG hk=>⟨_,rfl,_,rfl,_,_,rfl,rfl,l4,_,_,_,rfl,rfl,SqL.of (sG _ _ h7),atI_of (j:=hw - 1) (by omega) ex,smallE (by show 1 ≤ 100000; decide),fun l1 hl1=>hk l1 [.ref px] _ (Same.put (Same.refl _) hl1) upd_same (Nat.le_refl _) fun e he=>?_⟩:EP _ H7 _ 1) (by decide)) (Efrom H7 (Same.refl _)) (by decide)) (by decide) kk
        rw [List.mem_singleton.mp he]
        exact ⟨px,y,u1,u2,rfl,(Same.put (Same.refl _) hl1:Same G _) _ _ (sG _ _ hpx),hy⟩
      clear hN N1
      refine seq_abs fun N1 hN=>?_
      refine ⟨_,rfl,rfl,_,rfl,ite2 (fun _=>?_) (fun _=>hN _ _ ?_)⟩
      · exact EP.ret (H:=H7) (ep_cat (Etill H7 (Same.refl _)) (Efrom H7 (Same.refl _)) (by decide)) (by decide) kk
      clear hN N1
      refine ⟨_,rfl,q,_,rfl,.inl ⟨SqL.of hq7,fun tq htq=>?_⟩⟩
      generalize hG:upd H7 tq _=H8
      have s8:Same H7 H8:=by rw [← hG]; exact Same.put (Same.refl _) htq
      have h8:H8 tq=some (.tup (ta.map V.ref)):=by rw [← hG]; exact upd_same
      clear hG
      have B:EP [some (.ref ln),some (.ref q),some (.ref ls),some (.int (at2:Int)),some (.ref tt),some (.int (hw:Int)),some (.ref o),some (.ref l4)] H8 (tOp rCat (tOp rCat (tSl (rSlL K) (tVar 1) tNoPart (tPart (tVar 3))) (tLst (tCons (tOp (rCatA K) (tTup (tCons (tOp (rI0 fun i j=>.bl (decide (i > j))) (tOp (rIxT K) (tVar 6) (tC (.int 0))) (tC (.int 0))) tNil)) (tSl (rSlT K) (tVar 6) (tPart (tC (.int 1))) tNoPart)) tNil))) (tSl (rSlL K) (tVar 1) (tPart (tOp (rI0 fun i j=>.int (i + j)) (tVar 3) (tC (.int 1)))) tNoPart)) (1000 + 1 + 1000) :=
        ep_cat (ep_cat (Etill H8 s8) (ep_one (et_cat (xs:=[.bl (decide (t0 > 0))]) (ys:=[.str t1,.str t2]) (et_one (fun H Q s k=>(ve_ixT rfl (s8 _ _ hot7) ve_c a0) H _ s ⟨_,_,rfl,rfl,k⟩)) (et_from (j:=1) (xs:=[.int t0,.str t1,.str t2]) (et_var rfl (s8 _ _ hot7)) ve_c (by decide) (by show 1 ≤ 3; decide)) (by show 3 ≤ 100000; decide)) (.inr ⟨_,rfl⟩)) (by decide)) (Efrom H8 s8) (by decide)
      refine B H8 _ (Same.refl _) fun b8 es8 H9 s9 h9 l9 e9=>?_
      refine ⟨_,rfl,(by show 3 ≤ sizeLine; decide),fun l3 hl3=>?_⟩
      generalize hG:upd H9 l3 _=HA
      have sA:Same H9 HA:=by rw [← hG]; exact Same.put (Same.refl _) hl3
      have hA:HA l3=some (.lst [.ref tq,.ref b8,.ref q]):=by rw [← hG]; exact upd_same
      clear hG
      have s8A:=Same.trans s8 (Same.trans s9 sA)
      obtain ⟨yv,ey,hy⟩:=atN [V.ref tq,.ref b8,.ref q] (gi ns 7) (Nat.succ_pos _)
      refine ⟨_,rfl,ls,_,_,_,rfl,rfl,SqL.of (s8A _ _ hs7),n8 hn (j:=7) (by decide),_,_,rfl,rfl,(by show (0:Int) < 3; decide),l3,_,_,_,rfl,rfl,SqL.of hA,ey,?_⟩
      refine kk yv HA s8A ?_
      rcases List.mem_cons.mp hy with rfl | hy
      · exact .inr ⟨tq,_,rfl,(Same.trans s9 sA) _ _ h8⟩
      rcases List.mem_cons.mp hy with rfl | hy
      · exact .inl ⟨b8,es8,rfl,sA _ _ h9,by omega,fun e he=>(e9 e he).same sA⟩
      rw [List.mem_singleton.mp hy]
      exact .inl ⟨q,_,rfl,s8A _ _ hq7,by omega,fun e he=>(hel7 e he).same s8A⟩
    refine ⟨_,rfl,rfl,_,rfl,ite2 (fun _=>?_) (fun _=>iteF nx)⟩
    refine ⟨_,rfl,ls,_,_,_,rfl,rfl,SqL.of hs7,n8 hn (j:=7) (by decide),_,_,rfl,rfl,(by show (0:Int) < 4; decide),rfl,_,rfl,ite2 (fun _=>?_) (fun _=>nx)⟩
    refine EP.ret (H:=H7) (ep_cat (ep_cat (Etill H7 (Same.refl _)) (ep_one (y:=.int (t0 + 10 ^ (30:Int).toNat)) (s1:=t1) (s2:=t2) (et_cat (xs:=[.int (t0 + 10 ^ (30:Int).toNat)]) (ys:=[.str t1,.str t2]) (et_one (fun H Q s k=>(ve_ixT rfl hot7 ve_c a0) H _ s ⟨_,_,rfl,rfl,⟨by decide,by decide,by decide⟩,_,_,rfl,rfl,k⟩)) (et_from (j:=1) (xs:=[.int t0,.str t1,.str t2]) (et_var rfl hot7) ve_c (by decide) (by show 1 ≤ 3; decide)) (by show 3 ≤ 100000; decide)) (.inl ⟨_,rfl⟩)) (by decide)) (Efrom H7 (Same.refl _)) (by decide)) (by decide) kk
end
end B69
namespace B69
open PySem L2 S2
theorem for_zip {K:PySem.W.Frag} {a b:Addr} {xs ys:List V} {g:TG} {tb:TS} {D:Ends} {σ:St} {H:Hp} (Pv:Nat→St→Hp→Prop) (h0:Pv 0 σ H) (hlen:xs.length=ys.length) (hl:∀ i σ H,i ≤ xs.length→Pv i σ H→SqL K H a xs∧SqL K H b ys)
    (hs:∀ i x y p σ H,xs[i]?=some x→ys[i]?=some y→H p=none→Pv i σ H→g (.ref p) σ (upd H p (.tup [x,y])) fun σ2 H2=>tb { D with nx:=Pv (i + 1),ct:=Pv (i + 1),bk:=D.nx } σ2 H2) (hd:∀ σ H,Pv xs.length σ H→D.nx σ H) :
    ∃ W:Nat→Nat→St→Hp→Prop,(∃ m,W 0 m σ H)∧∀ i m σ H,W i m σ H →
      ((Itz K a b).stop i H∧D.nx σ H) ∨ ((Itz K a b).go i H∧∃ N:St→Hp→Prop,(∀ σ' H',N σ' H'→∃ m',m' < m∧W (i + 1) m' σ' H')∧∀ x H',(Itz K a b).yld i H x H'→g x σ H' fun σ2 H2=>tb { D with nx:=N,ct:=N,bk:=D.nx } σ2 H2):=by
  refine ⟨fun i m σ H=>m=xs.length - i∧i ≤ xs.length∧Pv i σ H,⟨xs.length,by simp,Nat.zero_le _,h0⟩,?_⟩
  rintro i m σ H ⟨rfl,hi,p⟩
  obtain ⟨qa,qb⟩:=hl i σ H hi p
  by_cases hlt:i < xs.length
  · refine .inr ⟨⟨xs,ys,xs[i],ys[i]'(by omega),qa,qb,by simp [hlt],by simp [show i < ys.length by omega]⟩,Pv (i + 1),fun σ' H' p'=>⟨xs.length - (i + 1),by omega,rfl,hlt,p'⟩,fun x H' y=>?_⟩
    obtain ⟨p0,u,v,e1,hn,e2,yu,yv⟩:=y
    subst e1 e2
    exact hs i u v p0 σ H (yu xs qa) (yv ys qb) hn p
  · have e:i=xs.length:=by omega
    subst e
    exact .inl ⟨⟨xs,ys,qa,qb,.inl (Nat.le_refl _)⟩,hd σ H p⟩
theorem papK {W:Int} {fls:List Fl} (hF:FlsOk W fls) (hN:NmF fls) {k:Nat} (hk:k < fls.length):papEnd W fls (plK W fls k) (gF fls k) (rwK W fls k) ((allF W fls fls.length).2.getD k [])=some (stK W fls k).y:=by
  have z:=one_ok hF hN hk
  unfold oneB at z
  rw [rowAt_all hk,(allF_get hk).1,(allF_get hk).2] at z
  exact ((one_iffK hF hN hk).mp z).2
theorem hgK {W:Int} {fls:List Fl} (h4:∀ f ∈ fls,f.h ≤ 4):∀ k,k ≤ fls.length→∀ p ∈ plK W fls k,p.h ≤ 4
  | 0,_,p,hp=>by cases hp
  | k + 1,hk,p,hp=>by
    rw [plK_succ] at hp
    rcases List.mem_append.mp hp with z | z
    · exact hgK h4 k (by omega) p z
    · rw [List.mem_singleton.mp z]
      show (gF fls (plK W fls k).length).h ≤ 4
      rw [plK_len]
      exact h4 _ (gF_mem' (by omega))
theorem yK {W:Int} {fls:List Fl} (hF:FlsOk W fls) (h4:∀ f ∈ fls,f.h ≤ 4) {k:Nat} (hk:k < fls.length):(stK W fls k).y ≤ rwK W fls k + 4:=by
  by_cases c:(stK W fls k).y ≤ rwK W fls k + 4
  · exact c
  · have st:=stK_ok hF hk
    have hfst:=st.first (rwK W fls k + 4) (by omega) (by omega)
    rw [plK_len] at hfst
    obtain ⟨f1,f2,f3⟩:=hF _ (gF_mem' hk)
    have no:∀ sd i,i ∉ tIdx fls (plK W fls k) sd (rwK W fls k + 4) (gF fls k).h:=fun sd i hi=>by
      obtain ⟨_,a2,_,a4⟩:=mem_tIdx.mp hi
      have hin:=inK hF (Nat.le_of_lt hk) _ (gP_mem a2)
      have hh:=hgK (W:=W) h4 k (by omega) _ (gP_mem a2)
      rw [touB_iff] at a4
      have:=hin.y
      omega
    have e1:edL fls (plK W fls k) (rwK W fls k + 4) (gF fls k).h=0:=by
      rcases edL_is fls (plK W fls k) (rwK W fls k + 4) (gF fls k).h with z | ⟨i,hi,_⟩
      · exact z
      · exact (no _ i hi).elim
    have e2:edR W fls (plK W fls k) (rwK W fls k + 4) (gF fls k).h=W:=by
      rcases edR_is W fls (plK W fls k) (rwK W fls k + 4) (gF fls k).h with z | ⟨i,hi,_⟩
      · exact z
      · exact (no _ i hi).elim
    omega
theorem pap_app {W:Int} {fls:List Fl} {pls:List Pl} {f:Fl} {row e:Int} {ts us:List Tri} (h:papEnd W fls pls f row ts=some e):papEnd W fls pls f row (ts ++ us)=papEnd W fls pls f e us:=by
  unfold papEnd at *
  rw [List.foldl_append,h]
theorem pap_one {W row0:Int} {fls:List Fl} {pls:List Pl} {f:Fl} {row r:Int} {ts:List Tri} {n0 n1:Str} (hN:NmOk pls) (hp:∀ p ∈ pls,InW W row0 p) (hl:pls.length ≤ fls.length) (hh:0 < f.h) (h:papEnd W fls pls f row ts=some r) (hb:BarR W fls pls f n0 n1 r):papEnd W fls pls f row (ts ++ [(r + 1,n0,n1)])=some (r + 1):=by
  rw [pap_app h]
  have hc:=(cant_iff (n0:=n0) (n1:=n1) (f:=f) (row:=r) (till:=r + 1) hN hp hl hh (by omega)).mpr (fun r' h1 h2=>by
    have:r'=r:=by omega
    subst this
    exact hb)
  show (if (decide (r < r + 1) && cantB W fls pls f r (r + 1 - 1) n0 n1)=true then some (r + 1) else none)=some (r + 1)
  rw [if_pos (by rw [hc,decide_eq_true (by omega)]; rfl)]
theorem pap_mid {W row0:Int} {fls:List Fl} {pls:List Pl} {f:Fl} {row e y:Int} {ts:List Tri} {i:Nat} {t:Tri} (hN:NmOk pls) (hp:∀ p ∈ pls,InW W row0 p) (hl:pls.length ≤ fls.length) (hh:0 < f.h) (h:papEnd W fls pls f row ts=some y) (hi:papEnd W fls pls f row (ts.take i)=some e) (ht:ts[i]?=some t) :
    e < t.1∧t.1 ≤ y∧(∀ r,e ≤ r→r < t.1→BarR W fls pls f t.2.1 t.2.2 r)∧papEnd W fls pls f row (ts.take (i + 1))=some t.1:=by
  have es:=pap_snoc (W:=W) (fls:=fls) (pls:=pls) (f:=f) (row:=row) ht
  rw [hi] at es
  by_cases c:(decide (e < t.1) && cantB W fls pls f e (t.1 - 1) t.2.1 t.2.2)=true
  · have st:papStep W fls pls f (some e) t=some t.1:=if_pos c
    rw [st] at es
    rw [Bool.and_eq_true,decide_eq_true_iff] at c
    have h2:papEnd W fls pls f row (ts.take (i + 1) ++ ts.drop (i + 1))=some y:=by rw [List.take_append_drop]; exact h
    rw [pap_app es] at h2
    exact ⟨c.1,(pap_sound hN hp hl hh h2).1,(cant_iff hN hp hl hh c.1).mp c.2,es⟩
  · have st:papStep W fls pls f (some e) t=none:=if_neg c
    rw [st] at es
    rw [pap_stop es] at h
    cases h
theorem rows_snocT {H:Hp} {ma:List Addr} {mt:List Tri} {p:Addr} {t:Tri} (h:RowsOf H ma (mt.map triV)) (hp:H p=some (.tup (triV t))):RowsOf H (ma ++ [p]) ((mt ++ [t]).map triV):=by
  rw [List.map_append]
  exact h.snoc (Same.refl _) hp
def spLCut:Sp:=fun vs H Q _=>∃ (b q:Addr) (pa qa:List Addr) (fls:List Fl) (W:Int),vs=[.ref b,.ref q]∧FlsOk W fls∧NmF fls∧(∀ f ∈ fls,f.h ≤ 4)∧PlAt H b pa (plK W fls fls.length)∧H q=some (.lst (qa.map V.ref))∧PapsAt H qa (allF W fls fls.length).2 ∧
  ∀ (l:Addr) (us:List V) (H':Hp),Same H H'→H' l=some (.lst us)→us.length=fls.length→(∀ k x,us[k]?=some x→∃ ts,OkPap H' x ts∧ts.length ≤ 10000∧papEnd W fls (plK W fls k) (gF fls k) (rwK W fls k) ts=some (stK W fls k).y)→Q (.ref l) H'
section
variable {P:Program} {w:World} {K:PySem.W.Frag} {mg:Str→Option Value} {base:Heap}
abbrev nLCut:List Str:=["_law_standing","_law_papers","_law_found","_law_row","_law_thing","_law_paper_here","_law_more","_law_till","_law_left","_law_right"]
theorem scLCut:FnScope nLCut ["_law_standing","_law_papers"] (defScope sLCut):=⟨rfl,rfl,rfl,by decide +kernel,rfl,by decide +kernel,by decide +kernel⟩
set_option maxHeartbeats 16000000 in
theorem ok_lCut {f:Addr} {fd:FuncData} (F:Fun K "_law_cut" "_law_cut" sLCut f fd) (N:Names mg):FnOk P w K mg base CX0 1 f fd ["_law_standing","_law_papers"] spLCut:=by
  refine F.ok scLCut (fun vs H Q E h=>?_) (fun cdv A outer s H vs Q E hr h=>?_)
  · obtain ⟨b,q,pa,qa,fls,W,e,_⟩:=h
    rw [e]
    rfl
  · obtain ⟨b,q,pa,qa,fls,W,e,hFo,hNf,h4,hP,hq,hPp,k⟩:=h
    subst e
    refine ⟨_,pss_cons (ps_set (i:=2) scLCut.nd rfl (Or.inl rfl) (pe_lst pa_nil))
      (pss_cons (ps_set (i:=3) scLCut.nd rfl (Or.inl rfl) pe_int)
      (pss_cons (ps_for PassesOwn.never rfl (pi_zip (by rfl) N.zip (pa_cons (pv 0) (pa_cons (pv 1) pa_nil))) (pg_tup rfl (pgs_cons (pg_name (i:=4) scLCut.nd rfl (Or.inl rfl)) (pgs_cons (pg_name (i:=5) scLCut.nd rfl (Or.inl rfl)) pgs_nil)))
        (pss_cons (ps_set (i:=6) scLCut.nd rfl (Or.inl rfl) (pe_lst pa_nil))
        (pss_cons (ps_for PassesOwn.never rfl (pi_list (pv 5)) (pg_tup rfl (pgs_cons (pg_name (i:=7) scLCut.nd rfl (Or.inl rfl)) (pgs_cons (pg_name (i:=8) scLCut.nd rfl (Or.inl rfl)) (pgs_cons (pg_name (i:=9) scLCut.nd rfl (Or.inl rfl)) pgs_nil))))
          (pss_cons (ps_while PassesOwn.never (pt_cmpR op_lt (pe_op op_add (pv 3) pe_int) (pv 7) (nomark _))
            (pss_cons (ps_set (i:=3) scLCut.nd rfl (Or.inl rfl) (pe_op op_add (pv 3) pe_int))
            (pss_one (ps_expr (pe_bm PySem.F.plainAttrs_list PySem.F.slot_list_append PySem.F.type_list_append mt_append (pv 6) (pa_cons (pe_tup (pa_cons (pv 3) (pa_cons (pv 8) (pa_cons (pv 9) pa_nil)))) pa_nil))))))
          (pss_cons (ps_expr (pe_bm PySem.F.plainAttrs_list PySem.F.slot_list_append PySem.F.type_list_append mt_append (pv 6) (pa_cons (pe_tup (pa_cons (pv 7) (pa_cons (pv 8) (pa_cons (pv 9) pa_nil)))) pa_nil)))
          (pss_one (ps_set (i:=3) scLCut.nd rfl (Or.inl rfl) (pv 7))))))
        (pss_cons (ps_expr (pe_bm PySem.F.plainAttrs_list PySem.F.slot_list_append PySem.F.type_list_append mt_append (pv 2) (pa_cons (pv 6) pa_nil)))
        (pss_one (ps_set (i:=3) scLCut.nd rfl (Or.inl rfl) (pe_ix ix_tup (pv 4) pe_int (fun _ _=>rfl))))))))
      (pss_one (ps_ret (pv 2))))),?_⟩
    try rw [show (cxOf CX0 P w K mg base nLCut "_law_cut" (defScope sLCut) f cdv A outer s H E).nox.K=K from rfl]
    have lpa:pa.length=fls.length:=by rw [hP.2.1.1,List.length_map,plK_len]
    have lpp:=(allF_len W fls fls.length).2
    have lqa:qa.length=fls.length:=by rw [hPp.1,lpp]
    have h100:fls.length ≤ 100:=by have:=hP.2.2; rw [plK_len] at this; exact this
    refine seq_abs fun N1 hN=>?_
    refine ⟨smallE (by simp),fun l hl=>?_⟩
    generalize hG:upd H l _=H1
    have s1:Same H H1:=by rw [← hG]; exact Same.put (Same.refl _) hl
    have h1:H1 l=some (.lst []):=by rw [← hG]; exact upd_same
    clear hG
    refine hN _ _ ?_
    clear hN N1
    refine seq_abs fun N1 hN=>?_
    show N1 _ _
    refine hN _ _ ?_
    clear hN N1
    refine seq_abs fun N1 hN=>?_
    refine ⟨_,rfl,_,rfl,b,q,rfl,⟨_,SqL.of (s1 _ _ hP.1)⟩,⟨_,SqL.of (s1 _ _ hq)⟩,for_zip (K:=K) (a:=b) (b:=q) (xs:=pa.map V.ref) (ys:=qa.map V.ref) (fun i σ G=>∃ (v4 v5 v6 v7 v8 v9:Option V) (us:List V),σ=[some (.ref b),some (.ref q),some (.ref l),some (.int (rwK W fls i)),v4,v5,v6,v7,v8,v9]∧Same H G∧G l=some (.lst us)∧us.length=i∧(∀ x ∈ us,x ≠ .ref l)∧∀ k x,us[k]?=some x→∃ ts,OkPap G x ts∧ts.length ≤ 10000∧papEnd W fls (plK W fls k) (gF fls k) (rwK W fls k) ts=some (stK W fls k).y)
      ⟨none,none,none,none,none,none,[],rfl,s1,h1,rfl,(fun x hx=>nomatch hx),fun k x e=>by simp at e⟩ (by rw [List.length_map,List.length_map,lpa,lqa]) (fun i σ G _ ⟨_,_,_,_,_,_,_,_,z,_⟩=>⟨SqL.of (z _ _ hP.1),SqL.of (z _ _ hq)⟩) ?_ ?_⟩
    · rintro i x y p σ G hx hy hp ⟨v4,v5,v6,v7,v8,v9,us,rfl,sG,hlG,hul,hune,hus⟩
      have hi:i < fls.length:=by have:=get_lt hx; rw [List.length_map,lpa] at this; exact this
      have pg:=hP.get (i:=i) (by rw [plK_len]; exact hi)
      have eg:gP (plK W fls fls.length) i=stK W fls i:=gP_of (plK_get hi)
      rw [eg] at pg
      have ex:x=V.ref (pa.getD i 0):=by
        rw [List.getElem?_map,pg.1] at hx
        exact (Option.some.inj hx).symm
      subst ex
      have eq':qa[i]?=some (qa.getD i 0):=by
        rw [List.getD_eq_getElem?_getD,List.getElem?_eq_getElem (by omega)]
        rfl
      have ey:y=V.ref (qa.getD i 0):=by
        rw [List.getElem?_map,eq'] at hy
        exact (Option.some.inj hy).symm
      subst ey
      have ept:(allF W fls fls.length).2[i]?=some ((allF W fls fls.length).2.getD i []):=by
        rw [List.getD_eq_getElem?_getD,List.getElem?_eq_getElem (by omega)]
        rfl
      obtain ⟨ta,hta,hrt⟩:=hPp.2 i _ _ eq' ept
      have hpe:=papK hFo hNf hi
      generalize (allF W fls fls.length).2.getD i []=ts at *
      generalize qa.getD i 0=qi at *
      generalize pa.getD i 0=pi at *
      have lta:ta.length=ts.length:=by rw [hrt.1,List.length_map]
      obtain ⟨fo1,fo2,fo3⟩:=hFo _ (gF_mem' hi)
      have hy4:=yK hFo h4 hi
      have nmo:=nmK (W:=W) hNf (Nat.le_of_lt hi)
      have ino:=inK hFo (Nat.le_of_lt hi)
      have lko:(plK W fls i).length ≤ fls.length:=by rw [plK_len]; omega
      generalize hG:upd G p _=G1
      have g1:Same G G1:=by rw [← hG]; exact Same.put (Same.refl _) hp
      have q1:G1 p=some (.tup [.ref pi,.ref qi]):=by rw [← hG]; exact upd_same
      clear hG
      refine ⟨p,_,rfl,SqT.of q1,rfl,_,_,rfl,_,_,rfl,rfl,?_⟩
      refine seq_abs fun N2 hN2=>?_
      refine ⟨smallE (by simp),fun mm hmm=>?_⟩
      generalize hG:upd G1 mm _=G2
      have g2:Same G1 G2:=by rw [← hG]; exact Same.put (Same.refl _) hmm
      have q2:G2 mm=some (.lst []):=by rw [← hG]; exact upd_same
      clear hG
      refine hN2 _ _ ?_
      clear hN2 N2
      have S1:=Same.trans sG g1
      have nml:mm ≠ l:=fun z=>by rw [z,g1 _ _ hlG] at hmm; cases hmm
      refine seq_abs fun N2 hN2=>?_
      refine ⟨_,rfl,qi,rfl,⟨_,SqL.of ((Same.trans S1 g2) _ _ hta)⟩,for_list (K:=K) (a:=qi) (xs:=ta.map V.ref) (fun j σ G'=>∃ (e:Int) (v7 v8 v9:Option V) (mt:List Tri) (ma:List Addr),σ=[some (.ref b),some (.ref q),some (.ref l),some (.int e),some (.ref pi),some (.ref qi),some (.ref mm),v7,v8,v9]∧Same G1 G'∧papEnd W fls (plK W fls i) (gF fls i) (rwK W fls i) (ts.take j)=some e∧papEnd W fls (plK W fls i) (gF fls i) (rwK W fls i) mt=some e∧(mt.length:Int)=e - rwK W fls i∧G' mm=some (.lst (ma.map V.ref))∧RowsOf G' ma (mt.map triV))
        ⟨_,_,_,_,[],[],rfl,g2,rfl,rfl,by simp,q2,RowsOf.nil⟩ (fun j σ G' _ ⟨_,_,_,_,_,_,_,z,_⟩=>SqL.of (z _ _ (S1 _ _ hta))) ?_ ?_⟩
      · rintro j x σ G' hx' ⟨e,v7,v8,v9,mt,ma,rfl,sG',he,hmt,hml,hmG,hma⟩
        obtain ⟨tp,rr,rfl,ep,er,hpt⟩:=(hrt.same (Same.trans S1 sG')).get hx'
        rw [List.getElem?_map] at er
        cases et:ts[j]? with
        | none=>rw [et] at er; cases er
        | some t =>
          rw [et] at er
          cases er
          obtain ⟨m1,m2,m3,m4⟩:=pap_mid nmo ino lko fo3 hpe he et
          obtain ⟨t0,t1,t2⟩:=t
          dsimp only at m1 m2 m3 m4
          refine ⟨tp,_,rfl,SqT.of hpt,rfl,_,_,rfl,_,_,rfl,_,_,rfl,rfl,?_⟩
          refine seq_abs fun N3 hN3=>?_
          refine ⟨fun m' σ G''=>∃ (r:Int) (mt:List Tri) (ma:List Addr),σ=[some (.ref b),some (.ref q),some (.ref l),some (.int r),some (.ref pi),some (.ref qi),some (.ref mm),some (.int t0),some (.str t1),some (.str t2)]∧Same G1 G''∧e ≤ r∧r < t0∧papEnd W fls (plK W fls i) (gF fls i) (rwK W fls i) mt=some r∧(mt.length:Int)=r - rwK W fls i∧G'' mm=some (.lst (ma.map V.ref))∧RowsOf G'' ma (mt.map triV)∧m'=(t0 - r).toNat,⟨_,e,mt,ma,rfl,sG',Int.le_refl _,m1,hmt,hml,hmG,hma,rfl⟩,?_⟩
          rintro m' σ G'' ⟨r,mt',ma',rfl,sG'',r1,r2,hmt',hml',hmG',hma',hm'⟩
          have lma:ma'.length=mt'.length:=by rw [hma'.1,List.length_map]
          -- one more triple
          have app:∀ (G3:Hp) (nt:Addr) (r':Int),Same G'' G3→G'' nt=none→G3 nt=some (.tup [.int r',.str t1,.str t2])→r'=r + 1→∃ mt2 ma2,Same G1 (upd G3 mm (.lst (ma'.map V.ref ++ [V.ref nt])))∧papEnd W fls (plK W fls i) (gF fls i) (rwK W fls i) mt2=some r'∧(mt2.length:Int)=r' - rwK W fls i∧(upd G3 mm (.lst (ma'.map V.ref ++ [V.ref nt]))) mm=some (.lst (ma2.map V.ref))∧RowsOf (upd G3 mm (.lst (ma'.map V.ref ++ [V.ref nt]))) ma2 (mt2.map triV):=fun G3 nt r' g3 hn0 hnt er=>by
            subst er
            refine ⟨mt' ++ [(r + 1,t1,t2)],ma' ++ [nt],Same.put' (Same.trans sG'' g3) hmm,pap_one nmo ino lko fo3 hmt' (m3 r r1 r2),by rw [List.length_append,List.length_singleton]; omega,by rw [upd_same,List.map_append]; rfl,?_⟩
            exact rows_snocT ((hma'.same g3).updL (g3 _ _ hmG')) (by rw [upd_ne (fun z=>by rw [z,g3 _ _ hmG'] at hnt; cases hnt)]; exact hnt)
          refine ⟨_,rfl,_,_,rfl,rfl,_,rfl,_,_,rfl,rfl,_,rfl,?_⟩
          by_cases c:r + 1 < t0
          · refine iteB (decide_eq_true c) ⟨fun σ' G3=>∃ (mt:List Tri) (ma:List Addr),σ'=[some (.ref b),some (.ref q),some (.ref l),some (.int (r + 1)),some (.ref pi),some (.ref qi),some (.ref mm),some (.int t0),some (.str t1),some (.str t2)]∧Same G1 G3∧papEnd W fls (plK W fls i) (gF fls i) (rwK W fls i) mt=some (r + 1)∧(mt.length:Int)=r + 1 - rwK W fls i∧G3 mm=some (.lst (ma.map V.ref))∧RowsOf G3 ma (mt.map triV),fun σ' G3 ⟨mt,ma,e1,e2,e3,e4,e5,e6⟩=>⟨(t0 - (r + 1)).toNat,by omega,r + 1,mt,ma,e1,e2,by omega,c,e3,e4,e5,e6,rfl⟩,?_⟩
            refine ⟨_,rfl,_,_,rfl,rfl,?_⟩
            refine ⟨_,rfl,.inl ⟨rfl,_,SqL.of hmG'⟩,?_⟩
            refine ⟨_,rfl,_,rfl,_,rfl,(by show 3 ≤ sizeLine; decide),fun nt hnt=>?_⟩
            have g3:Same G'' (upd G'' nt (.tup [.int (r + 1),.str t1,.str t2])):=Same.put (Same.refl _) hnt
            obtain ⟨mt2,ma2,w1,w2,w3,w4,w5⟩:=app _ nt (r + 1) g3 hnt upd_same rfl
            refine ⟨mm,_,_,rfl,rfl,g3 _ _ hmG',small (by rw [List.length_map]; omega),?_⟩
            exact (show ∃ mt ma,_ from ⟨mt2,ma2,rfl,w1,w2,w3,w4,w5⟩)
          · refine iteC (decide_eq_false c) ?_
            refine hN3 _ _ ?_
            clear hN3 N3
            have er:t0=r + 1:=by omega
            refine seq_abs fun N3 hN3=>?_
            refine ⟨_,rfl,.inl ⟨rfl,_,SqL.of hmG'⟩,?_⟩
            refine ⟨_,rfl,_,rfl,_,rfl,(by show 3 ≤ sizeLine; decide),fun nt hnt=>?_⟩
            have g3:Same G'' (upd G'' nt (.tup [.int t0,.str t1,.str t2])):=Same.put (Same.refl _) hnt
            obtain ⟨mt2,ma2,w1,w2,w3,w4,w5⟩:=app _ nt t0 g3 hnt upd_same er
            refine ⟨mm,_,_,rfl,rfl,g3 _ _ hmG',small (by rw [List.length_map]; omega),?_⟩
            refine hN3 _ _ ?_
            clear hN3 N3
            refine ⟨_,rfl,?_⟩
            exact (show ∃ (e:Int) (v7 v8 v9:Option V) (mt:List Tri) (ma:List Addr),_ from ⟨t0,_,_,_,mt2,ma2,rfl,w1,m4,w2,w3,w4,w5⟩)
      · rintro σ G' ⟨e,v7,v8,v9,mt,ma,rfl,sG',he,hmt,hml,hmG,hma⟩
        rw [List.length_map,lta,List.take_length,hpe] at he
        cases he
        refine hN2 _ _ ?_
        clear hN2 N2
        have hlG':=sG' _ _ (g1 _ _ hlG)
        refine seq_abs fun N2 hN2=>?_
        refine ⟨_,rfl,.inl ⟨rfl,_,SqL.of hlG'⟩,_,rfl,l,_,_,rfl,rfl,hlG',small (by omega),?_⟩
        refine hN2 _ _ ?_
        clear hN2 N2
        have SA:Same H (upd G' l (.lst (us ++ [V.ref mm]))):=Same.put' (Same.trans S1 sG') hl
        have hmA:(upd G' l (.lst (us ++ [V.ref mm]))) mm=some (.lst (ma.map V.ref)):=by rw [upd_ne nml]; exact hmG
        have hmaA:RowsOf (upd G' l (.lst (us ++ [V.ref mm]))) ma (mt.map triV):=hma.updL hlG'
        have husA:∀ k x,us[k]?=some x→∃ ts,OkPap (upd G' l (.lst (us ++ [V.ref mm]))) x ts∧ts.length ≤ 10000∧papEnd W fls (plK W fls k) (gF fls k) (rwK W fls k) ts=some (stK W fls k).y:=fun k x hk=>by
          obtain ⟨ts',⟨a',ta',rfl,z1,z2⟩,z3,z4⟩:=hus k x hk
          have na:a' ≠ l:=fun z=>hune _ (List.mem_of_getElem? hk) (by rw [z])
          exact ⟨ts',⟨a',ta',rfl,by rw [upd_ne na]; exact sG' _ _ (g1 _ _ z1),((z2.same g1).same sG').updL hlG'⟩,z3,z4⟩
        have hlA:(upd G' l (.lst (us ++ [V.ref mm]))) l=some (.lst (us ++ [V.ref mm])):=upd_same
        generalize upd G' l (.lst (us ++ [V.ref mm]))=GA at *
        refine ⟨_,rfl,pi,_,_,_,rfl,rfl,SqT.of (SA _ _ pg.2),atI_nat (j:=2) rfl,?_⟩
        refine (show ∃ (v4 v5 v6 v7 v8 v9:Option V) (us:List V),_ from ⟨_,_,_,_,_,_,us ++ [V.ref mm],by rw [rwK_succ]; rfl,SA,hlA,by rw [List.length_append,hul]; rfl,fun x hx=>?_,fun k x hk=>?_⟩)
        · rcases List.mem_append.mp hx with z | z
          · exact hune x z
          · rw [List.mem_singleton.mp z]
            exact fun z=>nml (by cases z; rfl)
        · by_cases ek:k < us.length
          · rw [List.getElem?_append_left ek] at hk
            exact husA k x hk
          · have hlt:=get_lt hk
            rw [List.length_append,List.length_singleton] at hlt
            have e2:k=i:=by omega
            subst e2
            rw [List.getElem?_append_right (by omega),hul,Nat.sub_self] at hk
            cases hk
            exact ⟨mt,⟨mm,ma,rfl,hmA,hmaA⟩,by omega,hmt⟩
    · rintro σ G ⟨v4,v5,v6,v7,v8,v9,us,rfl,sG,hlG,hul,hune,hus⟩
      rw [List.length_map,lpa] at hul
      refine hN _ _ ?_
      exact ⟨_,rfl,k l us G sG hlG hul hus⟩
end
end B69
namespace L2
open PySem PySem.Spec PyProof.Rows
section
variable {X:Cx}
def rIsB (neg:Bool):R2:=fun x y H Q=>∃ a b:Bool,x=.bl a∧y=.bl b∧Q (.bl (if neg then !(a == b) else a == b)) H
theorem op_isnB:OpR X (compareOp .IsNot) (rIsB true):=by
  intro pins s σ H x y v u Q I rx ry h
  obtain ⟨a,b,rfl,rfl,q⟩:=h
  cases rx
  cases ry
  refine wpAny_isNot_plain rfl (fin_bl I q ?_)
  cases a <;> cases b <;> rfl
end
end L2
namespace B69
open PySem L2 S2
theorem papF_len {W:Int} {fls:List Fl} {pls:List Pl} {w h:Int}:∀ (n:Nat) (row:Int),(papF W fls pls w h n row).1.length ≤ n
  | 0,_=>Nat.le_refl _
  | n + 1,row=>by
    rw [papF]
    split
    · show ((_ :: (papF W fls pls w h n _).1:List Tri)).length ≤ n + 1
      rw [List.length_cons]
      exact Nat.succ_le_succ (papF_len n _)
    · exact Nat.zero_le _
theorem paps_small {W:Int} {fls:List Fl} (h:fls.length ≤ 100):∀ ts ∈ (allF W fls fls.length).2,ts.length ≤ 1000:=fun ts ht=>by
  obtain ⟨k,hk,e⟩:=List.mem_iff_getElem.mp ht
  have hk':k < fls.length:=by rw [(allF_len W fls fls.length).2] at hk; exact hk
  have e2:(allF W fls fls.length).2.getD k []=ts:=by rw [List.getD_eq_getElem?_getD,List.getElem?_eq_getElem hk,e]; rfl
  rw [allP_get hk'] at e2
  rw [← e2]
  unfold standF
  have a1:=papF_len (W:=W) (fls:=fls) (pls:=(allF W fls k).1) (w:=(gF fls (allF W fls k).1.length).w) (h:=(gF fls (allF W fls k).1.length).h) (cntF (lastRow (allF W fls k).1) (allF W fls k).1) (lastRow (allF W fls k).1)
  have a2:=cntF_le (lastRow (allF W fls k).1) (allF W fls k).1
  have a3:=(allF_len W fls k).1
  dsimp only
  omega
theorem eqRow {K:PySem.W.Frag} {H:Hp} {n:Nat} {r:List V} (hr:r.all flatV=true):∀ (j:Nat) (x y:V),r[j]?=some x→r[j]?=some y→EqD K H n x y true:=fun j x y e1 e2=>by
  rw [e1] at e2
  cases e2
  exact EqD.refl (List.all_eq_true.mp hr x (List.mem_of_getElem? e1))
theorem eqRows {K:PySem.W.Frag} {H:Hp} {n:Nat} {as bs:List Addr} {rows:List (List V)} (hA:RowsOf H as rows) (hB:RowsOf H bs rows) (hf:∀ r ∈ rows,r.all flatV=true) :
    ∀ (j:Nat) (x y:V),(as.map V.ref)[j]?=some x→(bs.map V.ref)[j]?=some y→EqD K H (n + 1) x y true:=fun j x y e1 e2=>by
  obtain ⟨p,r,rfl,_,er,hp⟩:=hA.get e1
  obtain ⟨q,r2,rfl,_,er2,hq⟩:=hB.get e2
  rw [er] at er2
  cases er2
  exact EqD.tupT (SqT.of hp) (SqT.of hq) rfl (eqRow (hf r (List.mem_of_getElem? er)))
theorem flat_tri {ts:List Tri}:∀ r ∈ ts.map triV,r.all flatV=true:=fun r hr=>by
  obtain ⟨p,_,rfl⟩:=List.mem_map.mp hr
  rfl
theorem flat_pl {ts:List Pl}:∀ r ∈ ts.map plRow,r.all flatV=true:=fun r hr=>by
  obtain ⟨p,_,rfl⟩:=List.mem_map.mp hr
  rfl
theorem eqPaps {K:PySem.W.Frag} {H:Hp} {n:Nat} {as bs:List Addr} {pps:List (List Tri)} (hA:PapsAt H as pps) (hB:PapsAt H bs pps) :
    ∀ (j:Nat) (x y:V),(as.map V.ref)[j]?=some x→(bs.map V.ref)[j]?=some y→EqD K H (n + 2) x y true:=fun j x y e1 e2=>by
  rw [List.getElem?_map] at e1 e2
  cases f1:as[j]? with
  | none=>rw [f1] at e1; cases e1
  | some p =>
    cases f2:bs[j]? with
    | none=>rw [f2] at e2; cases e2
    | some q =>
      rw [f1] at e1
      rw [f2] at e2
      cases e1
      cases e2
      have hj:j < pps.length:=by rw [← hA.1]; exact get_lt f1
      obtain ⟨ta,h1,h2⟩:=hA.2 j p pps[j] f1 (by simp [hj])
      obtain ⟨tb,g1,g2⟩:=hB.2 j q pps[j] f2 (by simp [hj])
      exact EqD.lstT (SqL.of h1) (SqL.of g1) (by rw [List.length_map,List.length_map,h2.1,g2.1]) (eqRows h2 g2 flat_tri)
theorem PlE.put {H:Hp} {e:V} {l:Addr} {xs ys:List V} (h:PlE H e) (hl:H l=some (.lst xs)):PlE (upd H l (.lst ys)) e:=by
  rcases h with ⟨p,s,zs,rfl,hp⟩ | rfl | ⟨p,es,rfl,hp⟩
  · exact .inl ⟨p,s,zs,rfl,by rw [upd_ne (fun z=>by rw [z,hl] at hp; cases hp)]; exact hp⟩
  · exact .inr (.inl rfl)
  · by_cases z:p=l
    · subst z
      exact .inr (.inr ⟨p,ys,rfl,upd_same⟩)
    · exact .inr (.inr ⟨p,es,rfl,by rw [upd_ne z]; exact hp⟩)
theorem TriE.put {H:Hp} {e:V} {l:Addr} {xs ys:List V} (h:TriE H e) (hl:H l=some (.lst xs)):TriE (upd H l (.lst ys)) e:=by
  obtain ⟨p,x,s1,s2,e1,hp,hx⟩:=h
  exact ⟨p,x,s1,s2,e1,by rw [upd_ne (fun z=>by rw [z,hl] at hp; cases hp)]; exact hp,hx⟩
theorem PapE.put {H:Hp} {e x:V} {l:Addr} {xs ys:List V} (h:PapE H e) (hl:H l=some (.lst xs)) (hx:x ∈ xs) (hn:¬ TriE H x):PapE (upd H l (.lst ys)) e:=by
  rcases h with ⟨q,es,rfl,hq,hn',ht⟩ | ⟨q,es,rfl,hq⟩
  · have nq:q ≠ l:=fun z=>by
      subst z
      rw [hl] at hq
      cases hq
      exact hn (ht _ hx)
    exact .inl ⟨q,es,rfl,by rw [upd_ne nq]; exact hq,hn',fun e he=>(ht e he).put hl⟩
  · exact .inr ⟨q,es,rfl,by rw [upd_ne (fun z=>by rw [z,hl] at hq; cases hq)]; exact hq⟩
theorem no_tri5 {H:Hp} {p:Addr} {s:Pl} (h:H p=some (.tup (plRow s))):¬ TriE H (.ref p):=by
  rintro ⟨q,x,s1,s2,e,hq,_⟩
  cases e
  rw [h] at hq
  injection hq with hq
  injection hq with hq
  have:=congrArg List.length hq
  cases this
theorem no_triL {H:Hp} {p:Addr} {xs:List V} (h:H p=some (.lst xs)):¬ TriE H (.ref p):=by
  rintro ⟨q,x,s1,s2,e,hq,_⟩
  cases e
  rw [h] at hq
  cases hq
theorem ixN_nat {n j:Nat} {i:Int} (e:i=(j:Int)) (h:j < n):ixN n i=some j:=by
  unfold ixN
  rw [if_pos (by omega),if_pos (by omega),e,Int.toNat_natCast]
def PapL (H:Hp) (q:Addr):Prop:=∃ es,H q=some (.lst es)∧es.length ≤ 10000∧∀ e ∈ es,TriE H e
theorem PapL.e {H:Hp} {q:Addr} (h:PapL H q):PapE H (.ref q):=by
  obtain ⟨es,h1,h2,h3⟩:=h
  exact .inl ⟨q,es,rfl,h1,h2,h3⟩
theorem PapL.same {H H':Hp} {q:Addr} (h:PapL H q) (s:Same H H'):PapL H' q:=by
  obtain ⟨es,h1,h2,h3⟩:=h
  exact ⟨es,s _ _ h1,h2,fun e he=>(h3 e he).same s⟩
theorem PapL.put {H:Hp} {q D:Addr} {xs ys:List V} (h:PapL H q) (hD:H D=some (.lst xs)) (n:q ≠ D):PapL (upd H D (.lst ys)) q:=by
  obtain ⟨es,h1,h2,h3⟩:=h
  exact ⟨es,by rw [upd_ne n]; exact h1,h2,fun e he=>(h3 e he).put hD⟩
theorem pls_in {H:Hp} {pa:List Addr} {pls:List Pl} (h:RowsOf H pa (pls.map plRow)):∀ e ∈ pa.map V.ref,PlE H e:=fun e he=>by
  obtain ⟨p,hp,rfl⟩:=List.mem_map.mp he
  obtain ⟨i,hi⟩:=List.getElem?_of_mem hp
  have hl:i < pls.length:=by have:=h.1; rw [List.length_map] at this; have:=get_lt hi; omega
  have z:=h.2 i p (plRow pls[i]) hi (by rw [List.getElem?_map,List.getElem?_eq_getElem hl]; rfl)
  exact .inl ⟨p,pls[i].nm,[pls[i].x,pls[i].y,pls[i].w,pls[i].h],rfl,z⟩
theorem PapsAt.get {H:Hp} {qa:List Addr} {pps:List (List Tri)} (h:PapsAt H qa pps) {i:Nat} (hi:i < pps.length):∃ ta,qa[i]?=some (qa.getD i 0)∧H (qa.getD i 0)=some (.lst (ta.map V.ref))∧RowsOf H ta ((pps.getD i []).map triV):=by
  have e1:qa[i]?=some (qa.getD i 0):=by rw [List.getD_eq_getElem?_getD,List.getElem?_eq_getElem (by rw [h.1]; exact hi)]; rfl
  have e2:pps[i]?=some (pps.getD i []):=by rw [List.getD_eq_getElem?_getD,List.getElem?_eq_getElem hi]; rfl
  obtain ⟨ta,a1,a2⟩:=h.2 i _ _ e1 e2
  exact ⟨ta,e1,a1,a2⟩
theorem cutV_mem {xs:List V} {i j:Option Int} {e:V} (h:e ∈ cutV xs i j):e ∈ xs:=List.mem_of_mem_drop (List.mem_of_mem_take h)
theorem set_mem {α:Type} {xs:List α} {i:Nat} {x y:α} (h:y ∈ xs.set i x):y=x ∨ y ∈ xs:=(List.mem_or_eq_of_mem_set h).symm
def spLaw (K:PySem.W.Frag):Sp:=fun vs H Q _=>∃ (a:Addr) (ns:List Int),vs=[.ref a]∧SqL K H a (ns.map V.int)∧ns.length ≤ 63∧∀ H',Q (.bl true) H'
section
variable {P:Program} {w:World} {K:PySem.W.Frag} {mg:Str→Option Value} {base:Heap}
abbrev nLaw:List Str:=["_law_script","_law_names_here","_law_wide","_law_floats_here","_law_standing","_law_papers","_law_told","_law_cell","_law_some","_law_places","_law_at","_law_found"]
theorem scLaw:FnScope nLaw ["_law_script"] (defScope sLaw):=⟨rfl,rfl,rfl,by decide +kernel,rfl,by decide +kernel,by decide +kernel⟩
set_option maxHeartbeats 16000000 in
theorem ok_law {f f1 f2 f3 f4 f5 f6 f7 f8 f9 f10:Addr} {fd d1 d2 d3 d4 d5 d6 d7 d8 d9 d10:FuncData} (F:Fun K "law" "law" sLaw f fd) (N:Names mg)
    (G1:FnOk P w K mg base CX0 1 f1 d1 ["_law_script","_law_k"] (spCell K)) (b1:Binds K d1 ["_law_script","_law_k"] []) (m1:mg "_law_cell_at"=some (.ref f1)) (k1:PySem.W.keepIn K (.ref f1)=true)
    (G2:FnOk P w K mg base CX0 2 f2 d2 ["_law_cell","_law_many"] spLNames) (b2:Binds K d2 ["_law_cell","_law_many"] []) (m2:mg "_law_names"=some (.ref f2)) (k2:PySem.W.keepIn K (.ref f2)=true)
    (G3:FnOk P w K mg base CX0 2 f3 d3 ["_law_names_here","_law_cells"] (spLFloats K)) (b3:Binds K d3 ["_law_names_here","_law_cells"] []) (m3:mg "_law_floats"=some (.ref f3)) (k3:PySem.W.keepIn K (.ref f3)=true)
    (G4:FnOk P w K mg base CX0 6 f4 d4 ["W","floats"] spStandAll) (b4:Binds K d4 ["W","floats"] []) (m4:mg "stand_floats"=some (.ref f4)) (k4:PySem.W.keepIn K (.ref f4)=true)
    (G5:FnOk P w K mg base CX0 1 f5 d5 ["_law_standing","_law_papers"] spLCut) (b5:Binds K d5 ["_law_standing","_law_papers"] []) (m5:mg "_law_cut"=some (.ref f5)) (k5:PySem.W.keepIn K (.ref f5)=true)
    (G6:FnOk P w K mg base CX0 6 f6 d6 ["W","floats","standing","papers"] spStoodG) (b6:Binds K d6 ["W","floats","standing","papers"] []) (m6:mg "stood"=some (.ref f6)) (k6:PySem.W.keepIn K (.ref f6)=true)
    (G7:FnOk P w K mg base CX0 1 f7 d7 ["_law_cell","_law_many"] spNumbers) (b7:Binds K d7 ["_law_cell","_law_many"] []) (m7:mg "_law_numbers"=some (.ref f7)) (k7:PySem.W.keepIn K (.ref f7)=true)
    (G8:FnOk P w K mg base CX0 1 f8 d8 ["_law_thing","_law_some"] spLPlace) (b8:Binds K d8 ["_law_thing","_law_some"] []) (m8:mg "_law_place"=some (.ref f8)) (k8:PySem.W.keepIn K (.ref f8)=true)
    (G9:FnOk P w K mg base CX0 1 f9 d9 ["_law_names_here","_law_paper_here","_law_some"] spLPaper) (b9:Binds K d9 ["_law_names_here","_law_paper_here","_law_some"] []) (m9:mg "_law_paper"=some (.ref f9)) (k9:PySem.W.keepIn K (.ref f9)=true)
    (G10:FnOk P w K mg base CX0 4 f10 d10 ["_law_wide","_law_floats_here","_law_standing","_law_papers"] spStoodG) (b10:Binds K d10 ["_law_wide","_law_floats_here","_law_standing","_law_papers"] []) (m10:mg "_law_due"=some (.ref f10)) (k10:PySem.W.keepIn K (.ref f10)=true):FnOk P w K mg base CX0 7 f fd ["_law_script"] (spLaw K):=by
  refine F.ok scLaw (fun vs H Q E h=>?_) (fun cdv A outer s H vs Q E hr h=>?_)
  · obtain ⟨a,ns,e,_⟩:=h
    rw [e]
    rfl
  · obtain ⟨a,ns,e,hS,hn,k⟩:=h
    subst e
    have hr1:=hr.mono (j:=1) (by decide)
    have hr2:=hr.mono (j:=2) (by decide)
    have hr4:=hr.mono (j:=4) (by decide)
    have hr6:=hr.mono (j:=6) (by decide)
    have hu0:(A.deeper (PyProof.Rows.envOfC "law" (defScope sLaw) s.heap.objs.size f cdv)).units < cLine:=by have:=hr.units; omega
    have hu20:(A.deeper (PyProof.Rows.envOfC "law" (defScope sLaw) s.heap.objs.size f cdv)).units + 20 < cLine:=by have:=hr.units; omega
    refine ⟨_,pss_cons (ps_set (i:=1) scLaw.nd rfl (Or.inl rfl) (pe_call G2 hr2 (by rfl) m2 k2 b2 .nil pass0 (pa_cons (pe_call G1 hr1 (by rfl) m1 k1 b1 .nil pass0 (pa_cons (pv 0) (pa_cons pe_int pa_nil))) (pa_cons pe_int pa_nil))))
      (pss_cons (ps_set (i:=2) scLaw.nd rfl (Or.inl rfl) (pe_op op_add pe_int (pe_op op_mod (pe_call G1 hr1 (by rfl) m1 k1 b1 .nil pass0 (pa_cons (pv 0) (pa_cons pe_int pa_nil))) pe_int)))
      (pss_cons (ps_set (i:=3) scLaw.nd rfl (Or.inl rfl) (pe_call G3 hr2 (by rfl) m3 k3 b3 .nil pass0 (pa_cons (pv 1) (pa_cons (pe_slice sl_list (pv 0) (po_some pe_int) (po_some pe_int)) pa_nil))))
      (pss_cons (ps_asg (pe_call G4 hr6 (by rfl) m4 k4 b4 .nil pass0 (pa_cons (pv 2) (pa_cons (pv 3) pa_nil))) (pg_tup rfl (pgs_cons (pg_name (i:=4) scLaw.nd rfl (Or.inl rfl)) (pgs_cons (pg_name (i:=5) scLaw.nd rfl (Or.inl rfl)) pgs_nil))))
      (pss_cons (ps_for PassesOwn.never rfl (pi_list (pe_lst (pa_cons (pv 5) (pa_cons (pe_call G5 hr1 (by rfl) m5 k5 b5 .nil pass0 (pa_cons (pv 4) (pa_cons (pv 5) pa_nil))) pa_nil)))) (pg_name (i:=6) scLaw.nd rfl (Or.inl rfl))
        (pss_one (ps_if (pt_cmpR op_isnB (pe_call G6 hr6 (by rfl) m6 k6 b6 .nil pass0 (pa_cons (pv 2) (pa_cons (pv 3) (pa_cons (pv 4) (pa_cons (pv 6) pa_nil))))) pe_bl (nomark _)) (pss_one (ps_ret pe_bl)) pss_nil)))
      (pss_cons (ps_for PassesOwn.never rfl (pi_list (pe_slice sl_list (pv 0) (po_some pe_int) (po_some pe_int))) (pg_name (i:=7) scLaw.nd rfl (Or.inl rfl))
        (pss_cons (ps_set (i:=8) scLaw.nd rfl (Or.inl rfl) (pe_call G7 hr1 (by rfl) m7 k7 b7 .nil pass0 (pa_cons (pv 7) (pa_cons pe_int pa_nil))))
        (pss_cons (ps_set (i:=9) scLaw.nd rfl (Or.inl rfl) (pe_callTy call_list_of (by rfl) N.list PyProof.Rows.boot_list (pa_cons (pv 4) pa_nil)))
        (pss_cons (ps_setComp (i:=6) (compSc_mk (fs:=defScope sLaw) (N:=nLaw) rfl rfl (by decide +kernel)) rfl scLaw.nd rfl (Or.inl rfl) (pi_list (pv 5)) (fun _ _ _ _ _=>pts_nil) (fun _ _ _ _ _=>(pe_callTy (call_listK (K:=K) rfl) (by rfl) N.list PyProof.Rows.boot_list (pa_cons (pv 0) pa_nil))) rfl)
        (pss_cons (ps_if (pw_and (pt_cmpR (op_neN hu0) (pv 3) (pe_lst pa_nil) (nomark _)) (pw_and1 (pt_cmpR op_eq (pe_op op_mod (pe_ix ix_list (pv 8) pe_int (fun _ _=>rfl)) pe_int) pe_int (nomark _)))).pt (pss_cons (ps_set (i:=10) scLaw.nd rfl (Or.inl rfl) (pe_op op_mod (pe_ix ix_list (pv 8) pe_int (fun _ _=>rfl)) (pe_callB call_len_seq (by rfl) N.len PySem.boot_len (pa_cons (pv 3) pa_nil))))
          (pss_one (ps_asg (pe_call G8 hr1 (by rfl) m8 k8 b8 .nil pass0 (pa_cons (pe_ix ix_list (pv 4) (pv 10) (fun _ _=>rfl)) (pa_cons (pv 8) pa_nil))) (pg_sub (pv 9) (pv 10) set_list)))) (pss_one (ps_if (pt_cmpR (op_neN hu0) (pv 3) (pe_lst pa_nil) (nomark _)) (pss_cons (ps_set (i:=10) scLaw.nd rfl (Or.inl rfl) (pe_op op_mod (pe_ix ix_list (pv 8) pe_int (fun _ _=>rfl)) (pe_callB call_len_seq (by rfl) N.len PySem.boot_len (pa_cons (pv 3) pa_nil))))
            (pss_one (ps_asg (pe_call G9 hr1 (by rfl) m9 k9 b9 .nil pass0 (pa_cons (pe_op op_cat (pv 1) (pe_lst (pa_cons pe_str pa_nil))) (pa_cons (pe_ix ix_list (pv 5) (pv 10) (fun _ _=>rfl)) (pa_cons (pv 8) pa_nil)))) (pg_sub (pv 6) (pv 10) set_list)))) pss_nil)))
        (pss_cons (ps_if (pt_cmpR op_eq (pe_op op_mod (pe_op op_fdiv (pe_ix ix_list (pv 8) pe_int (fun _ _=>rfl)) pe_int) pe_int) pe_int (nomark _)) (pss_one (ps_set (i:=9) scLaw.nd rfl (Or.inl rfl) (pe_ix ix_list (pe_lst (pa_cons (pe_slice sl_list (pv 9) (po_some pe_int) po_none) (pa_cons (pe_callTy call_tuple_of (by rfl) N.tuple PyProof.Rows.boot_tuple (pa_cons (pv 9) pa_nil)) (pa_cons pe_non (pa_cons (pe_op op_cat (pv 9) (pe_lst (pa_cons (pe_tup (pa_cons pe_str (pa_cons pe_int (pa_cons pe_int (pa_cons pe_int (pa_cons pe_int pa_nil)))))) pa_nil))) pa_nil))))) (pe_op op_mod (pe_ix ix_list (pv 8) pe_int (fun _ _=>rfl)) pe_int) (fun _ _=>rfl)))) pss_nil)
        (pss_cons (ps_if (pt_cmpR op_eq (pe_op op_mod (pe_op op_fdiv (pe_ix ix_list (pv 8) pe_int (fun _ _=>rfl)) pe_int) pe_int) pe_int (nomark _)) (pss_one (ps_set (i:=6) scLaw.nd rfl (Or.inl rfl) (pe_ix ix_list (pe_lst (pa_cons (pe_slice sl_list (pv 6) (po_some pe_int) po_none) (pa_cons (pe_callTy call_tuple_of (by rfl) N.tuple PyProof.Rows.boot_tuple (pa_cons (pv 6) pa_nil)) (pa_cons pe_non (pa_cons (pe_op op_cat (pv 6) (pe_lst (pa_cons (pe_lst pa_nil) pa_nil))) pa_nil))))) (pe_op op_mod (pe_ix ix_list (pv 8) pe_int (fun _ _=>rfl)) pe_int) (fun _ _=>rfl)))) pss_nil)
        (pss_cons (ps_set (i:=11) scLaw.nd rfl (Or.inl rfl) (pe_call G6 hr6 (by rfl) m6 k6 b6 .nil pass0 (pa_cons (pv 2) (pa_cons (pv 3) (pa_cons (pv 9) (pa_cons (pv 6) pa_nil))))))
        (pss_one (ps_if (pw_or (pt_not (pt_val (pe_callB call_isinst (by rfl) N.inst PyProof.Rows.boot_isinstance (pa_cons (pv 11) (pa_cons (pe_bltn (v:=.ty "bool") (by rfl) N.bool PyProof.Rows.boot_bool rfl (by decide)) pa_nil))))) (pw_or1 (pt_cmpR op_ne (pv 11) (pe_call G10 hr4 (by rfl) m10 k10 b10 .nil pass0 (pa_cons (pv 2) (pa_cons (pv 3) (pa_cons (pv 9) (pa_cons (pv 6) pa_nil))))) (nomark _)))).pt (pss_one (ps_ret pe_bl)) pss_nil))))))))))
      (pss_one (ps_ret (pe_cmpR (op_eqDeep hu20) (pe_call G4 hr6 (by rfl) m4 k4 b4 .nil pass0 (pa_cons (pv 2) (pa_cons (pv 3) pa_nil))) (pe_tup (pa_cons (pv 4) (pa_cons (pv 5) pa_nil))) (nomark _))))))))),?_⟩
    try rw [show (cxOf CX0 P w K mg base nLaw "law" (defScope sLaw) f cdv A outer s H E).nox.K=K from rfl]
    refine seq_abs fun N1 hN=>?_
    refine ⟨_,rfl,a,0,ns,rfl,hS,hn,fun z0=>⟨z0,7,rfl,by decide,fun ln nms H1 hln s1 h1 hnl hno=>?_⟩⟩
    refine hN _ _ ?_
    clear hN N1
    refine seq_abs fun N1 hN=>?_
    refine ⟨_,rfl,a,1,ns,rfl,s1.seq hS,hn,fun z1=>⟨_,_,rfl,rfl,(by show (0:Int) < 5; decide),_,_,rfl,rfl,?_⟩⟩
    refine hN _ _ ?_
    clear hN N1
    have hW8:8 ≤ 8 + z1 % 5:=by have:0 ≤ z1 % 5:=Int.emod_nonneg _ (by decide); omega
    dsimp only
    generalize 8 + z1 % 5=W at *
    refine seq_abs fun N1 hN=>?_
    refine ⟨_,rfl,_,rfl,_,rfl,_,rfl,a,_,rfl,s1.seq hS,fun lc hlc=>?_⟩
    have ecut:cutV (ns.map V.int) (some 3) (some 10)=(cellsOf 3 10 ns).map V.int:=cells_cut 3 10 ns
    have ecl:=cells_len 3 10 ns
    rw [ecut]
    generalize cellsOf 3 10 ns=cs at *
    generalize hG:upd H1 lc _=H2
    have s2:Same H1 H2:=by rw [← hG]; exact Same.put (Same.refl _) hlc
    have h2:H2 lc=some (.lst (cs.map V.int)):=by rw [← hG]; exact upd_same
    clear hG
    refine ⟨ln,lc,W,nms,cs,rfl,s2 _ _ h1,SqL.of h2,by omega,by omega,hW8,fun lf fa fls H3 hlf s3 hF ⟨hFo,h4⟩ hfl hnf=>?_⟩
    refine hN _ _ ?_
    clear hN N1
    have hNf:NmF fls:=⟨fun i j hi hj e=>hno.1 i j (by omega) (by omega) (by rw [← hnf i hi,← hnf j hj]; exact e),fun i hi=>by rw [hnf i hi]; exact hno.2 i (by omega)⟩
    have h7:fls.length ≤ 7:=by omega
    have h13:=s3 _ _ (s2 _ _ h1)
    have s03:Same H H3:=Same.trans s1 (Same.trans s2 s3)
    clear hlf hlc hln h2 hno hnf hfl ecut
    -- standing,papers
    refine seq_abs fun N1 hN=>?_
    refine ⟨_,rfl,_,rfl,lf,fa,fls,W,rfl,hF,fun f hf=>(hFo f hf).2.1,fun t ls lp pa qa H4 hls hlp nlp s4 ht hPl hlp4 hPp hqn=>?_⟩
    refine ⟨t,_,rfl,SqT.of ht,rfl,_,_,rfl,_,_,rfl,rfl,?_⟩
    refine hN _ _ ?_
    clear hN N1
    have hF4:=hF.same s4
    have aln:=allF_len W fls fls.length
    have lpa:pa.length=fls.length:=by rw [hPl.2.1.1,List.length_map,aln.1]
    have lfa:fa.length=fls.length:=by rw [hF.2.1.1,List.length_map]
    have lqa:qa.length=fls.length:=by rw [hPp.1,aln.2]
    have sm:=paps_small (W:=W) (fls:=fls) (by omega)
    have h14:=s4 _ _ h13
    have s04:=Same.trans s03 s4
    have plv:∀ G,Same H4 G→PlsV G (.ref ls):=fun G sG=>.inl ⟨ls,_,rfl,sG _ _ hPl.1,by rw [List.length_map]; omega,fun e he=>(pls_in hPl.2.1 e he).same sG⟩
    have okp:∀ k x,(qa.map V.ref)[k]?=some x→∃ ts,OkPap H4 x ts∧ts.length ≤ 10000∧papEnd W fls (plK W fls k) (gF fls k) (rwK W fls k) ts=some (stK W fls k).y:=fun k x hx=>by
      rw [List.getElem?_map] at hx
      cases f1:qa[k]? with
      | none=>rw [f1] at hx; cases hx
      | some q =>
        rw [f1] at hx
        cases hx
        have hk:k < fls.length:=by rw [← lqa]; exact get_lt f1
        have hk2:k < (allF W fls fls.length).2.length:=by rw [aln.2]; exact hk
        have e2:(allF W fls fls.length).2[k]?=some ((allF W fls fls.length).2.getD k []):=by rw [List.getD_eq_getElem?_getD,List.getElem?_eq_getElem hk2]; rfl
        obtain ⟨ta,g1,g2⟩:=hPp.2 k q _ f1 e2
        exact ⟨_,⟨q,ta,rfl,g1,g2⟩,Nat.le_trans (sm _ (List.mem_of_getElem? e2)) (by decide),papK hFo hNf hk⟩
    have papv:∀ (G:Hp) (l:Addr) (us:List V),G l=some (.lst us)→us.length=fls.length→(∀ k x,us[k]?=some x→∃ ts,OkPap G x ts∧ts.length ≤ 10000∧papEnd W fls (plK W fls k) (gF fls k) (rwK W fls k) ts=some (stK W fls k).y)→PapsV G (.ref l):=fun G l us hl hul hk=>by
      refine .inl ⟨l,us,rfl,hl,by omega,fun e he=>?_⟩
      obtain ⟨k,hk'⟩:=List.getElem?_of_mem he
      obtain ⟨ts,⟨q,ta,rfl,g1,g2⟩,hts,_⟩:=hk k e hk'
      exact .inl ⟨q,_,rfl,g1,by have:=g2.1; rw [List.length_map] at this; rw [List.length_map]; omega,tris_in g2⟩
    have good:∀ (G:Hp) (l:Addr) (us:List V),Same H4 G→G l=some (.lst us)→us.length=fls.length→(∀ k x,us[k]?=some x→∃ ts,OkPap G x ts∧ts.length ≤ 10000∧papEnd W fls (plK W fls k) (gF fls k) (rwK W fls k) ts=some (stK W fls k).y)→GoodF W fls G (.ref ls) (.ref l):=fun G l us sG hl hul hk=>by
      refine ⟨ls,pa,rfl,sG _ _ hPl.1,hPl.2.1.same sG,l,us,rfl,hl,hul,fun k x hx=>?_⟩
      obtain ⟨ts,h1,_,h2⟩:=hk k x hx
      exact ⟨ts,h1,h2⟩
    clear hls hlp nlp hqn ht hF s4 s3 s2 s1 h13
    -- what is told is let by
    refine seq_abs fun N1 hN=>?_
    refine ⟨_,rfl,_,rfl,_,rfl,ls,lp,pa,qa,fls,W,rfl,hFo,hNf,h4,hPl,hlp4,hPp,fun lu us H5 s5 h5 hul hus=>?_⟩
    refine ⟨smallE (by simp),fun l2 hl2=>?_⟩
    generalize hG:upd H5 l2 _=H6
    have s6:Same H5 H6:=by rw [← hG]; exact Same.put (Same.refl _) hl2
    have h6:H6 l2=some (.lst [.ref lp,.ref lu]):=by rw [← hG]; exact upd_same
    clear hG
    have okq:∀ k x,us[k]?=some x→∃ ts,OkPap H6 x ts∧ts.length ≤ 10000∧papEnd W fls (plK W fls k) (gF fls k) (rwK W fls k) ts=some (stK W fls k).y:=fun k x hx=>by
      obtain ⟨ts,y1,y2⟩:=hus k x hx
      exact ⟨ts,y1.same s6,y2⟩
    have h56:=s6 _ _ h5
    have s46:=Same.trans s5 s6
    clear hus h5 hl2
    refine ⟨l2,rfl,⟨_,SqL.of h6⟩,for_list (K:=K) (a:=l2) (xs:=[.ref lp,.ref lu]) (fun i σ G=>(∃ v6,σ=[some (.ref a),some (.ref ln),some (.int W),some (.ref lf),some (.ref ls),some (.ref lp),v6,none,none,none,none,none])∧Same H6 G) ⟨⟨_,rfl⟩,Same.refl _⟩ (fun i σ G _ ⟨_,sG⟩=>SqL.of (sG _ _ h6)) ?_ ?_⟩
    · rintro i x σ G hx ⟨⟨v6,rfl⟩,sG⟩
      have s4G:=Same.trans s46 sG
      obtain ⟨l,vs',rfl,hl,hvl,hvs⟩:∃ (l:Addr) (vs':List V),x=.ref l∧G l=some (.lst vs')∧vs'.length=fls.length∧∀ k x,vs'[k]?=some x→∃ ts,OkPap G x ts∧ts.length ≤ 10000∧papEnd W fls (plK W fls k) (gF fls k) (rwK W fls k) ts=some (stK W fls k).y:=by
        match i,hx with
        | 0,hx =>
          cases hx
          refine ⟨lp,_,rfl,s4G _ _ hlp4,by rw [List.length_map,lqa],fun k x hx=>?_⟩
          obtain ⟨ts,y1,y2⟩:=okp k x hx
          exact ⟨ts,y1.same s4G,y2⟩
        | 1,hx =>
          cases hx
          refine ⟨lu,us,rfl,sG _ _ h56,hul,fun k x hx=>?_⟩
          obtain ⟨ts,y1,y2⟩:=okq k x hx
          exact ⟨ts,y1.same sG,y2⟩
      refine ⟨_,rfl,_,rfl,_,rfl,_,rfl,lf,fa,fls,W,.ref ls,.ref l,rfl,hF4.same s4G,hFo,hNf,plv G s4G,papv G l vs' hl hvl hvs,fun _ G' sG'=>?_,fun hno=>(hno (good G l vs' s4G hl hvl hvs)).elim⟩
      refine ⟨_,_,rfl,rfl,_,rfl,iteF ?_⟩
      exact ⟨⟨_,rfl⟩,Same.trans sG sG'⟩
    rintro σ G ⟨⟨v6,rfl⟩,sG⟩
    refine hN _ _ ?_
    clear hN N1
    have s4G:=Same.trans s46 sG
    clear h6 sG okq h56 s46 s6 s5 hul
    -- the cells
    refine seq_abs fun N1 hN=>?_
    refine ⟨_,rfl,_,rfl,_,rfl,a,_,rfl,(Same.trans s04 s4G).seq hS,fun lc hlc=>?_⟩
    have ecut:cutV (ns.map V.int) (some 10) (some 40)=(cellsOf 10 40 ns).map V.int:=cells_cut 10 40 ns
    rw [ecut]
    generalize cellsOf 10 40 ns=cs2 at *
    clear ecut
    generalize hG:upd G lc _=G0
    have g0:Same G G0:=by rw [← hG]; exact Same.put (Same.refl _) hlc
    have q0:G0 lc=some (.lst (cs2.map V.int)):=by rw [← hG]; exact upd_same
    clear hG
    have s40:=Same.trans s4G g0
    refine ⟨lc,rfl,⟨_,SqL.of q0⟩,for_list (K:=K) (a:=lc) (xs:=cs2.map V.int) (fun i σ G=>∃ u6 u7 u8 u9 u10 u11,σ=[some (.ref a),some (.ref ln),some (.int W),some (.ref lf),some (.ref ls),some (.ref lp),u6,u7,u8,u9,u10,u11]∧Same G0 G) ⟨_,_,_,_,_,_,rfl,Same.refl _⟩ (fun i σ G _ ⟨_,_,_,_,_,_,_,sG⟩=>SqL.of (sG _ _ q0)) ?_ ?_⟩
    · rintro i v σ G hv ⟨u6,u7,u8,u9,u10,u11,rfl,sG⟩
      obtain ⟨z,rfl,_⟩:=int_at hv
      have s4G:=Same.trans s40 sG
      refine seq_abs fun N1 hN=>?_
      refine ⟨_,rfl,_,8,rfl,by decide,fun lm nm G1 hlm g1 q1 hlen=>?_⟩
      refine hN _ _ ?_
      clear hN N1
      have s41:=Same.trans s4G g1
      have hfin:∀ G',Same G G'→∀ u6 u7 u8 u9 u10 u11,∃ v6 v7 v8 v9 v10 v11,([some (.ref a),some (.ref ln),some (.int W),some (.ref lf),some (.ref ls),some (.ref lp),u6,u7,u8,u9,u10,u11]:St)=[some (.ref a),some (.ref ln),some (.int W),some (.ref lf),some (.ref ls),some (.ref lp),v6,v7,v8,v9,v10,v11]∧Same G0 G':=fun G' sg u6 u7 u8 u9 u10 u11=>⟨u6,u7,u8,u9,u10,u11,rfl,Same.trans sG sg⟩
      clear hv hlm
      -- places
      refine seq_abs fun N1 hN=>?_
      refine ⟨_,rfl,ls,_,rfl,.inl (SqL.of (s41 _ _ hPl.1)),fun l1 hl1=>?_⟩
      generalize hG:upd G1 l1 _=G2
      have g2:Same G1 G2:=by rw [← hG]; exact Same.put (Same.refl _) hl1
      have q2:G2 l1=some (.lst (pa.map V.ref)):=by rw [← hG]; exact upd_same
      clear hG
      refine hN _ _ ?_
      clear hN N1
      have s42:=Same.trans s41 g2
      have hlp2:=s42 _ _ hlp4
      have hPp2:=hPp.same s42
      -- told
      refine seq_abs fun N1 hN=>?_
      refine ⟨_,rfl,lp,rfl,⟨_,SqL.of hlp2⟩,?_⟩
      refine comp_listG (K:=K) (a:=lp) (xs:=qa.map V.ref) (fun D i l H'=>∃ ka:List Addr,l=ka.map V.ref∧ka.length=i∧Same G2 H'∧H' D=some (.lst l)∧G2 D=none∧∀ q ∈ ka,PapL H' q∧q ≠ D) (small (by rw [List.length_map]; omega))
        (fun D hD=>⟨[],rfl,rfl,Same.put (Same.refl _) hD,upd_same,hD,fun q hq=>(by cases hq)⟩) (fun D i l H' ⟨_,_,_,s',_⟩=>SqL.of (s' _ _ hlp2)) (fun D i l H' ⟨ka,e1,e2,_⟩=>by rw [e1,List.length_map,e2]; exact Nat.le_refl _) ?_ ?_
      · intro D j x l H' Q' hx ⟨ka,e1,e2,s',hl',hD,hka⟩ hq
        subst e1
        rw [List.getElem?_map] at hx
        cases f1:qa[j]? with
        | none=>rw [f1] at hx; cases hx
        | some q =>
          rw [f1] at hx
          cases hx
          have hj:j < (allF W fls fls.length).2.length:=by rw [← hPp2.1]; exact get_lt f1
          obtain ⟨ta,g1,g2⟩:=hPp2.2 j q (allF W fls fls.length).2[j] f1 (by simp [hj])
          refine ⟨_,rfl,q,_,rfl,.inl (SqL.of (s' _ _ g1)),fun kq hkq=>?_⟩
          have nkD:D ≠ kq:=ne_of_none hl' hkq
          have s'':Same H' (upd H' kq (.lst (ta.map V.ref))):=Same.put (Same.refl _) hkq
          have htl:(ta.map V.ref).length ≤ 10000:=by
            have:=g2.1
            rw [List.length_map] at this
            have:=sm _ (List.getElem_mem hj)
            rw [List.length_map]
            omega
          refine hq _ _ (s'' _ _ hl') ⟨ka ++ [kq],by rw [List.map_append]; rfl,by rw [List.length_append,e2]; rfl,Same.put (Same.trans s' s'') hD,upd_same,hD,fun y hy=>?_⟩
          rcases List.mem_append.mp hy with y1 | y1
          · exact ⟨((hka y y1).1.same s'').put (s'' _ _ hl') (hka y y1).2,(hka y y1).2⟩
          · rw [List.mem_singleton.mp y1]
            have hkp:PapL (upd H' kq (.lst (ta.map V.ref))) kq:=⟨_,upd_same,htl,fun e he=>(tris_in g2 e he).same (Same.trans s' s'')⟩
            exact ⟨hkp.put (s'' _ _ hl') (Ne.symm nkD),Ne.symm nkD⟩
      rintro D l' G3 ⟨ka,rfl,hkl,g3,q3,hD,hka⟩
      rw [List.length_map] at hkl
      refine hN _ _ ?_
      clear hN N1
      have g13:=Same.trans g2 g3
      have hD1:G1 D=none:=g2.free hD
      have q23:=g3 _ _ q2
      have n1D:l1 ≠ D:=ne_of_none q2 hD
      have hpl3:∀ e ∈ pa.map V.ref,PlE G3 e:=fun e he=>(pls_in hPl.2.1 e he).same (Same.trans s41 g13)
      have hpp3:∀ e ∈ ka.map V.ref,PapE G3 e:=fun e he=>by
        obtain ⟨q,hq,rfl⟩:=List.mem_map.mp he
        exact (hka q hq).1.e
      have lpa':(pa.map V.ref).length ≤ 100:=by rw [List.length_map]; omega
      have lka':(ka.map V.ref).length ≤ 100:=by rw [List.length_map]; omega
      clear hPp2 hlp2 s42
      refine seq_abs fun N1 hN=>?_
      have nx1:∀ (G5:Hp) (es us:List V) (u10:Option V),Same G1 G5→G5 l1=some (.lst es)→es.length ≤ 100→(∀ e ∈ es,PlE G5 e)→G5 D=some (.lst us)→us.length ≤ 100→(∀ e ∈ us,PapE G5 e)→N1 [some (.ref a),some (.ref ln),some (.int W),some (.ref lf),some (.ref ls),some (.ref lp),some (.ref D),some (.int z),some (.ref lm),some (.ref l1),u10,u11] G5:=by
        intro G5 es us u10 g5 q51 hel hes q5D hul hus
        refine hN _ _ ?_
        clear hN N1
        refine seq_abs fun N1 hN=>?_
        have nx2:∀ (G6:Hp) (v:V),Same G1 G6→PlsV G6 v→G6 D=some (.lst us)→(∀ e ∈ us,PapE G6 e)→N1 [some (.ref a),some (.ref ln),some (.int W),some (.ref lf),some (.ref ls),some (.ref lp),some (.ref D),some (.int z),some (.ref lm),some v,u10,u11] G6:=by
          intro G6 v g6 hv6 q6D hus6
          refine hN _ _ ?_
          clear hN N1
          refine seq_abs fun N1 hN=>?_
          have nx3:∀ (G7:Hp) (u:V),Same G1 G7→PlsV G7 v→PapsV G7 u→N1 [some (.ref a),some (.ref ln),some (.int W),some (.ref lf),some (.ref ls),some (.ref lp),some u,some (.int z),some (.ref lm),some v,u10,u11] G7:=by
            intro G7 u g7 hv7 hu7
            refine hN _ _ ?_
            clear hN N1
            have s47:=Same.trans s41 g7
            refine seq_abs fun N1 hN=>?_
            have nx4:∀ (b:Bool) (G8:Hp),Same G7 G8→((b=true∧GoodF W fls G7 v u) ∨ (b=false∧¬ GoodF W fls G7 v u))→N1 [some (.ref a),some (.ref ln),some (.int W),some (.ref lf),some (.ref ls),some (.ref lp),some u,some (.int z),some (.ref lm),some v,u10,some (.bl b)] G8:=by
              intro b G8 g8 hb
              refine hN _ _ ?_
              clear hN N1
              refine ⟨_,rfl,_,"bool",_,_,rfl,TyOf.bl b,kit_bb,_,rfl,iteF ?_⟩
              refine ⟨_,rfl,_,rfl,_,rfl,_,rfl,_,rfl,lf,fa,fls,W,v,u,rfl,hF4.same (Same.trans s47 g8),hFo,hNf,hv7.same g8,hu7.same g8,fun g G9 g9=>?_,fun g G9 g9=>?_⟩
              · rcases hb with ⟨rfl,_⟩ | ⟨rfl,hno⟩
                · exact ⟨rfl,_,rfl,iteC (by rw [decide_eq_true rfl]; rfl) (hfin G9 (Same.trans g1 (Same.trans g7 (Same.trans g8 g9))) _ _ _ _ _ _)⟩
                · exact (hno (g.less g8 hv7 hu7)).elim
              · rcases hb with ⟨rfl,hy⟩ | ⟨rfl,_⟩
                · exact (g (hy.same g8)).elim
                · exact ⟨rfl,_,rfl,iteC (by rw [decide_eq_true rfl]; rfl) (hfin G9 (Same.trans g1 (Same.trans g7 (Same.trans g8 g9))) _ _ _ _ _ _)⟩
            exact ⟨_,rfl,_,rfl,_,rfl,_,rfl,lf,fa,fls,W,v,u,rfl,hF4.same s47,hFo,hNf,hv7,hu7,fun g G8 g8=>nx4 true G8 g8 (.inl ⟨rfl,g⟩),fun g G8 g8=>nx4 false G8 g8 (.inr ⟨rfl,g⟩)⟩
          have q61:=g6 _ _ q1
          refine ⟨_,rfl,lm,_,_,_,rfl,rfl,SqL.of q61,n8 hlen (j:=0) (by decide),_,_,rfl,rfl,⟨by decide,by decide⟩,_,_,rfl,rfl,(by show (0:Int) < 16; decide),rfl,_,rfl,ite2 (fun _=>?_) (fun _=>nx3 G6 (.ref D) g6 hv6 (.inl ⟨D,us,rfl,q6D,by omega,hus6⟩))⟩
          refine ⟨_,rfl,_,rfl,D,_,rfl,SqL.of q6D,fun x1 hx1=>?_⟩
          generalize hG:upd G6 x1 _=J1
          have j1:Same G6 J1:=by rw [← hG]; exact Same.put (Same.refl _) hx1
          have y1:J1 x1=some (.lst (cutV us (some 1) none)):=by rw [← hG]; exact upd_same
          clear hG
          refine ⟨_,rfl,D,_,rfl,.inl ⟨SqL.of (j1 _ _ q6D),fun x2 hx2=>?_⟩⟩
          generalize hG:upd J1 x2 _=J2
          have j2:Same J1 J2:=by rw [← hG]; exact Same.put (Same.refl _) hx2
          have y2:J2 x2=some (.tup us):=by rw [← hG]; exact upd_same
          clear hG
          refine ⟨_,rfl,smallE (by simp),fun x3 hx3=>?_⟩
          generalize hG:upd J2 x3 _=J3
          have j3:Same J2 J3:=by rw [← hG]; exact Same.put (Same.refl _) hx3
          have y3:J3 x3=some (.lst []):=by rw [← hG]; exact upd_same
          clear hG
          refine ⟨smallE (by simp),fun x4 hx4=>?_⟩
          generalize hG:upd J3 x4 _=J4
          have j4:Same J3 J4:=by rw [← hG]; exact Same.put (Same.refl _) hx4
          have y4:J4 x4=some (.lst [.ref x3]):=by rw [← hG]; exact upd_same
          clear hG
          have j04:=Same.trans j1 (Same.trans j2 (Same.trans j3 j4))
          refine ⟨D,x4,_,_,rfl,rfl,j04 _ _ q6D,y4,smallE (by show us.length + 1 ≤ 100000; omega),fun x5 hx5=>?_⟩
          generalize hG:upd J4 x5 _=J5
          have j5:Same J4 J5:=by rw [← hG]; exact Same.put (Same.refl _) hx5
          have y5:J5 x5=some (.lst (us ++ [.ref x3])):=by rw [← hG]; exact upd_same
          clear hG
          refine ⟨(by show 4 ≤ sizeLine; decide),fun x6 hx6=>?_⟩
          generalize hG:upd J5 x6 _=J6
          have j6:Same J5 J6:=by rw [← hG]; exact Same.put (Same.refl _) hx6
          have y6:J6 x6=some (.lst [.ref x1,.ref x2,.non,.ref x5]):=by rw [← hG]; exact upd_same
          clear hG
          have j06:=Same.trans j04 (Same.trans j5 j6)
          obtain ⟨yv,ey,hy⟩:=atN [V.ref x1,.ref x2,.non,.ref x5] (gi nm 2) (Nat.succ_pos _)
          refine ⟨_,rfl,lm,_,_,_,rfl,rfl,SqL.of (j06 _ _ q61),n8 hlen (j:=2) (by decide),_,_,rfl,rfl,(by show (0:Int) < 4; decide),x6,_,_,_,rfl,rfl,SqL.of y6,ey,?_⟩
          have hE:∀ e ∈ us,PapE J6 e:=fun e he=>(hus6 e he).same j06
          refine nx3 J6 yv (Same.trans g6 j06) (hv6.same j06) ?_
          rcases List.mem_cons.mp hy with rfl | hy
          · exact .inl ⟨x1,_,rfl,(Same.trans (Same.trans j2 (Same.trans j3 j4)) (Same.trans j5 j6)) _ _ y1,Nat.le_trans (cutV_length _ _ _) (by omega),fun e he=>hE e (cutV_mem he)⟩
          rcases List.mem_cons.mp hy with rfl | hy
          · exact .inr (.inl ⟨x2,_,rfl,(Same.trans (Same.trans j3 j4) (Same.trans j5 j6)) _ _ y2⟩)
          rcases List.mem_cons.mp hy with rfl | hy
          · exact .inr (.inr rfl)
          rw [List.mem_singleton.mp hy]
          refine .inl ⟨x5,_,rfl,j6 _ _ y5,by rw [List.length_append]; show us.length + 1 ≤ 10000; omega,fun e he=>?_⟩
          rcases List.mem_append.mp he with z | z
          · exact hE e z
          · rw [List.mem_singleton.mp z]
            exact .inl ⟨x3,[],rfl,(Same.trans j4 (Same.trans j5 j6)) _ _ y3,Nat.zero_le _,fun e he=>nomatch he⟩
        have q51':=g5 _ _ q1
        refine ⟨_,rfl,lm,_,_,_,rfl,rfl,SqL.of q51',n8 hlen (j:=0) (by decide),_,_,rfl,rfl,⟨by decide,by decide⟩,_,_,rfl,rfl,(by show (0:Int) < 16; decide),rfl,_,rfl,ite2 (fun _=>?_) (fun _=>nx2 G5 (.ref l1) g5 (.inl ⟨l1,es,rfl,q51,by omega,hes⟩) q5D hus)⟩
        refine ⟨_,rfl,_,rfl,l1,_,rfl,SqL.of q51,fun x1 hx1=>?_⟩
        generalize hG:upd G5 x1 _=J1
        have j1:Same G5 J1:=by rw [← hG]; exact Same.put (Same.refl _) hx1
        have y1:J1 x1=some (.lst (cutV es (some 1) none)):=by rw [← hG]; exact upd_same
        clear hG
        refine ⟨_,rfl,l1,_,rfl,.inl ⟨SqL.of (j1 _ _ q51),fun x2 hx2=>?_⟩⟩
        generalize hG:upd J1 x2 _=J2
        have j2:Same J1 J2:=by rw [← hG]; exact Same.put (Same.refl _) hx2
        have y2:J2 x2=some (.tup es):=by rw [← hG]; exact upd_same
        clear hG
        refine ⟨_,rfl,(by show 5 ≤ sizeLine; decide),fun x3 hx3=>?_⟩
        generalize hG:upd J2 x3 _=J3
        have j3:Same J2 J3:=by rw [← hG]; exact Same.put (Same.refl _) hx3
        have y3:J3 x3=some (.tup [.str "zz",.int 0,.int 0,.int 1,.int 1]):=by rw [← hG]; exact upd_same
        clear hG
        refine ⟨smallE (by simp),fun x4 hx4=>?_⟩
        generalize hG:upd J3 x4 _=J4
        have j4:Same J3 J4:=by rw [← hG]; exact Same.put (Same.refl _) hx4
        have y4:J4 x4=some (.lst [.ref x3]):=by rw [← hG]; exact upd_same
        clear hG
        have j04:=Same.trans j1 (Same.trans j2 (Same.trans j3 j4))
        refine ⟨l1,x4,_,_,rfl,rfl,j04 _ _ q51,y4,smallE (by show es.length + 1 ≤ 100000; omega),fun x5 hx5=>?_⟩
        generalize hG:upd J4 x5 _=J5
        have j5:Same J4 J5:=by rw [← hG]; exact Same.put (Same.refl _) hx5
        have y5:J5 x5=some (.lst (es ++ [.ref x3])):=by rw [← hG]; exact upd_same
        clear hG
        refine ⟨(by show 4 ≤ sizeLine; decide),fun x6 hx6=>?_⟩
        generalize hG:upd J5 x6 _=J6
        have j6:Same J5 J6:=by rw [← hG]; exact Same.put (Same.refl _) hx6
        have y6:J6 x6=some (.lst [.ref x1,.ref x2,.non,.ref x5]):=by rw [← hG]; exact upd_same
        clear hG
        have j06:=Same.trans j04 (Same.trans j5 j6)
        obtain ⟨yv,ey,hy⟩:=atN [V.ref x1,.ref x2,.non,.ref x5] (gi nm 2) (Nat.succ_pos _)
        refine ⟨_,rfl,lm,_,_,_,rfl,rfl,SqL.of (j06 _ _ q51'),n8 hlen (j:=2) (by decide),_,_,rfl,rfl,(by show (0:Int) < 4; decide),x6,_,_,_,rfl,rfl,SqL.of y6,ey,?_⟩
        have hE:∀ e ∈ es,PlE J6 e:=fun e he=>(hes e he).same j06
        refine nx2 J6 yv (Same.trans g5 j06) ?_ (j06 _ _ q5D) fun e he=>(hus e he).same j06
        rcases List.mem_cons.mp hy with rfl | hy
        · exact .inl ⟨x1,_,rfl,(Same.trans (Same.trans j2 (Same.trans j3 j4)) (Same.trans j5 j6)) _ _ y1,Nat.le_trans (cutV_length _ _ _) (by omega),fun e he=>hE e (cutV_mem he)⟩
        rcases List.mem_cons.mp hy with rfl | hy
        · exact .inr (.inl ⟨x2,_,rfl,(Same.trans (Same.trans j3 j4) (Same.trans j5 j6)) _ _ y2⟩)
        rcases List.mem_cons.mp hy with rfl | hy
        · exact .inr (.inr rfl)
        rw [List.mem_singleton.mp hy]
        refine .inl ⟨x5,_,rfl,j6 _ _ y5,by rw [List.length_append]; show es.length + 1 ≤ 10000; omega,fun e he=>?_⟩
        rcases List.mem_append.mp he with z | z
        · exact hE e z
        · rw [List.mem_singleton.mp z]
          exact .inl ⟨x3,"zz",[0,0,1,1],rfl,(Same.trans j4 (Same.trans j5 j6)) _ _ y3⟩
      have s43:=Same.trans s41 g13
      have hF3:=hF4.same s43
      have q13:=g13 _ _ q1
      refine ⟨_,rfl,smallE (by simp),fun l0 hl0=>?_⟩
      generalize hG:upd G3 l0 _=J1
      have j1:Same G3 J1:=by rw [← hG]; exact Same.put (Same.refl _) hl0
      have y1:J1 l0=some (.lst []):=by rw [← hG]; exact upd_same
      clear hG
      refine ⟨lf,l0,_,rfl,rfl,SqL.of (j1 _ _ hF3.1),SqL.of y1,_,rfl,?_⟩
      cases efa:fa with
      | nil =>
        refine iteC rfl ?_
        refine ⟨_,rfl,smallE (by simp),fun l0' hl0'=>?_⟩
        generalize hG:upd J1 l0' _=J2
        have j2:Same J1 J2:=by rw [← hG]; exact Same.put (Same.refl _) hl0'
        have y2:J2 l0'=some (.lst []):=by rw [← hG]; exact upd_same
        clear hG
        have j02:=Same.trans j1 j2
        subst efa
        refine ⟨lf,l0',_,rfl,rfl,SqL.of (j02 _ _ hF3.1),SqL.of y2,_,rfl,iteC rfl ?_⟩
        exact nx1 J2 _ _ _ (Same.trans g13 j02) (j02 _ _ q23) lpa' (fun e he=>(hpl3 e he).same j02) (j02 _ _ q3) lka' (fun e he=>(hpp3 e he).same j02)
      | cons f0 fa0 =>
        refine iteB rfl ?_
        have hl0:0 < fls.length:=by rw [← lfa,efa]; exact Nat.succ_pos _
        obtain ⟨at0,eat,hat⟩:=mod_nat (z:=gi nm 1) (n:=(fa.map V.ref).length) (by rw [List.length_map]; omega)
        have hat':at0 < fls.length:=by rw [List.length_map,lfa] at hat; exact hat
        have hpg:=hPl.get (i:=at0) (by rw [aln.1]; exact hat')
        obtain ⟨ta,hq1,hq2,hq3⟩:=PapsAt.get (i:=at0) hPp (by rw [aln.2]; exact hat')
        refine ⟨_,rfl,lm,_,_,_,rfl,rfl,SqL.of (j1 _ _ q13),n8 hlen (j:=0) (by decide),_,_,rfl,rfl,(by show (0:Int) < 2; decide),rfl,_,rfl,ite2 (fun _=>?_) (fun _=>?_)⟩
        · refine ⟨_,rfl,lm,_,_,_,rfl,rfl,SqL.of (j1 _ _ q13),n8 hlen (j:=1) (by decide),_,rfl,lf,_,rfl,.inl (SqL.of (j1 _ _ hF3.1)),_,_,rfl,rfl,(by rw [List.length_map]; omega),?_⟩
          have eat':gi nm 1 % ((fa.map V.ref).length:Int)=(at0:Int):=eat
          try dsimp only
          rw [eat']
          have s44:=Same.trans s43 j1
          refine ⟨_,rfl,_,rfl,ls,_,_,_,rfl,rfl,SqL.of (s44 _ _ hPl.1),atI_nat (j:=at0) (by rw [List.getElem?_map,hpg.1]; rfl),_,rfl,_,lm,_,nm,rfl,s44 _ _ hpg.2,j1 _ _ q13,hlen,fun v J2 j2 hv=>?_⟩
          have j02:=Same.trans j1 j2
          have q22:=j02 _ _ q23
          refine ⟨_,rfl,_,rfl,l1,_,_,at0,rfl,rfl,q22,ixN_nat rfl (by rw [List.length_map]; omega),?_⟩
          have hmem:V.ref (pa.getD at0 0) ∈ pa.map V.ref:=List.mem_map.mpr ⟨_,List.mem_of_getElem? hpg.1,rfl⟩
          refine nx1 _ _ _ _ (Same.put (Same.trans g13 j02) hl1) upd_same (by rw [List.length_set]; exact lpa') (fun e he=>?_) (by rw [upd_ne (Ne.symm n1D)]; exact j02 _ _ q3) lka' (fun e he=>((hpp3 e he).same j02).put q22 hmem (no_tri5 (Same.trans s43 j02 _ _ hpg.2)))
          rcases set_mem he with rfl | y
          · exact hv.put q22
          · exact ((hpl3 e y).same j02).put q22
        · skip
          refine ⟨_,rfl,smallE (by simp),fun l0' hl0'=>?_⟩
          generalize hG:upd J1 l0' _=J2
          have j2:Same J1 J2:=by rw [← hG]; exact Same.put (Same.refl _) hl0'
          have y2:J2 l0'=some (.lst []):=by rw [← hG]; exact upd_same
          clear hG
          have j02:=Same.trans j1 j2
          refine ⟨lf,l0',_,rfl,rfl,SqL.of (j02 _ _ hF3.1),SqL.of y2,_,rfl,iteB (by rw [efa]; rfl) ?_⟩
          refine ⟨_,rfl,lm,_,_,_,rfl,rfl,SqL.of (j02 _ _ q13),n8 hlen (j:=1) (by decide),_,rfl,lf,_,rfl,.inl (SqL.of (j02 _ _ hF3.1)),_,_,rfl,rfl,(by rw [List.length_map]; omega),?_⟩
          have eat':gi nm 1 % ((fa.map V.ref).length:Int)=(at0:Int):=eat
          try dsimp only
          rw [eat']
          have s44:=Same.trans s43 j02
          refine ⟨_,rfl,smallE (by simp),fun x1 hx1=>?_⟩
          generalize hG:upd J2 x1 _=J3
          have j3:Same J2 J3:=by rw [← hG]; exact Same.put (Same.refl _) hx1
          have y3:J3 x1=some (.lst [.str ""]):=by rw [← hG]; exact upd_same
          clear hG
          have s45:=Same.trans s44 j3
          refine ⟨ln,x1,_,_,rfl,rfl,s45 _ _ h14,y3,smallE (by rw [List.length_map,hnl]; decide),fun x2 hx2=>?_⟩
          have en:nms.map V.str ++ [.str ""]=(nms ++ [("":Str)]).map V.str:=by rw [List.map_append]; rfl
          rw [en]
          generalize hG:upd J3 x2 _=J4
          have j4:Same J3 J4:=by rw [← hG]; exact Same.put (Same.refl _) hx2
          have y4:J4 x2=some (.lst ((nms ++ [("":Str)]).map V.str)):=by rw [← hG]; exact upd_same
          clear hG
          have s46:=Same.trans s45 j4
          have j04:=Same.trans j02 (Same.trans j3 j4)
          refine ⟨_,rfl,_,rfl,lp,_,_,_,rfl,rfl,SqL.of (s46 _ _ hlp4),atI_nat (j:=at0) (by rw [List.getElem?_map,hq1]; rfl),_,rfl,x2,_,lm,nms ++ [("":Str)],ta,_,nm,rfl,y4,(by rw [List.length_append]; exact Nat.succ_pos _),(by rw [List.length_append,hnl]; decide),s46 _ _ hq2,hq3.same s46,?_,j04 _ _ q13,hlen,fun v J5 j5 hv=>?_⟩
          · exact sm _ (by
              rw [List.getD_eq_getElem?_getD,List.getElem?_eq_getElem (by rw [aln.2]; exact hat')]
              exact List.getElem_mem _)
          have j05:=Same.trans j04 j5
          have q35:=j05 _ _ q3
          refine ⟨_,rfl,_,rfl,D,_,_,at0,rfl,rfl,q35,ixN_nat rfl (by rw [List.length_map]; omega),?_⟩
          obtain ⟨kb,hkb⟩:∃ b,b ∈ ka:=⟨ka[at0]'(by omega),List.getElem_mem _⟩
          obtain ⟨⟨kes,hk1,_⟩,_⟩:=hka kb hkb
          have hmem:V.ref kb ∈ ka.map V.ref:=List.mem_map.mpr ⟨_,hkb,rfl⟩
          have hnt:=no_triL (j05 _ _ hk1)
          refine nx1 _ _ _ _ (Same.put (Same.trans g13 j05) hD1) (by rw [upd_ne n1D]; exact j05 _ _ q23) lpa' (fun e he=>((hpl3 e he).same j05).put q35) upd_same (by rw [List.length_set]; exact lka') (fun e he=>?_)
          rcases set_mem he with rfl | y
          · exact hv.put q35 hmem hnt
          · exact ((hpp3 e y).same j05).put q35 hmem hnt
    · rintro σ G ⟨u6,u7,u8,u9,u10,u11,rfl,sG⟩
      refine hN _ _ ?_
      clear hN N1
      have g4:=Same.trans s40 sG
      refine ⟨_,rfl,_,rfl,lf,fa,fls,W,rfl,hF4.same g4,fun f hf=>(hFo f hf).2.1,fun t2 ls2 lp2 pa2 qa2 G2 _ _ _ g2 ht2 hPl2 hlp2 hPp2 _=>?_⟩
      refine ⟨_,rfl,_,rfl,(by show 2 ≤ sizeLine; decide),fun t3 ht3=>?_⟩
      generalize hG:upd G2 t3 _=G3
      have g3:Same G2 G3:=by rw [← hG]; exact Same.put (Same.refl _) ht3
      have q3:G3 t3=some (.tup [.ref ls,.ref lp]):=by rw [← hG]; exact upd_same
      clear hG
      have g43:=Same.trans g4 (Same.trans g2 g3)
      refine ⟨t2,t3,_,_,fun _=>true,rfl,rfl,.inr ⟨SqT.of (g3 _ _ ht2),SqT.of q3⟩,rfl,(fun j x y e1 e2=>?_),k _⟩
      match j,e1,e2 with
      | 0,e1,e2 =>
        cases e1
        cases e2
        exact EqD.lstT (SqL.of (g3 _ _ hPl2.1)) (SqL.of (g43 _ _ hPl.1)) (by rw [List.length_map,List.length_map,hPl2.2.1.1,hPl.2.1.1]) (eqRows (hPl2.2.1.same g3) (hPl.2.1.same g43) flat_pl)
      | 1,e1,e2 =>
        cases e1
        cases e2
        exact EqD.lstT (SqL.of (g3 _ _ hlp2)) (SqL.of (g43 _ _ hlp4)) (by rw [List.length_map,List.length_map,hPp2.1,hPp.1]) (eqPaps (hPp2.same g3) (hPp.same g43))
end
end B69
namespace B69
open PySem L2 S2
theorem us0 {us:List Value} (h:us.length=0):us=[]:=List.eq_nil_of_length_eq_zero h
theorem usS {us:List Value} {n:Nat} (h:us.length=n + 1):∃ a vs,us=a :: vs∧vs.length=n:=by
  cases us with
  | nil=>cases h
  | cons a vs=>exact ⟨a,vs,rfl,Nat.succ.inj h⟩
theorem us1 {us:List Value} (h:us.length=1):∃ a,us=[a]:=by
  obtain ⟨a,vs,rfl,g⟩:=usS h
  exact ⟨a,by rw [us0 g]⟩
theorem us2 {us:List Value} (h:us.length=2):∃ a a1,us=[a,a1]:=by
  obtain ⟨a,vs,rfl,g⟩:=usS h
  obtain ⟨a1,rfl⟩:=us1 g
  exact ⟨a,a1,rfl⟩
theorem us3 {us:List Value} (h:us.length=3):∃ a a1 a2,us=[a,a1,a2]:=by
  obtain ⟨a,vs,rfl,g⟩:=usS h
  obtain ⟨a1,a2,rfl⟩:=us2 g
  exact ⟨a,a1,a2,rfl⟩
theorem us4 {us:List Value} (h:us.length=4):∃ a a1 a2 a3,us=[a,a1,a2,a3]:=by
  obtain ⟨a,vs,rfl,g⟩:=usS h
  obtain ⟨a1,a2,a3,rfl⟩:=us3 g
  exact ⟨a,a1,a2,a3,rfl⟩
theorem us5 {us:List Value} (h:us.length=5):∃ a a1 a2 a3 a4,us=[a,a1,a2,a3,a4]:=by
  obtain ⟨a,vs,rfl,g⟩:=usS h
  obtain ⟨a1,a2,a3,a4,rfl⟩:=us4 g
  exact ⟨a,a1,a2,a3,a4,rfl⟩
theorem us6 {us:List Value} (h:us.length=6):∃ a a1 a2 a3 a4 a5,us=[a,a1,a2,a3,a4,a5]:=by
  obtain ⟨a,vs,rfl,g⟩:=usS h
  obtain ⟨a1,a2,a3,a4,a5,rfl⟩:=us5 g
  exact ⟨a,a1,a2,a3,a4,a5,rfl⟩
set_option maxHeartbeats 8000000 in
theorem all_mk {l:PySem.W.OpenLaw} {w:World} {K:PySem.W.Frag} {h:Heap} {mg:Str→Option Value} {fa   f1 f2 f3 f4 f5 f6 f7 f8 f9 f10 f11 f12 f13 f14 f15 f16 f17 f18 f19 f20 f21 f22 f23 f24 f25 f26 f27 f28 f29 f30 f31 f32 f33 f34 f35:Addr} (X:K.In h) (G:h.Ns mainGlobals mg) (hfa:mg "law"=some (.ref fa))
    {od1 an1 od2 an2 od3 an3 od4 an4 od5 an5 od6 an6 od7 an7 od8 an8 od9 an9 od10 an10 od11 an11 od12 an12 od13 an13 od14 an14 od15 an15 od16 an16 od17 an17 od18 an18 od19 an19 od20 an20 od21 an21 od22 an22 od23 an23 od24 an24 od25 an25 od26 an26 od27 an27 od28 an28 od29 an29 od30 an30 od31 an31 od32 an32 od33 an33 od34 an34 od35 an35:Option Addr} {sl1 sl2 sl3 sl4 sl5 sl6 sl7 sl8 sl9 sl10 sl11 sl12 sl13 sl14 sl15 sl16 sl17 sl18 sl19 sl20 sl21 sl22 sl23 sl24 sl25 sl26 sl27 sl28 sl29 sl30 sl31 sl32 sl33 sl34 sl35:Array (Option Value)} {oc1 kV1 dc1 pm1 cd1 ct1 oc2 kV2 dc2 pm2 cd2 ct2 oc3 kV3 dc3 pm3 cd3 ct3 oc4 kV4 dc4 pm4 cd4 ct4 oc5 kV5 dc5 pm5 cd5 ct5 oc6 kV6 dc6 pm6 cd6 ct6 oc7 kV7 dc7 pm7 cd7 ct7 oc8 kV8 dc8 pm8 cd8 ct8 oc9 kV9 dc9 pm9 cd9 ct9 oc10 kV10 dc10 pm10 cd10 ct10 oc11 kV11 dc11 pm11 cd11 ct11 oc12 kV12 dc12 pm12 cd12 ct12 oc13 kV13 dc13 pm13 cd13 ct13 oc14 kV14 dc14 pm14 cd14 ct14 oc15 kV15 dc15 pm15 cd15 ct15 oc16 kV16 dc16 pm16 cd16 ct16 oc17 kV17 dc17 pm17 cd17 ct17 oc18 kV18 dc18 pm18 cd18 ct18 oc19 kV19 dc19 pm19 cd19 ct19 oc20 kV20 dc20 pm20 cd20 ct20 oc21 kV21 dc21 pm21 cd21 ct21 oc22 kV22 dc22 pm22 cd22 ct22 oc23 kV23 dc23 pm23 cd23 ct23 oc24 kV24 dc24 pm24 cd24 ct24 oc25 kV25 dc25 pm25 cd25 ct25 oc26 kV26 dc26 pm26 cd26 ct26 oc27 kV27 dc27 pm27 cd27 ct27 oc28 kV28 dc28 pm28 cd28 ct28 oc29 kV29 dc29 pm29 cd29 ct29 oc30 kV30 dc30 pm30 cd30 ct30 oc31 kV31 dc31 pm31 cd31 ct31 oc32 kV32 dc32 pm32 cd32 ct32 oc33 kV33 dc33 pm33 cd33 ct33 oc34 kV34 dc34 pm34 cd34 ct34 oc35 kV35 dc35 pm35 cd35 ct35:Value}
    (a1:PySem.W.nsIn K mainGlobals "touches"=some (some (.ref f1))) (l1:K.lookup f1=some ⟨oc1,od1,.func (PySem.W.fnOf "touches" "touches" (defArgs sTou) (defBody sTou) (defScope sTou) .none kV1 dc1 pm1 an1 cd1 ct1),sl1⟩) (c1:PySem.W.codeIn K cd1 "touches"=true) (k1:PySem.W.keepIn K (.ref f1)=true)
    (a2:PySem.W.nsIn K mainGlobals "left_end"=some (some (.ref f2))) (l2:K.lookup f2=some ⟨oc2,od2,.func (PySem.W.fnOf "left_end" "left_end" (defArgs sLEnd) (defBody sLEnd) (defScope sLEnd) .none kV2 dc2 pm2 an2 cd2 ct2),sl2⟩) (c2:PySem.W.codeIn K cd2 "left_end"=true) (k2:PySem.W.keepIn K (.ref f2)=true)
    (a3:PySem.W.nsIn K mainGlobals "right_end"=some (some (.ref f3))) (l3:K.lookup f3=some ⟨oc3,od3,.func (PySem.W.fnOf "right_end" "right_end" (defArgs sREnd) (defBody sREnd) (defScope sREnd) .none kV3 dc3 pm3 an3 cd3 ct3),sl3⟩) (c3:PySem.W.codeIn K cd3 "right_end"=true) (k3:PySem.W.keepIn K (.ref f3)=true)
    (a4:PySem.W.nsIn K mainGlobals "touching"=some (some (.ref f4))) (l4:K.lookup f4=some ⟨oc4,od4,.func (PySem.W.fnOf "touching" "touching" (defArgs sTouching) (defBody sTouching) (defScope sTouching) .none kV4 dc4 pm4 an4 cd4 ct4),sl4⟩) (c4:PySem.W.codeIn K cd4 "touching"=true) (k4:PySem.W.keepIn K (.ref f4)=true)
    (a5:PySem.W.nsIn K mainGlobals "nearest"=some (some (.ref f5))) (l5:K.lookup f5=some ⟨oc5,od5,.func (PySem.W.fnOf "nearest" "nearest" (defArgs sNear) (defBody sNear) (defScope sNear) .none kV5 dc5 pm5 an5 cd5 ct5),sl5⟩) (c5:PySem.W.codeIn K cd5 "nearest"=true) (k5:PySem.W.keepIn K (.ref f5)=true)
    (a6:PySem.W.nsIn K mainGlobals "edges_at"=some (some (.ref f6))) (l6:K.lookup f6=some ⟨oc6,od6,.func (PySem.W.fnOf "edges_at" "edges_at" (defArgs sEdges) (defBody sEdges) (defScope sEdges) .none kV6 dc6 pm6 an6 cd6 ct6),sl6⟩) (c6:PySem.W.codeIn K cd6 "edges_at"=true) (k6:PySem.W.keepIn K (.ref f6)=true)
    (a7:PySem.W.nsIn K mainGlobals "place_across"=some (some (.ref f7))) (l7:K.lookup f7=some ⟨oc7,od7,.func (PySem.W.fnOf "place_across" "place_across" (defArgs sAcross) (defBody sAcross) (defScope sAcross) .none kV7 dc7 pm7 an7 cd7 ct7),sl7⟩) (c7:PySem.W.codeIn K cd7 "place_across"=true) (k7:PySem.W.keepIn K (.ref f7)=true)
    (a8:PySem.W.nsIn K mainGlobals "triple_of"=some (some (.ref f8))) (l8:K.lookup f8=some ⟨oc8,od8,.func (PySem.W.fnOf "triple_of" "triple_of" (defArgs sTriple) (defBody sTriple) (defScope sTriple) .none kV8 dc8 pm8 an8 cd8 ct8),sl8⟩) (c8:PySem.W.codeIn K cd8 "triple_of"=true) (k8:PySem.W.keepIn K (.ref f8)=true)
    (a9:PySem.W.nsIn K mainGlobals "stand_float"=some (some (.ref f9))) (l9:K.lookup f9=some ⟨oc9,od9,.func (PySem.W.fnOf "stand_float" "stand_float" (defArgs sStand) (defBody sStand) (defScope sStand) .none kV9 dc9 pm9 an9 cd9 ct9),sl9⟩) (c9:PySem.W.codeIn K cd9 "stand_float"=true) (k9:PySem.W.keepIn K (.ref f9)=true)
    (a10:PySem.W.nsIn K mainGlobals "stand_floats"=some (some (.ref f10))) (l10:K.lookup f10=some ⟨oc10,od10,.func (PySem.W.fnOf "stand_floats" "stand_floats" (defArgs sStandAll) (defBody sStandAll) (defScope sStandAll) .none kV10 dc10 pm10 an10 cd10 ct10),sl10⟩) (c10:PySem.W.codeIn K cd10 "stand_floats"=true) (k10:PySem.W.keepIn K (.ref f10)=true)
    (a11:PySem.W.nsIn K mainGlobals "_law_cell_at"=some (some (.ref f11))) (l11:K.lookup f11=some ⟨oc11,od11,.func (PySem.W.fnOf "_law_cell_at" "_law_cell_at" (defArgs sCell) (defBody sCell) (defScope sCell) .none kV11 dc11 pm11 an11 cd11 ct11),sl11⟩) (c11:PySem.W.codeIn K cd11 "_law_cell_at"=true) (k11:PySem.W.keepIn K (.ref f11)=true)
    (a12:PySem.W.nsIn K mainGlobals "_law_numbers"=some (some (.ref f12))) (l12:K.lookup f12=some ⟨oc12,od12,.func (PySem.W.fnOf "_law_numbers" "_law_numbers" (defArgs sNumbers) (defBody sNumbers) (defScope sNumbers) .none kV12 dc12 pm12 an12 cd12 ct12),sl12⟩) (c12:PySem.W.codeIn K cd12 "_law_numbers"=true) (k12:PySem.W.keepIn K (.ref f12)=true)
    (a13:PySem.W.nsIn K mainGlobals "_law_names"=some (some (.ref f13))) (l13:K.lookup f13=some ⟨oc13,od13,.func (PySem.W.fnOf "_law_names" "_law_names" (defArgs sLNames) (defBody sLNames) (defScope sLNames) .none kV13 dc13 pm13 an13 cd13 ct13),sl13⟩) (c13:PySem.W.codeIn K cd13 "_law_names"=true) (k13:PySem.W.keepIn K (.ref f13)=true)
    (a14:PySem.W.nsIn K mainGlobals "is_whole"=some (some (.ref f14))) (l14:K.lookup f14=some ⟨oc14,od14,.func (PySem.W.fnOf "is_whole" "is_whole" (defArgs sWhole) (defBody sWhole) (defScope sWhole) .none kV14 dc14 pm14 an14 cd14 ct14),sl14⟩) (c14:PySem.W.codeIn K cd14 "is_whole"=true) (k14:PySem.W.keepIn K (.ref f14)=true)
    (a15:PySem.W.nsIn K mainGlobals "is_tuple_of"=some (some (.ref f15))) (l15:K.lookup f15=some ⟨oc15,od15,.func (PySem.W.fnOf "is_tuple_of" "is_tuple_of" (defArgs sTupOf) (defBody sTupOf) (defScope sTupOf) .none kV15 dc15 pm15 an15 cd15 ct15),sl15⟩) (c15:PySem.W.codeIn K cd15 "is_tuple_of"=true) (k15:PySem.W.keepIn K (.ref f15)=true)
    (a16:PySem.W.nsIn K mainGlobals "is_list_of"=some (some (.ref f16))) (l16:K.lookup f16=some ⟨oc16,od16,.func (PySem.W.fnOf "is_list_of" "is_list_of" (defArgs sLstOf) (defBody sLstOf) (defScope sLstOf) .none kV16 dc16 pm16 an16 cd16 ct16),sl16⟩) (c16:PySem.W.codeIn K cd16 "is_list_of"=true) (k16:PySem.W.keepIn K (.ref f16)=true)
    (a17:PySem.W.nsIn K mainGlobals "is_placed"=some (some (.ref f17))) (l17:K.lookup f17=some ⟨oc17,od17,.func (PySem.W.fnOf "is_placed" "is_placed" (defArgs sPlaced) (defBody sPlaced) (defScope sPlaced) .none kV17 dc17 pm17 an17 cd17 ct17),sl17⟩) (c17:PySem.W.codeIn K cd17 "is_placed"=true) (k17:PySem.W.keepIn K (.ref f17)=true)
    (a18:PySem.W.nsIn K mainGlobals "is_triple"=some (some (.ref f18))) (l18:K.lookup f18=some ⟨oc18,od18,.func (PySem.W.fnOf "is_triple" "is_triple" (defArgs sIsTri) (defBody sIsTri) (defScope sIsTri) .none kV18 dc18 pm18 an18 cd18 ct18),sl18⟩) (c18:PySem.W.codeIn K cd18 "is_triple"=true) (k18:PySem.W.keepIn K (.ref f18)=true)
    (a19:PySem.W.nsIn K mainGlobals "is_paper"=some (some (.ref f19))) (l19:K.lookup f19=some ⟨oc19,od19,.func (PySem.W.fnOf "is_paper" "is_paper" (defArgs sPaper) (defBody sPaper) (defScope sPaper) .none kV19 dc19 pm19 an19 cd19 ct19),sl19⟩) (c19:PySem.W.codeIn K cd19 "is_paper"=true) (k19:PySem.W.keepIn K (.ref f19)=true)
    (a20:PySem.W.nsIn K mainGlobals "in_the_way"=some (some (.ref f20))) (l20:K.lookup f20=some ⟨oc20,od20,.func (PySem.W.fnOf "in_the_way" "in_the_way" (defArgs sWay) (defBody sWay) (defScope sWay) .none kV20 dc20 pm20 an20 cd20 ct20),sl20⟩) (c20:PySem.W.codeIn K cd20 "in_the_way"=true) (k20:PySem.W.keepIn K (.ref f20)=true)
    (a21:PySem.W.nsIn K mainGlobals "can_not_stand"=some (some (.ref f21))) (l21:K.lookup f21=some ⟨oc21,od21,.func (PySem.W.fnOf "can_not_stand" "can_not_stand" (defArgs sCant) (defBody sCant) (defScope sCant) .none kV21 dc21 pm21 an21 cd21 ct21),sl21⟩) (c21:PySem.W.codeIn K cd21 "can_not_stand"=true) (k21:PySem.W.keepIn K (.ref f21)=true)
    (a22:PySem.W.nsIn K mainGlobals "stands"=some (some (.ref f22))) (l22:K.lookup f22=some ⟨oc22,od22,.func (PySem.W.fnOf "stands" "stands" (defArgs sStands) (defBody sStands) (defScope sStands) .none kV22 dc22 pm22 an22 cd22 ct22),sl22⟩) (c22:PySem.W.codeIn K cd22 "stands"=true) (k22:PySem.W.keepIn K (.ref f22)=true)
    (a23:PySem.W.nsIn K mainGlobals "stood"=some (some (.ref f23))) (l23:K.lookup f23=some ⟨oc23,od23,.func (PySem.W.fnOf "stood" "stood" (defArgs sStood) (defBody sStood) (defScope sStood) .none kV23 dc23 pm23 an23 cd23 ct23),sl23⟩) (c23:PySem.W.codeIn K cd23 "stood"=true) (k23:PySem.W.keepIn K (.ref f23)=true)
    (a24:PySem.W.nsIn K mainGlobals "_law_edges"=some (some (.ref f24))) (l24:K.lookup f24=some ⟨oc24,od24,.func (PySem.W.fnOf "_law_edges" "_law_edges" (defArgs sLEdges) (defBody sLEdges) (defScope sLEdges) .none kV24 dc24 pm24 an24 cd24 ct24),sl24⟩) (c24:PySem.W.codeIn K cd24 "_law_edges"=true) (k24:PySem.W.keepIn K (.ref f24)=true)
    (a25:PySem.W.nsIn K mainGlobals "_law_floats"=some (some (.ref f25))) (l25:K.lookup f25=some ⟨oc25,od25,.func (PySem.W.fnOf "_law_floats" "_law_floats" (defArgs sLFloats) (defBody sLFloats) (defScope sLFloats) .none kV25 dc25 pm25 an25 cd25 ct25),sl25⟩) (c25:PySem.W.codeIn K cd25 "_law_floats"=true) (k25:PySem.W.keepIn K (.ref f25)=true)
    (a26:PySem.W.nsIn K mainGlobals "_law_whole"=some (some (.ref f26))) (l26:K.lookup f26=some ⟨oc26,od26,.func (PySem.W.fnOf "_law_whole" "_law_whole" (defArgs sLWhole) (defBody sLWhole) (defScope sLWhole) .none kV26 dc26 pm26 an26 cd26 ct26),sl26⟩) (c26:PySem.W.codeIn K cd26 "_law_whole"=true) (k26:PySem.W.keepIn K (.ref f26)=true)
    (a27:PySem.W.nsIn K mainGlobals "_law_stands"=some (some (.ref f27))) (l27:K.lookup f27=some ⟨oc27,od27,.func (PySem.W.fnOf "_law_stands" "_law_stands" (defArgs sLStands) (defBody sLStands) (defScope sLStands) .none kV27 dc27 pm27 an27 cd27 ct27),sl27⟩) (c27:PySem.W.codeIn K cd27 "_law_stands"=true) (k27:PySem.W.keepIn K (.ref f27)=true)
    (a28:PySem.W.nsIn K mainGlobals "_law_touch"=some (some (.ref f28))) (l28:K.lookup f28=some ⟨oc28,od28,.func (PySem.W.fnOf "_law_touch" "_law_touch" (defArgs sLTouch) (defBody sLTouch) (defScope sLTouch) .none kV28 dc28 pm28 an28 cd28 ct28),sl28⟩) (c28:PySem.W.codeIn K cd28 "_law_touch"=true) (k28:PySem.W.keepIn K (.ref f28)=true)
    (a29:PySem.W.nsIn K mainGlobals "_law_bars"=some (some (.ref f29))) (l29:K.lookup f29=some ⟨oc29,od29,.func (PySem.W.fnOf "_law_bars" "_law_bars" (defArgs sLBars) (defBody sLBars) (defScope sLBars) .none kV29 dc29 pm29 an29 cd29 ct29),sl29⟩) (c29:PySem.W.codeIn K cd29 "_law_bars"=true) (k29:PySem.W.keepIn K (.ref f29)=true)
    (a30:PySem.W.nsIn K mainGlobals "_law_shows"=some (some (.ref f30))) (l30:K.lookup f30=some ⟨oc30,od30,.func (PySem.W.fnOf "_law_shows" "_law_shows" (defArgs sLShows) (defBody sLShows) (defScope sLShows) .none kV30 dc30 pm30 an30 cd30 ct30),sl30⟩) (c30:PySem.W.codeIn K cd30 "_law_shows"=true) (k30:PySem.W.keepIn K (.ref f30)=true)
    (a31:PySem.W.nsIn K mainGlobals "_law_due"=some (some (.ref f31))) (l31:K.lookup f31=some ⟨oc31,od31,.func (PySem.W.fnOf "_law_due" "_law_due" (defArgs sLDue) (defBody sLDue) (defScope sLDue) .none kV31 dc31 pm31 an31 cd31 ct31),sl31⟩) (c31:PySem.W.codeIn K cd31 "_law_due"=true) (k31:PySem.W.keepIn K (.ref f31)=true)
    (a32:PySem.W.nsIn K mainGlobals "_law_place"=some (some (.ref f32))) (l32:K.lookup f32=some ⟨oc32,od32,.func (PySem.W.fnOf "_law_place" "_law_place" (defArgs sLPlace) (defBody sLPlace) (defScope sLPlace) .none kV32 dc32 pm32 an32 cd32 ct32),sl32⟩) (c32:PySem.W.codeIn K cd32 "_law_place"=true) (k32:PySem.W.keepIn K (.ref f32)=true)
    (a33:PySem.W.nsIn K mainGlobals "_law_paper"=some (some (.ref f33))) (l33:K.lookup f33=some ⟨oc33,od33,.func (PySem.W.fnOf "_law_paper" "_law_paper" (defArgs sLPaper) (defBody sLPaper) (defScope sLPaper) .none kV33 dc33 pm33 an33 cd33 ct33),sl33⟩) (c33:PySem.W.codeIn K cd33 "_law_paper"=true) (k33:PySem.W.keepIn K (.ref f33)=true)
    (a34:PySem.W.nsIn K mainGlobals "_law_cut"=some (some (.ref f34))) (l34:K.lookup f34=some ⟨oc34,od34,.func (PySem.W.fnOf "_law_cut" "_law_cut" (defArgs sLCut) (defBody sLCut) (defScope sLCut) .none kV34 dc34 pm34 an34 cd34 ct34),sl34⟩) (c34:PySem.W.codeIn K cd34 "_law_cut"=true) (k34:PySem.W.keepIn K (.ref f34)=true)
    (a35:PySem.W.nsIn K mainGlobals "law"=some (some (.ref f35))) (l35:K.lookup f35=some ⟨oc35,od35,.func (PySem.W.fnOf "law" "law" (defArgs sLaw) (defBody sLaw) (defScope sLaw) .none kV35 dc35 pm35 an35 cd35 ct35),sl35⟩) (c35:PySem.W.codeIn K cd35 "law"=true) (k35:PySem.W.keepIn K (.ref f35)=true)
    (z0:PySem.W.nsIn K mainGlobals "len"=some none) (z1:PySem.W.nsIn K mainGlobals "max"=some none) (z2:PySem.W.nsIn K mainGlobals "min"=some none) (z3:PySem.W.nsIn K mainGlobals "zip"=some none) (z4:PySem.W.nsIn K mainGlobals "list"=some none) (z5:PySem.W.nsIn K mainGlobals "tuple"=some none) (z6:PySem.W.nsIn K mainGlobals "int"=some none) (z7:PySem.W.nsIn K mainGlobals "isinstance"=some none) (z8:PySem.W.nsIn K mainGlobals "enumerate"=some none) (z9:PySem.W.nsIn K mainGlobals "range"=some none) (z10:PySem.W.nsIn K mainGlobals "all"=some none) (z11:PySem.W.nsIn K mainGlobals "str"=some none) (z12:PySem.W.nsIn K mainGlobals "bool"=some none) :
    ∃ fd:FuncData,(∀ (s:Shared) (v:Value),BindsTo s fd ⟨[v],[]⟩ [("_law_script",v)])∧∀ base:Heap,K.In base→base.Ns mainGlobals mg→FnOk l.prog w K mg base CX0 7 fa fd ["_law_script"] (spLaw K):=by
  have e:=hfa.symm.trans (PySem.W.mg_of X G a35)
  cases e
  have N:Names mg:=⟨PySem.W.mg_none_of X G z0,PySem.W.mg_none_of X G z1,PySem.W.mg_none_of X G z2,PySem.W.mg_none_of X G z3,PySem.W.mg_none_of X G z4,PySem.W.mg_none_of X G z5,PySem.W.mg_none_of X G z6,PySem.W.mg_none_of X G z7,PySem.W.mg_none_of X G z8,PySem.W.mg_none_of X G z9,PySem.W.mg_none_of X G z10,PySem.W.mg_none_of X G z11,PySem.W.mg_none_of X G z12⟩
  have F1:=fun_mk (st:=sTou) l1 c1 k1
  have b1:=F1.binds (ps:=["placed","row","high"]) fun _ _ _ _ _ _ us hl=>by obtain ⟨u0,u1,u2,rfl⟩:=us3 hl; rfl
  have m1:=PySem.W.mg_of X G a1
  have F2:=fun_mk (st:=sLEnd) l2 c2 k2
  have b2:=F2.binds (ps:=["placed"]) fun _ _ _ _ _ _ us hl=>by obtain ⟨u0,rfl⟩:=us1 hl; rfl
  have m2:=PySem.W.mg_of X G a2
  have F3:=fun_mk (st:=sREnd) l3 c3 k3
  have b3:=F3.binds (ps:=["placed"]) fun _ _ _ _ _ _ us hl=>by obtain ⟨u0,rfl⟩:=us1 hl; rfl
  have m3:=PySem.W.mg_of X G a3
  have F4:=fun_mk (st:=sTouching) l4 c4 k4
  have b4:=F4.binds (ps:=["floats","standing","side","row","high"]) fun _ _ _ _ _ _ us hl=>by obtain ⟨u0,u1,u2,u3,u4,rfl⟩:=us5 hl; rfl
  have m4:=PySem.W.mg_of X G a4
  have F5:=fun_mk (st:=sNear) l5 c5 k5
  have b5:=F5.binds (ps:=["floats","standing","row","high"]) fun _ _ _ _ _ _ us hl=>by obtain ⟨u0,u1,u2,u3,rfl⟩:=us4 hl; rfl
  have m5:=PySem.W.mg_of X G a5
  have F6:=fun_mk (st:=sEdges) l6 c6 k6
  have b6:=F6.binds (ps:=["W","floats","standing","row","high"]) fun _ _ _ _ _ _ us hl=>by obtain ⟨u0,u1,u2,u3,u4,rfl⟩:=us5 hl; rfl
  have m6:=PySem.W.mg_of X G a6
  have F7:=fun_mk (st:=sAcross) l7 c7 k7
  have b7:=F7.binds (ps:=["side","wide","edges"]) fun _ _ _ _ _ _ us hl=>by obtain ⟨u0,u1,u2,rfl⟩:=us3 hl; rfl
  have m7:=PySem.W.mg_of X G a7
  have F8:=fun_mk (st:=sTriple) l8 c8 k8
  have b8:=F8.binds (ps:=["near"]) fun _ _ _ _ _ _ us hl=>by obtain ⟨u0,rfl⟩:=us1 hl; rfl
  have m8:=PySem.W.mg_of X G a8
  have F9:=fun_mk (st:=sStand) l9 c9 k9
  have b9:=F9.binds (ps:=["W","floats","standing","row"]) fun _ _ _ _ _ _ us hl=>by obtain ⟨u0,u1,u2,u3,rfl⟩:=us4 hl; rfl
  have m9:=PySem.W.mg_of X G a9
  have F10:=fun_mk (st:=sStandAll) l10 c10 k10
  have b10:=F10.binds (ps:=["W","floats"]) fun _ _ _ _ _ _ us hl=>by obtain ⟨u0,u1,rfl⟩:=us2 hl; rfl
  have m10:=PySem.W.mg_of X G a10
  have F11:=fun_mk (st:=sCell) l11 c11 k11
  have b11:=F11.binds (ps:=["_law_script","_law_k"]) fun _ _ _ _ _ _ us hl=>by obtain ⟨u0,u1,rfl⟩:=us2 hl; rfl
  have m11:=PySem.W.mg_of X G a11
  have F12:=fun_mk (st:=sNumbers) l12 c12 k12
  have b12:=F12.binds (ps:=["_law_cell","_law_many"]) fun _ _ _ _ _ _ us hl=>by obtain ⟨u0,u1,rfl⟩:=us2 hl; rfl
  have m12:=PySem.W.mg_of X G a12
  have F13:=fun_mk (st:=sLNames) l13 c13 k13
  have b13:=F13.binds (ps:=["_law_cell","_law_many"]) fun _ _ _ _ _ _ us hl=>by obtain ⟨u0,u1,rfl⟩:=us2 hl; rfl
  have m13:=PySem.W.mg_of X G a13
  have F14:=fun_mk (st:=sWhole) l14 c14 k14
  have b14:=F14.binds (ps:=["thing"]) fun _ _ _ _ _ _ us hl=>by obtain ⟨u0,rfl⟩:=us1 hl; rfl
  have m14:=PySem.W.mg_of X G a14
  have F15:=fun_mk (st:=sTupOf) l15 c15 k15
  have b15:=F15.binds (ps:=["thing","many"]) fun _ _ _ _ _ _ us hl=>by obtain ⟨u0,u1,rfl⟩:=us2 hl; rfl
  have m15:=PySem.W.mg_of X G a15
  have F16:=fun_mk (st:=sLstOf) l16 c16 k16
  have b16:=F16.binds (ps:=["thing","many"]) fun _ _ _ _ _ _ us hl=>by obtain ⟨u0,u1,rfl⟩:=us2 hl; rfl
  have m16:=PySem.W.mg_of X G a16
  have F17:=fun_mk (st:=sPlaced) l17 c17 k17
  have b17:=F17.binds (ps:=["thing","name","wide","high"]) fun _ _ _ _ _ _ us hl=>by obtain ⟨u0,u1,u2,u3,rfl⟩:=us4 hl; rfl
  have m17:=PySem.W.mg_of X G a17
  have F18:=fun_mk (st:=sIsTri) l18 c18 k18
  have b18:=F18.binds (ps:=["thing"]) fun _ _ _ _ _ _ us hl=>by obtain ⟨u0,rfl⟩:=us1 hl; rfl
  have m18:=PySem.W.mg_of X G a18
  have F19:=fun_mk (st:=sPaper) l19 c19 k19
  have b19:=F19.binds (ps:=["thing"]) fun _ _ _ _ _ _ us hl=>by obtain ⟨u0,rfl⟩:=us1 hl; rfl
  have m19:=PySem.W.mg_of X G a19
  have F20:=fun_mk (st:=sWay) l20 c20 k20
  have b20:=F20.binds (ps:=["floats","standing","side","rows","high"]) fun _ _ _ _ _ _ us hl=>by obtain ⟨u0,u1,u2,u3,u4,rfl⟩:=us5 hl; rfl
  have m20:=PySem.W.mg_of X G a20
  have F21:=fun_mk (st:=sCant) l21 c21 k21
  have b21:=F21.binds (ps:=["W","floats","standing","rows","names"]) fun _ _ _ _ _ _ us hl=>by obtain ⟨u0,u1,u2,u3,u4,rfl⟩:=us5 hl; rfl
  have m21:=PySem.W.mg_of X G a21
  have F22:=fun_mk (st:=sStands) l22 c22 k22
  have b22:=F22.binds (ps:=["W","floats","standing","row","placed","paper"]) fun _ _ _ _ _ _ us hl=>by obtain ⟨u0,u1,u2,u3,u4,u5,rfl⟩:=us6 hl; rfl
  have m22:=PySem.W.mg_of X G a22
  have F23:=fun_mk (st:=sStood) l23 c23 k23
  have b23:=F23.binds (ps:=["W","floats","standing","papers"]) fun _ _ _ _ _ _ us hl=>by obtain ⟨u0,u1,u2,u3,rfl⟩:=us4 hl; rfl
  have m23:=PySem.W.mg_of X G a23
  have F24:=fun_mk (st:=sLEdges) l24 c24 k24
  have b24:=F24.binds (ps:=["_law_wide","_law_ahead","_law_row","_law_high"]) fun _ _ _ _ _ _ us hl=>by obtain ⟨u0,u1,u2,u3,rfl⟩:=us4 hl; rfl
  have m24:=PySem.W.mg_of X G a24
  have F25:=fun_mk (st:=sLFloats) l25 c25 k25
  have b25:=F25.binds (ps:=["_law_names_here","_law_cells"]) fun _ _ _ _ _ _ us hl=>by obtain ⟨u0,u1,rfl⟩:=us2 hl; rfl
  have m25:=PySem.W.mg_of X G a25
  have F26:=fun_mk (st:=sLWhole) l26 c26 k26
  have b26:=F26.binds (ps:=["_law_thing"]) fun _ _ _ _ _ _ us hl=>by obtain ⟨u0,rfl⟩:=us1 hl; rfl
  have m26:=PySem.W.mg_of X G a26
  have F27:=fun_mk (st:=sLStands) l27 c27 k27
  have b27:=F27.binds (ps:=["_law_wide","_law_ahead","_law_row","_law_one","_law_thing"]) fun _ _ _ _ _ _ us hl=>by obtain ⟨u0,u1,u2,u3,u4,rfl⟩:=us5 hl; rfl
  have m27:=PySem.W.mg_of X G a27
  have F28:=fun_mk (st:=sLTouch) l28 c28 k28
  have b28:=F28.binds (ps:=["_law_thing","_law_row","_law_high"]) fun _ _ _ _ _ _ us hl=>by obtain ⟨u0,u1,u2,rfl⟩:=us3 hl; rfl
  have m28:=PySem.W.mg_of X G a28
  have F29:=fun_mk (st:=sLBars) l29 c29 k29
  have b29:=F29.binds (ps:=["_law_wide","_law_ahead","_law_row","_law_one","_law_name","_law_side"]) fun _ _ _ _ _ _ us hl=>by obtain ⟨u0,u1,u2,u3,u4,u5,rfl⟩:=us6 hl; rfl
  have m29:=PySem.W.mg_of X G a29
  have F30:=fun_mk (st:=sLShows) l30 c30 k30
  have b30:=F30.binds (ps:=["_law_wide","_law_ahead","_law_paper_here","_law_row","_law_one","_law_thing"]) fun _ _ _ _ _ _ us hl=>by obtain ⟨u0,u1,u2,u3,u4,u5,rfl⟩:=us6 hl; rfl
  have m30:=PySem.W.mg_of X G a30
  have F31:=fun_mk (st:=sLDue) l31 c31 k31
  have b31:=F31.binds (ps:=["_law_wide","_law_floats_here","_law_standing","_law_papers"]) fun _ _ _ _ _ _ us hl=>by obtain ⟨u0,u1,u2,u3,rfl⟩:=us4 hl; rfl
  have m31:=PySem.W.mg_of X G a31
  have F32:=fun_mk (st:=sLPlace) l32 c32 k32
  have b32:=F32.binds (ps:=["_law_thing","_law_some"]) fun _ _ _ _ _ _ us hl=>by obtain ⟨u0,u1,rfl⟩:=us2 hl; rfl
  have m32:=PySem.W.mg_of X G a32
  have F33:=fun_mk (st:=sLPaper) l33 c33 k33
  have b33:=F33.binds (ps:=["_law_names_here","_law_paper_here","_law_some"]) fun _ _ _ _ _ _ us hl=>by obtain ⟨u0,u1,u2,rfl⟩:=us3 hl; rfl
  have m33:=PySem.W.mg_of X G a33
  have F34:=fun_mk (st:=sLCut) l34 c34 k34
  have b34:=F34.binds (ps:=["_law_standing","_law_papers"]) fun _ _ _ _ _ _ us hl=>by obtain ⟨u0,u1,rfl⟩:=us2 hl; rfl
  have m34:=PySem.W.mg_of X G a34
  have F35:=fun_mk (st:=sLaw) l35 c35 k35
  refine ⟨PySem.W.fnOf "law" "law" (defArgs sLaw) (defBody sLaw) (defScope sLaw) .none kV35 dc35 pm35 an35 cd35 ct35,fun s v=>.of_eq rfl,fun base _ _=>?_⟩
  have G_1:=ok_tou (P:=l.prog) (w:=w) (mg:=mg) (base:=base) F1 N
  have G_2:=ok_lend (P:=l.prog) (w:=w) (mg:=mg) (base:=base) F2
  have G_3:=ok_rend (P:=l.prog) (w:=w) (mg:=mg) (base:=base) F3
  have G_4:=ok_touching (P:=l.prog) (w:=w) (mg:=mg) (base:=base) F4 N G_1 b1 m1 k1
  have G_5:=ok_near (P:=l.prog) (w:=w) (mg:=mg) (base:=base) F5 N G_4 b4 m4 k4 G_3 b3 m3 G_2 b2 m2
  have G_6:=ok_edges (P:=l.prog) (w:=w) (mg:=mg) (base:=base) F6 G_5 b5 m5 k5 G_3 b3 m3 k3 G_2 b2 m2 k2
  have G_7:=ok_across (P:=l.prog) (w:=w) (mg:=mg) (base:=base) F7
  have G_8:=ok_triple (P:=l.prog) (w:=w) (mg:=mg) (base:=base) F8 N
  have G_9:=ok_stand (P:=l.prog) (w:=w) (mg:=mg) (base:=base) F9 N G_6 b6 m6 k6 G_5 b5 m5 k5 G_8 b8 m8 k8 G_7 b7 m7 k7
  have G_10:=ok_standAll (P:=l.prog) (w:=w) (mg:=mg) (base:=base) F10 N G_9 b9 m9 k9
  have G_11:=ok_cell (P:=l.prog) (w:=w) (mg:=mg) (base:=base) F11 N
  have G_12:=ok_numbers (P:=l.prog) (w:=w) (mg:=mg) (base:=base) F12 N
  have G_13:=ok_lnames (P:=l.prog) (w:=w) (mg:=mg) (base:=base) F13 N G_12 b12 m12 k12
  have G_20:=ok_way (P:=l.prog) (w:=w) (mg:=mg) (base:=base) F20 N G_4 b4 m4 k4 G_1 b1 m1 k1
  have G_21:=ok_cant (P:=l.prog) (w:=w) (mg:=mg) (base:=base) F21 N G_20 b20 m20 k20 G_3 b3 m3 k3 G_2 b2 m2 k2
  have G_22:=ok_stands (P:=l.prog) (w:=w) (mg:=mg) (base:=base) F22 N G_21 b21 m21 k21 G_6 b6 m6 k6 G_7 b7 m7 k7
  have G_14:=ok_wholeG (P:=l.prog) (w:=w) (mg:=mg) (base:=base) F14 N
  have G_15:=ok_tupG (P:=l.prog) (w:=w) (mg:=mg) (base:=base) F15 N
  have G_16:=ok_lstG (P:=l.prog) (w:=w) (mg:=mg) (base:=base) F16 N
  have G_17:=ok_placedG (P:=l.prog) (w:=w) (mg:=mg) (base:=base) F17 N G_15 b15 m15 k15 G_14 b14 m14 k14
  have G_18:=ok_isTriG (P:=l.prog) (w:=w) (mg:=mg) (base:=base) F18 N G_15 b15 m15 k15 G_14 b14 m14 k14
  have G_19:=ok_paperG (P:=l.prog) (w:=w) (mg:=mg) (base:=base) F19 N G_18 b18 m18 k18
  have G_23:=ok_stoodG (P:=l.prog) (w:=w) (mg:=mg) (base:=base) F23 N G_16 b16 m16 k16 G_17 b17 m17 k17 G_19 b19 m19 k19 G_22 b22 m22 k22
  have G_24:=ok_lEdges (P:=l.prog) (w:=w) (mg:=mg) (base:=base) F24 N
  have G_25:=ok_lFloats (P:=l.prog) (w:=w) (mg:=mg) (base:=base) F25 N G_12 b12 m12 k12
  have G_26:=ok_lWhole (P:=l.prog) (w:=w) (mg:=mg) (base:=base) F26 N
  have G_27:=ok_lStands (P:=l.prog) (w:=w) (mg:=mg) (base:=base) F27 N G_26 b26 m26 k26 G_24 b24 m24 k24
  have G_28:=ok_ltouch (P:=l.prog) (w:=w) (mg:=mg) (base:=base) F28
  have G_29:=ok_lBars (P:=l.prog) (w:=w) (mg:=mg) (base:=base) F29 N G_28 b28 m28 k28
  have G_30:=ok_lShows (P:=l.prog) (w:=w) (mg:=mg) (base:=base) F30 N G_26 b26 m26 k26 G_29 b29 m29 k29
  have G_31:=ok_lDue (P:=l.prog) (w:=w) (mg:=mg) (base:=base) F31 N G_27 b27 m27 k27 G_30 b30 m30 k30
  have G_32:=ok_lPlace (P:=l.prog) (w:=w) (mg:=mg) (base:=base) F32 N
  have G_33:=ok_lPaper (P:=l.prog) (w:=w) (mg:=mg) (base:=base) F33 N
  have G_34:=ok_lCut (P:=l.prog) (w:=w) (mg:=mg) (base:=base) F34 N
  exact ok_law (P:=l.prog) (w:=w) (mg:=mg) (base:=base) F35 N G_11 b11 m11 k11 G_13 b13 m13 k13 G_25 b25 m25 k25 G_10 b10 m10 k10 G_34 b34 m34 k34 G_23 b23 m23 k23 G_12 b12 m12 k12 G_32 b32 m32 k32 G_33 b33 m33 k33 G_31 b31 m31 k31
theorem walk {l:PySem.W.OpenLaw} {q:Program} {loose:List Str} {XP:(Str→Option Value)→Heap→Prop} {YP:World→Heap→Prop} {d:DefRec} {K:Params→PySem.W.Frag} (hn:l.most=some 63) (hdf:d.params.defaults=[])
    (hY:∀ (w:World) (h:Heap),YP w h→(K w.params).In h)
    (F:∀ (w:World) (mg:Str→Option Value) (fa:Addr) (h:Heap),(K w.params).In h→h.Ns mainGlobals mg→mg d.name=some (.ref fa) →
      ∃ fd:FuncData,(∀ (s:Shared) (u:Value),BindsTo s fd ⟨[u],[]⟩ [("_law_script",u)])∧∀ base:Heap,(K w.params).In base→base.Ns mainGlobals mg→FnOk l.prog w (K w.params) mg base CX0 7 fa fd ["_law_script"] (spLaw (K w.params))) :
    PySem.W.WalkO q loose XP YP l.row.toRowW d [] (fun f vs=>PySem.call f vs) :=
  L2.walk_of (n:=63) (k:=7) (x:="_law_script") (CX:=fun _=>CX0) (sp:=fun w=>spLaw (K w.params)) hn (by decide) hdf ⟨rfl,by decide,by decide⟩ hY F (fun _ _ a ns hl _ hS=>⟨a,ns,rfl,hS,hl,fun _=>rfl⟩) fun _ _ _ _ _ z=>z
end B69
namespace PySem.W.Fast
theorem tw11223214063891954870:True:=trivial
theorem tw14654873017606513246:True:=trivial
theorem tw13523306459406889627:True:=trivial
theorem tw13258329549398343896:True:=trivial
theorem tw10914873072379971586:True:=trivial
theorem tw15308389042337607768:True:=trivial
theorem tw5240033391061583683:True:=trivial
theorem tw15515662865584769042:True:=trivial
theorem tw11069111186186518875:True:=trivial
theorem tw4195091434448876251:True:=trivial
theorem tw3972427953427531394:True:=trivial
theorem tw8061429841735320792:True:=trivial
theorem tw24213689502187852:True:=trivial
theorem tw9998441791968177784:True:=trivial
theorem tw7656374182560242531:True:=trivial
theorem tw9728072184175118583:True:=trivial
theorem tw16765032620159923104:True:=trivial
theorem tw1895273099584105924:True:=trivial
theorem tw15459956358814675262:True:=trivial
theorem tw4425513105740577501:True:=trivial
theorem tw14653314793563795926:True:=trivial
theorem tw16708624619994726807:True:=trivial
theorem tw13982746454249998763:True:=trivial
theorem tw416825186605767750:True:=trivial
theorem tw5742416749674146474:True:=trivial
theorem tw17919363687664186264:True:=trivial
theorem tw8510651454917271893:True:=trivial
theorem tw17751350066796097198:True:=trivial
theorem tw6475045058932576383:True:=trivial
theorem tw10052388881535226241:True:=trivial
theorem tw12495768165067189837:True:=trivial
theorem tw14700420654984195209:True:=trivial
theorem tw17325191748480185091:True:=trivial
theorem tw11139042612170183476:True:=trivial
theorem tw737652800841874533:True:=trivial
theorem tw2949947371327271461:True:=trivial
theorem tw1748318183636364491:True:=trivial
theorem tw8925482751670429183:True:=trivial
theorem tw3311427485155793379:True:=trivial
theorem tw4861077966233478970:True:=trivial
theorem tw16336563959938797211:True:=trivial
theorem tw6719894493895455573:True:=trivial
theorem tw8232022113427432186:True:=trivial
theorem tw10344623727253509505:True:=trivial
theorem tw17440575837714711447:True:=trivial
theorem tw3647935227910363598:True:=trivial
theorem tw6401115409285751668:True:=trivial
theorem tw9518118771932471942:True:=trivial
theorem tw17033707695826474259:True:=trivial
theorem tw6465456145182069553:True:=trivial
theorem tw11442838845611360981:True:=trivial
theorem tw12994271998645784593:True:=trivial
theorem tw1226623116818108970:True:=trivial
theorem tw3936867835449967971:True:=trivial
theorem tw3645601163615437693:True:=trivial
theorem tw9752996392181876077:True:=trivial
theorem tw2525960125514449970:True:=trivial
theorem tw4061324992609118430:True:=trivial
theorem tw5934747524472915352:True:=trivial
theorem tw11984482266527328836:True:=trivial
theorem tw14723010577694971325:True:=trivial
theorem tw10605440434528885240:True:=trivial
theorem tw13283730431114227448:True:=trivial
theorem tw18335279370574226925:True:=trivial
theorem tw11154291323138442188:True:=trivial
theorem tw2174648431429909016:True:=trivial
theorem tw6016115881210126482:True:=trivial
theorem tw16717578353226086885:True:=trivial
theorem tw775546814288191505:True:=trivial
theorem tw4485762780265757815:True:=trivial
theorem tw14998271285303816762:True:=trivial
theorem tw18388277746116353198:True:=trivial
theorem tw11394423739487485520:True:=trivial
theorem tw3929287384904902947:True:=trivial
theorem tw2805929574261480238:True:=trivial
theorem tw460508765046482359:True:=trivial
theorem tw15660013285994088668:True:=trivial
theorem tw567619345805973392:True:=trivial
theorem tw13868041005096497041:True:=trivial
theorem tw1428005027257087749:True:=trivial
theorem tw10292418801206240568:True:=trivial
theorem tw9614635177846696550:True:=trivial
theorem tw13526055695530952000:True:=trivial
theorem tw16220996280768231521:True:=trivial
theorem tw12409445489696082172:True:=trivial
theorem tw3054289885576524648:True:=trivial
theorem tw6592991351792442451:True:=trivial
theorem tw10805783000247984765:True:=trivial
theorem tw8867577729767260414:True:=trivial
theorem tw188898167478427714:True:=trivial
theorem tw9949003093621845498:True:=trivial
theorem tw8181949131223609600:True:=trivial
theorem tw8557138416107123208:True:=trivial
theorem tw227460348630630320:True:=trivial
theorem tw17714735971086380814:True:=trivial
theorem tw10691062801673714905:True:=trivial
theorem tw9949251268663822819:True:=trivial
theorem tw14676818416391857428:True:=trivial
theorem tw12512860661849807842:True:=trivial
theorem tw2688205117999056493:True:=trivial
theorem tw6739373115946767661:True:=trivial
theorem tw17060408344939663960:True:=trivial
theorem tw4264666207187469817:True:=trivial
theorem tw1150272754259419446:True:=trivial
theorem tw1261843793596483892:True:=trivial
theorem tw8859133498837921992:True:=trivial
theorem tw3276602452664532219:True:=trivial
theorem tw489263828184816269:True:=trivial
theorem tw11737859900271890441:True:=trivial
theorem tw11103570660777327988:True:=trivial
theorem tw11902592022797582583:True:=trivial
theorem tw16583443994192736317:True:=trivial
theorem tw1595624551398896678:True:=trivial
theorem tw17428443564618047529:True:=trivial
theorem tw12598185926589709970:True:=trivial
theorem tw2736930406643625593:True:=trivial
theorem tw12729915939508088362:True:=trivial
theorem tw9633304755575557886:True:=trivial
theorem tw1454979787762795654:True:=trivial
theorem tw12429329615057048218:True:=trivial
theorem tw6658639671311092955:True:=trivial
theorem tw14442011015326865273:True:=trivial
theorem tw12174414845282114475:True:=trivial
theorem tw1955216213182798027:True:=trivial
theorem tw17940164590112066525:True:=trivial
theorem tw4174677559106775347:True:=trivial
theorem tw1435336720632074640:True:=trivial
theorem tw5592096065750583869:True:=trivial
theorem tw3036778768576803541:True:=trivial
theorem tw18119504584425431253:True:=trivial
theorem tw9775556512389042860:True:=trivial
theorem tw17157398315852449034:True:=trivial
theorem tw15972064140942819258:True:=trivial
theorem tw9755400615471796508:True:=trivial
theorem tw13235824822284314699:True:=trivial
theorem tw9929235124855911810:True:=trivial
theorem tw14078499600860147011:True:=trivial
theorem tw10523414535464334968:True:=trivial
theorem tw17068534824414936970:True:=trivial
theorem tw1370752746323609150:True:=trivial
theorem tw8369344718580934580:True:=trivial
theorem tw13595392841072718678:True:=trivial
theorem tw5348205935567762859:True:=trivial
theorem tw17652269340127099381:True:=trivial
theorem tw12625494144871706874:True:=trivial
theorem tw6976729068566099419:True:=trivial
theorem tw8333226773711948239:True:=trivial
theorem tw1183612920484526881:True:=trivial
theorem tw531229174780352073:True:=trivial
theorem tw2444599956291791433:True:=trivial
theorem tw11085952770656201817:True:=trivial
theorem tw13528024223311074314:True:=trivial
theorem tw7538839752032650970:True:=trivial
theorem tw4240061680379174112:True:=trivial
theorem tw16183179253883596811:True:=trivial
theorem tw970061461253999147:True:=trivial
theorem tw13185379710553655166:True:=trivial
theorem tw16923334688378204291:True:=trivial
theorem tw5059783890268259492:True:=trivial
theorem tw2958095679029177747:True:=trivial
theorem tw1678821920946269236:True:=trivial
theorem tw7308906325012686376:True:=trivial
theorem tw63828884949793526:True:=trivial
theorem tw3609191158441331111:True:=trivial
theorem tw12346263363150631281:True:=trivial
theorem tw514239847787639478:True:=trivial
theorem tw16077679693830129056:True:=trivial
theorem tw4624535948804056428:True:=trivial
theorem tw137765221695068887:True:=trivial
theorem tw18137598862970701706:True:=trivial
theorem tw7478686536051121236:True:=trivial
theorem tw13579391263180991219:True:=trivial
theorem tw18207503017805296575:True:=trivial
theorem tw11842688661555628080:True:=trivial
theorem tw14276863625237568784:True:=trivial
theorem tw13812291731150845819:True:=trivial
theorem tw2570027880986289020:True:=trivial
theorem tw10470308441897843879:True:=trivial
theorem tw3110306278850198702:True:=trivial
theorem tw9189077463063384898:True:=trivial
theorem tw2771337418614055502:True:=trivial
theorem tw15745520787419703876:True:=trivial
theorem tw18195107876748844604:True:=trivial
theorem tw12473197937212242984:True:=trivial
theorem tw2660490395532941922:True:=trivial
theorem tw16783477213152060139:True:=trivial
theorem tw1481186829156053431:True:=trivial
theorem tw9124872184926011446:True:=trivial
theorem tw3377003638352884903:True:=trivial
theorem tw1089524846722466539:True:=trivial
theorem tw1222122088534773839:True:=trivial
theorem tw5263255745114945789:True:=trivial
theorem tw11464245967275716587:True:=trivial
theorem tw5164310341416096838:True:=trivial
theorem tw6917794902115305682:True:=trivial
theorem tw13852984173634345636:True:=trivial
theorem tw14469510716989728215:True:=trivial
theorem tw16520069934925510384:True:=trivial
theorem tw17976720329658939211:True:=trivial
theorem tw11603851515011075792:True:=trivial
theorem tw1654046873061453802:True:=trivial
theorem tw1698189432491727699:True:=trivial
theorem tw4477098463240111633:True:=trivial
theorem tw2759586515141622091:True:=trivial
theorem tw4305797115193381913:True:=trivial
theorem tw8700060630339881354:True:=trivial
theorem tw16539271717209843138:True:=trivial
theorem tw7142835641011125104:True:=trivial
theorem tw3967357632675527573:True:=trivial
theorem tw3963561050617843343:True:=trivial
theorem tw5436035549829816692:True:=trivial
theorem tw17785219711256595389:True:=trivial
theorem tw13234830470648747519:True:=trivial
theorem tw16263713903476578995:True:=trivial
theorem tw6747498751346183646:True:=trivial
theorem tw8404237967284738697:True:=trivial
theorem tw8511197343332768712:True:=trivial
theorem tw9042412446331757389:True:=trivial
theorem tw4609710322585752492:True:=trivial
theorem tw12680962268261076329:True:=trivial
theorem tw9863029077139942:True:=trivial
theorem tw15234256836059151110:True:=trivial
theorem tw1207885404642886059:True:=trivial
theorem tw1989663385084355069:True:=trivial
theorem tw2335176025134549425:True:=trivial
theorem tw15348047406198715267:True:=trivial
theorem tw9356627668694018896:True:=trivial
theorem tw1600070387226998194:True:=trivial
theorem tw12836432764384768233:True:=trivial
theorem tw7456607670983396226:True:=trivial
theorem tw3714058201197012172:True:=trivial
theorem tw14618910667450550382:True:=trivial
theorem tw15623827882766620664:True:=trivial
theorem tw3119730118280459076:True:=trivial
theorem tw17205651196575509068:True:=trivial
theorem tw3907661289211266646:True:=trivial
theorem tw9210025576677009090:True:=trivial
theorem tw8079376393485471738:True:=trivial
theorem tw5386147104376889746:True:=trivial
theorem tw15657232531786961314:True:=trivial
theorem tw2858797457645251947:True:=trivial
theorem tw17740968649310834309:True:=trivial
theorem tw16066058668335433862:True:=trivial
theorem tw16616455859620980106:True:=trivial
theorem tw8023595828343344757:True:=trivial
theorem tw2344282789425101529:True:=trivial
theorem tw15260308940744970055:True:=trivial
theorem tw8009762796388229725:True:=trivial
theorem tw371249037410998945:True:=trivial
theorem tw13096702105519227711:True:=trivial
end PySem.W.Fast
open PySem PySem.W PyProof.Rows
set_option maxRecDepth 100000 in
set_option maxHeartbeats 0 in
theorem PySem.Challenge.cw_boxgalley_k69_what_the_checker_lets_by_holds : PySem.Challenge.rw_boxgalley_k69_what_the_checker_lets_by.Holds := by
  w_on; o_law; k_head; (case hw=>w_witness2)
  k_fill
  refine B69.walk (l:=PySem.Challenge.rw_boxgalley_k69_what_the_checker_lets_by) rfl rfl (fun w h Y=>PySem.W.kIn_of Y) ?F
  case F =>
    intro w mg fa h KX G hmg
    refine' B69.all_mk KX G hmg ?a1 ?l1 ?c1 ?k1 ?a2 ?l2 ?c2 ?k2 ?a3 ?l3 ?c3 ?k3 ?a4 ?l4 ?c4 ?k4 ?a5 ?l5 ?c5 ?k5 ?a6 ?l6 ?c6 ?k6 ?a7 ?l7 ?c7 ?k7 ?a8 ?l8 ?c8 ?k8 ?a9 ?l9 ?c9 ?k9 ?a10 ?l10 ?c10 ?k10 ?a11 ?l11 ?c11 ?k11 ?a12 ?l12 ?c12 ?k12 ?a13 ?l13 ?c13 ?k13 ?a14 ?l14 ?c14 ?k14 ?a15 ?l15 ?c15 ?k15 ?a16 ?l16 ?c16 ?k16 ?a17 ?l17 ?c17 ?k17 ?a18 ?l18 ?c18 ?k18 ?a19 ?l19 ?c19 ?k19 ?a20 ?l20 ?c20 ?k20 ?a21 ?l21 ?c21 ?k21 ?a22 ?l22 ?c22 ?k22 ?a23 ?l23 ?c23 ?k23 ?a24 ?l24 ?c24 ?k24 ?a25 ?l25 ?c25 ?k25 ?a26 ?l26 ?c26 ?k26 ?a27 ?l27 ?c27 ?k27 ?a28 ?l28 ?c28 ?k28 ?a29 ?l29 ?c29 ?k29 ?a30 ?l30 ?c30 ?k30 ?a31 ?l31 ?c31 ?k31 ?a32 ?l32 ?c32 ?k32 ?a33 ?l33 ?c33 ?k33 ?a34 ?l34 ?c34 ?k34 ?a35 ?l35 ?c35 ?k35 ?z0 ?z1 ?z2 ?z3 ?z4 ?z5 ?z6 ?z7 ?z8 ?z9 ?z10 ?z11 ?z12
    (case a1=>k_is); (case l1=>k_is); (case c1=>k_is); (case k1=>k_is); (case a2=>k_is); (case l2=>k_is)
    (case c2=>k_is); (case k2=>k_is); (case a3=>k_is); (case l3=>k_is); (case c3=>k_is); (case k3=>k_is)
    (case a4=>k_is); (case l4=>k_is); (case c4=>k_is); (case k4=>k_is); (case a5=>k_is); (case l5=>k_is)
    (case c5=>k_is); (case k5=>k_is); (case a6=>k_is); (case l6=>k_is); (case c6=>k_is); (case k6=>k_is)
    (case a7=>k_is); (case l7=>k_is); (case c7=>k_is); (case k7=>k_is); (case a8=>k_is); (case l8=>k_is)
    (case c8=>k_is); (case k8=>k_is); (case a9=>k_is); (case l9=>k_is); (case c9=>k_is); (case k9=>k_is)
    (case a10=>k_is); (case l10=>k_is); (case c10=>k_is); (case k10=>k_is); (case a11=>k_is); (case l11=>k_is)
    (case c11=>k_is); (case k11=>k_is); (case a12=>k_is); (case l12=>k_is); (case c12=>k_is); (case k12=>k_is)
    (case a13=>k_is); (case l13=>k_is); (case c13=>k_is); (case k13=>k_is); (case a14=>k_is); (case l14=>k_is)
    (case c14=>k_is); (case k14=>k_is); (case a15=>k_is); (case l15=>k_is); (case c15=>k_is); (case k15=>k_is)
    (case a16=>k_is); (case l16=>k_is); (case c16=>k_is); (case k16=>k_is); (case a17=>k_is); (case l17=>k_is)
    (case c17=>k_is); (case k17=>k_is); (case a18=>k_is); (case l18=>k_is); (case c18=>k_is); (case k18=>k_is)
    (case a19=>k_is); (case l19=>k_is); (case c19=>k_is); (case k19=>k_is); (case a20=>k_is); (case l20=>k_is)
    (case c20=>k_is); (case k20=>k_is); (case a21=>k_is); (case l21=>k_is); (case c21=>k_is); (case k21=>k_is)
    (case a22=>k_is); (case l22=>k_is); (case c22=>k_is); (case k22=>k_is); (case a23=>k_is); (case l23=>k_is)
    (case c23=>k_is); (case k23=>k_is); (case a24=>k_is); (case l24=>k_is); (case c24=>k_is); (case k24=>k_is)
    (case a25=>k_is); (case l25=>k_is); (case c25=>k_is); (case k25=>k_is); (case a26=>k_is); (case l26=>k_is)
    (case c26=>k_is); (case k26=>k_is); (case a27=>k_is); (case l27=>k_is); (case c27=>k_is); (case k27=>k_is)
    (case a28=>k_is); (case l28=>k_is); (case c28=>k_is); (case k28=>k_is); (case a29=>k_is); (case l29=>k_is)
    (case c29=>k_is); (case k29=>k_is); (case a30=>k_is); (case l30=>k_is); (case c30=>k_is); (case k30=>k_is)
    (case a31=>k_is); (case l31=>k_is); (case c31=>k_is); (case k31=>k_is); (case a32=>k_is); (case l32=>k_is)
    (case c32=>k_is); (case k32=>k_is); (case a33=>k_is); (case l33=>k_is); (case c33=>k_is); (case k33=>k_is)
    (case a34=>k_is); (case l34=>k_is); (case c34=>k_is); (case k34=>k_is); (case a35=>k_is); (case l35=>k_is)
    (case c35=>k_is); (case k35=>k_is); (case z0=>k_is); (case z1=>k_is); (case z2=>k_is); (case z3=>k_is)
    (case z4=>k_is); (case z5=>k_is); (case z6=>k_is); (case z7=>k_is); (case z8=>k_is); (case z9=>k_is)
    (case z10=>k_is); (case z11=>k_is); (case z12=>k_is)
