import PyProof.Rows.All
import Wide.All
import OpenK.AllK
import Wide.FinOn
import Lean
import PyProof.EqAt
import PyProof.EqKinds
import PyProof.TupleCall
import PyProof.MinMaxWalk
import PyProof.NeKinds
import PyProof.Rows.ZipGen
import KE.KMinKey
import PyProof.StrWalks
import PyProof.FString5
import PyProof.Rows.StrJoin2
import KE.KDictSum
import PyProof.DictItems
import KE.KEqDict
import KE.KSortTup
import KE.KLam
import KE.KNestM
import PyProof.DictWalks
import PyProof.PassesOwn
import PyProof.StationsW
import PyProof.ExcClass3
import OpenK.KMake
import PyProof.InstStoreFacts
import PyProof.ExcAttrAll.ValueError
import OpenK.KDescr
import OpenK.KOwn
import KE.KIsAll
import PyProof.NsDelKeeps
import KE.KRevIter
import PyProof.ListNew
import PyProof.DictTruth
import PyProof.Rows.SortStr
import PyProof.Rows.SortWalk
import PyProof.StrOps2
import PySem.Challenge.RW_boxgalley_k06_what_is_a_tree
set_option Elab.async false
set_option linter.all false
set_option maxRecDepth 100000
namespace L2
open PySem PySem.Spec PyProof.Rows
abbrev Key:=Sum Int Str
def keyIs:Key→Value→Bool
  | .inl k,v=>Value.isInt k v
  | .inr x,v=>Value.isStrOf x v
def keyH (w:World):Key→Int
  | .inl k=>hashInt k
  | .inr x=>hashStr w x
theorem keyIs_shape:∀ {k:Key} {v:Value},keyIs k v=true→(∃ i t,k=Sum.inl i∧v=Value.int i t) ∨ (∃ x t,k=Sum.inr x∧v=Value.str x t)
  | .inl i,v,h=>by
    obtain ⟨t,e⟩:=Value.isInt_shape (k:=i) (v:=v) h
    exact .inl ⟨i,t,rfl,e⟩
  | .inr x,v,h=>by
    obtain ⟨t,e⟩:=Value.isStrOf_shape (x:=x) (v:=v) h
    exact .inr ⟨x,t,rfl,e⟩
theorem keyIs_int (i:Int) (t:Tok):keyIs (.inl i) (.int i t)=true:=by simp [keyIs,Value.isInt]
theorem keyIs_str (x:Str) (t:Tok):keyIs (.inr x) (.str x t)=true:=by simp [keyIs,Value.isStrOf]
theorem key_ll (a b:Int):decide ((Sum.inl a:Key)=Sum.inl b)=(a == b):=by
  by_cases e:a=b
  · subst e; simp
  · have h:¬ (Sum.inl a:Key)=Sum.inl b:=fun q=>e (Sum.inl.inj q)
    rw [decide_eq_false h]
    exact (beq_eq_false_iff_ne.mpr e).symm
theorem key_rr (a b:Str):decide ((Sum.inr a:Key)=Sum.inr b)=decide (a=b):=by
  by_cases e:a=b
  · subst e; simp
  · have h:¬ (Sum.inr a:Key)=Sum.inr b:=fun q=>e (Sum.inr.inj q)
    rw [decide_eq_false h,decide_eq_false e]
theorem key_lr (a:Int) (b:Str):decide ((Sum.inl a:Key)=Sum.inr b)=false:=decide_eq_false (fun q=>nomatch q)
theorem key_rl (a:Str) (b:Int):decide ((Sum.inr a:Key)=Sum.inl b)=false:=decide_eq_false (fun q=>nomatch q)
def mixKind (prog:Program) (w:World):PySem.KeyKind prog w Key where
  is:=keyIs
  hash:=keyH w
  inj:=fun v a b ha hb=>by
    rcases keyIs_shape ha with ⟨i,t,rfl,rfl⟩ | ⟨x,t,rfl,rfl⟩
    · rcases keyIs_shape hb with ⟨j,u,rfl,e⟩ | ⟨y,u,rfl,e⟩
      · injection e with e1 _; rw [e1]
      · exact nomatch e
    · rcases keyIs_shape hb with ⟨j,u,rfl,e⟩ | ⟨y,u,rfl,e⟩
      · exact nomatch e
      · injection e with e1 _; rw [e1]
  byValue:=fun k v h=>by
    rcases keyIs_shape h with ⟨i,t,rfl,rfl⟩ | ⟨x,t,rfl,rfl⟩ <;> rfl
  pyHash:=fun hv h=>by
    rcases keyIs_shape hv with ⟨i,t,rfl,rfl⟩ | ⟨x,t,rfl,rfl⟩
    · exact wpAny_pyHash_int h
    · exact wpAny_pyHash_str h
  eqBool:=fun hu hv h=>by
    rcases keyIs_shape hu with ⟨i,t,rfl,rfl⟩ | ⟨x,t,rfl,rfl⟩
    · rcases keyIs_shape hv with ⟨j,u,rfl,rfl⟩ | ⟨y,u,rfl,rfl⟩
      · rw [key_ll] at h; exact wpAny_eqBool_int h
      · rw [key_lr] at h; exact SeqAt.EqAt.int_str i t y u _ _ _ _ h
    · rcases keyIs_shape hv with ⟨j,u,rfl,rfl⟩ | ⟨y,u,rfl,rfl⟩
      · rw [key_rl] at h; exact SeqAt.EqAt.str_int x t j u _ _ _ _ h
      · rw [key_rr] at h; exact wpAny_eqBool_str h
  «strs»:=fun k x t v h=>by
    rcases keyIs_shape h with ⟨i,u,rfl,e⟩ | ⟨y,u,rfl,e⟩
    · exact nomatch e
    · injection e with e1 _
      subst e1
      cases v <;> rfl
theorem mixKind_int (prog:Program) (w:World) (i:Int) (t:Tok):(mixKind prog w).is (.inl i) (.int i t)=true:=keyIs_int i t
theorem mixKind_str (prog:Program) (w:World) (x:Str) (t:Tok):(mixKind prog w).is (.inr x) (.str x t)=true:=keyIs_str x t
end L2
namespace L2
open PySem PySem.Spec PyProof.Rows
inductive V where
  | non | bl (b:Bool) | int (i:Int) | str (x:Str) | byt (b:Array UInt8) | flt (b:UInt64) | ref (a:Addr) | ty (n:String)
  deriving DecidableEq
def RelV:V→Value→Prop
  | .non,u=>u=Value.none
  | .bl b,u=>u=Value.bool b
  | .int i,u=>∃ t,u=Value.int i t
  | .str x,u=>∃ t,u=Value.str x t
  | .byt b,u=>∃ t,u=Value.bytes b t
  | .flt b,u=>∃ t,u=Value.float b t
  | .ref a,u=>u=Value.ref a
  | .ty n,u=>u=Value.type n
abbrev Vals:List V→List Value→Prop:=Paired RelV
theorem Vals.length {xs:List V} {us:List Value} (r:Vals xs us):xs.length=us.length:=Paired.length r
theorem Vals.get:∀ {xs:List V} {us:List Value} {i:Nat} {x:V},Vals xs us→xs[i]?=some x→∃ u,us[i]?=some u∧RelV x u
  | _,_,_,_,.nil,e=>by simp at e
  | _,_,0,_,.cons r _,e=>by simp at e; subst e; exact ⟨_,rfl,r⟩
  | _,_,i + 1,x,.cons _ t,e=>by
    obtain ⟨u,h1,h2⟩:=Vals.get (i:=i) (x:=x) t (by simpa using e)
    exact ⟨u,by simpa using h1,h2⟩
theorem Vals.append:∀ {xs ys:List V} {us ws:List Value},Vals xs us→Vals ys ws→Vals (xs ++ ys) (us ++ ws)
  | _,_,_,_,.nil,s=>s
  | _,_,_,_,.cons r t,s=>.cons r (Vals.append t s)
theorem Vals.take:∀ {xs:List V} {us:List Value} (n:Nat),Vals xs us→Vals (xs.take n) (us.take n)
  | _,_,0,_=>.nil
  | _,_,_ + 1,.nil=>.nil
  | _,_,n + 1,.cons r t=>.cons r (Vals.take n t)
theorem Vals.drop:∀ {xs:List V} {us:List Value} (n:Nat),Vals xs us→Vals (xs.drop n) (us.drop n)
  | _,_,0,r=>r
  | _,_,_ + 1,.nil=>.nil
  | _,_,n + 1,.cons _ t=>Vals.drop n t
def RelO:Option V→Option Value→Prop
  | some v,some u=>RelV v u
  | none,none=>True
  | _,_=>False
def KV {κ:Type}:List (κ × V)→List (κ × Value)→Prop:=Paired fun (p:κ × V) (q:κ × Value)=>p.1=q.1∧RelV p.2 q.2
def kV:Key→V
  | .inl i=>.int i
  | .inr x=>.str x
inductive HO where
    | lst (xs:List V)
    | tup (xs:List V)
    | dK (kvs:List (Key × V)) | dT (kvs:List (List Key × V))
    | set (S:Int→Bool) (n:Nat)
    | ins (C dx:Addr) (fs:List (Str × V))
    | own (x:Addr)
    | xd (fs:List (Str × V))
    | met (f x:Addr)
    | rng (lo hi:Int)
    | frz (o:Obj) (u:HO)
    | tbl (ps:Array Value)
    | ext (φ:Heap→Prop)
abbrev Hp:=Addr→Option HO
def upd (H:Hp) (a:Addr) (o:HO):Hp:=fun b=>if b=a then some o else H b
theorem upd_same {H:Hp} {a:Addr} {o:HO}:upd H a o a=some o:=by unfold upd; rw [if_pos rfl]
theorem upd_ne {H:Hp} {a b:Addr} {o:HO} (h:b ≠ a):upd H a o b=H b:=by unfold upd; rw [if_neg h]
theorem ne_of {H:Hp} {a b:Addr} {o u:HO} (h:H a=some o) (h':H b=some u) (d:o ≠ u):a ≠ b:=by
  intro e; subst e; rw [h] at h'; exact d (Option.some.inj h')
theorem ne_of_none {H:Hp} {a b:Addr} {o:HO} (h:H a=some o) (h':H b=none):a ≠ b:=by
  intro e; subst e; rw [h] at h'; cases h'
section
variable (P:Program) (w:World)
def ObjOk (H:Hp) (h:Heap) (a:Addr):HO→Prop
  | .lst xs=>xs.length ≤ sizeLine∧∃ (its:List Value) (n:Nat),Vals xs its∧h.get? a=some { cls:=.type "list",data:=.seq its.toArray n }
  | .tup xs=>xs.length ≤ sizeLine∧∃ its:List Value,Vals xs its∧IsTup h a its.toArray
  | .dK kvs=>kvs.length ≤ sizeLine∧(a == sysModules)=false∧∃ vs,KV kvs vs∧h.DictOf (mixKind P w) a vs
  | .dT kvs=>kvs.length ≤ sizeLine∧(a == sysModules)=false∧∃ xs:List (List Key × Addr × Value),
      Paired (fun (p:List Key × V) (q:List Key × Addr × Value)=>p.1=q.1∧H q.2.1=some (.tup (p.1.map kV))∧RelV p.2 q.2.2) kvs xs ∧
      ∃ o es ep,h.get? a=some o∧o.ExactDict∧o.data=.dict es ep∧es.toList=xs.map (entryOfKey (tupleKind (mixKind P w)))∧(xs.map (·.1)).Nodup
  | .set S n=>h.SetOf (intKind P w) a S n
  | .ins C dx fs=>H dx=some (.own a)∧fs.length ≤ 1000∧dx ≠ a∧h.get? a=some (PySem.W.instObj C dx) ∧
      ∃ mA,h.Ns1 dx mA∧(∀ f,RelO (fs.lookup f) (mA f))∧PySem.Within mA (fs.map (·.1))
  | .own _=>∃ o,h.get? a=some o
  | .xd fs=>∃ mA,h.Ns1 a mA∧∀ f,RelO (fs.lookup f) (mA f)
  | .rng lo hi=>∃ t u v,h.get? a=some { cls:=.type "range",data:=.fields #[.int lo t,.int hi u,.int 1 v] }
  | .frz o u=>h.get? a=some o∧ObjOk H h a u
  | .tbl ps=>h.get? a=some { cls:=.none,data:=.fields ps }
  | .met f x=>h.get? a=some (PySem.W.methodObj (.ref f) (.ref x))
  | .ext φ=>φ h∧(∃ o,h.get? a=some o)∧∀ h1 h2:Heap,φ h1→(∀ o,h1.get? a=some o→h2.get? a=some o)→φ h2
def HOk (H:Hp) (h:Heap):Prop:=∀ a o,H a=some o→ObjOk P w H h a o
end
section
variable {P:Program} {w:World} {H H':Hp} {h h':Heap} {a:Addr} {o:HO}
theorem ObjOk.lt (x:ObjOk P w H h a o):a < h.objs.size:=by
  cases o with
  | lst xs=>obtain ⟨_,_,_,_,e⟩:=x; exact Heap.lt_size e
  | tup xs=>obtain ⟨_,_,_,p⟩:=x; exact p.lt
  | dK kvs=>obtain ⟨_,_,_,_,o,_,_,e,_⟩:=x; exact Heap.lt_size e
  | dT kvs=>obtain ⟨_,_,_,_,o,_,_,e,_⟩:=x; exact Heap.lt_size e
  | set S n=>obtain ⟨o,_,_,_,e,_⟩:=x; exact Heap.lt_size e
  | ins C dx fs=>obtain ⟨_,_,_,e,_⟩:=x; exact Heap.lt_size e
  | own y=>obtain ⟨_,e⟩:=x; exact Heap.lt_size e
  | xd fs=>obtain ⟨_,⟨_,_,_,e,_⟩,_⟩:=x; exact Heap.lt_size e
  | rng lo hi=>obtain ⟨_,_,_,e⟩:=x; exact Heap.lt_size e
  | frz ob u=>obtain ⟨e,_⟩:=x; exact Heap.lt_size e
  | tbl ps=>exact Heap.lt_size (show h.get? a=some _ from x)
  | met f y=>exact Heap.lt_size (show h.get? a=some _ from x)
  | ext φ=>obtain ⟨_,⟨_,e⟩,_⟩:=x; exact Heap.lt_size e
theorem Paired.mapP {α β:Type} {F G:α→β→Prop}:∀ {l₁:List α} {l₂:List β},Paired F l₁ l₂→(∀ a b,F a b→G a b)→Paired G l₁ l₂
  | _,_,.nil,_=>.nil
  | _,_,.cons r t,f=>.cons (f _ _ r) (Paired.mapP t f)
theorem ObjOk.stay (x:ObjOk P w H h a o) (k:∀ b u,(b=a ∨ H b=some (.own a))→h.get? b=some u→h'.get? b=some u)
    (ho:∀ b,H b=some (.own a)→H' b=some (.own a)) (ht:∀ b xs,H b=some (.tup xs)→H' b=some (.tup xs)):ObjOk P w H' h' a o:=by
  induction o with
  | lst xs=>obtain ⟨z,its,n,r,e⟩:=x; exact ⟨z,its,n,r,k _ _ (.inl rfl) e⟩
  | tup xs=>obtain ⟨z,its,r,ob,e,c⟩:=x; exact ⟨z,its,r,ob,k _ _ (.inl rfl) e,c⟩
  | dK kvs=>obtain ⟨z,y,vs,r,ob,es,ep,e,c⟩:=x; exact ⟨z,y,vs,r,ob,es,ep,k _ _ (.inl rfl) e,c⟩
  | dT kvs =>
    obtain ⟨z,y,xs,r,ob,es,ep,e,c⟩:=x
    exact ⟨z,y,xs,Paired.mapP r fun p q z=>⟨z.1,ht _ _ z.2.1,z.2.2⟩,ob,es,ep,k _ _ (.inl rfl) e,c⟩
  | set S n=>obtain ⟨ob,es,ep,t,e,c⟩:=x; exact ⟨ob,es,ep,t,k _ _ (.inl rfl) e,c⟩
  | ins C dx fs =>
    obtain ⟨d,z,ne,e,mA,⟨od,es,ep,e2,c⟩,r⟩:=x
    exact ⟨ho _ d,z,ne,k _ _ (.inl rfl) e,mA,⟨od,es,ep,k _ _ (.inr d) e2,c⟩,r⟩
  | own y=>obtain ⟨ob,e⟩:=x; exact ⟨ob,k _ _ (.inl rfl) e⟩
  | xd fs=>obtain ⟨mA,⟨od,es,ep,e,c⟩,r⟩:=x; exact ⟨mA,⟨od,es,ep,k _ _ (.inl rfl) e,c⟩,r⟩
  | rng lo hi=>obtain ⟨t,u,v,e⟩:=x; exact ⟨t,u,v,k _ _ (.inl rfl) e⟩
  | frz ob u ih=>obtain ⟨e,q⟩:=x; exact ⟨k _ _ (.inl rfl) e,ih q⟩
  | tbl ps =>
    have e:h.get? a=some { cls:=.none,data:=.fields ps }:=x
    show h'.get? a=some { cls:=.none,data:=.fields ps }
    exact k a _ (.inl rfl) e
  | met f y =>
    have e:h.get? a=some (PySem.W.methodObj (.ref f) (.ref y)):=x
    show h'.get? a=some (PySem.W.methodObj (.ref f) (.ref y))
    exact k a _ (.inl rfl) e
  | ext φ=>obtain ⟨p,⟨o,e⟩,st⟩:=x; exact ⟨st _ _ p fun o q=>k _ _ (.inl rfl) q,⟨o,k _ _ (.inl rfl) e⟩,st⟩
theorem HOk.lt (x:HOk P w H h) (e:H a=some o):a < h.objs.size:=(x a o e).lt
theorem HOk.fresh (x:HOk P w H h) (e:h.objs.size ≤ a):H a=none:=by
  cases q:H a with
  | none=>rfl
  | some u=>exact absurd (Nat.lt_of_lt_of_le (x.lt q) e) (Nat.lt_irrefl _)
theorem HOk.kept (x:HOk P w H h) (k:∀ b u,h.get? b=some u→h'.get? b=some u):HOk P w H h':=fun a o e =>
  (x a o e).stay (fun b u _ q=>k b u q) (fun _ q=>q) fun _ _ q=>q
theorem HOk.laid (x:HOk P w H h) (k:∀ b u,h.get? b=some u→h'.get? b=some u) (hp:h.objs.size ≤ a) (new:ObjOk P w (upd H a o) h' a o):HOk P w (upd H a o) h':=fun b u e=>by
  have hn:=x.fresh hp
  by_cases hb:b=a
  · subst hb; rw [upd_same] at e; cases e; exact new
  · rw [upd_ne hb] at e
    exact (x b u e).stay (fun c v _ q=>k c v q) (fun c q=>by rw [upd_ne (ne_of_none q hn)]; exact q) fun c xs q=>by rw [upd_ne (ne_of_none q hn)]; exact q
end
def Rd (H:Hp) (a:Addr) (u:HO):Prop:=H a=some u ∨ ∃ o,H a=some (.frz o u)
theorem Rd.ok {P:Program} {w:World} {H:Hp} {h:Heap} {a:Addr} {u:HO} (r:Rd H a u) (x:HOk P w H h):ObjOk P w H h a u:=by
  rcases r with r | ⟨o,r⟩
  · exact x a u r
  · obtain ⟨_,q⟩:=x a _ r
    exact q
def Mut:Option HO→Prop
  | some (.lst _)=>True
  | some (.dK _)=>True
  | some (.dT _)=>True
  | some (.set _ _)=>True
  | some (.ins _ _ _)=>True
  | some (.ext _)=>True
  | _=>False
section
variable {P:Program} {w:World} {H:Hp} {h h':Heap} {x e:Addr} {o':HO}
theorem HOk.write (ok:HOk P w H h) (mu:Mut (H x)) (he:e=x ∨ H e=some (.own x)) (k:∀ b u,b ≠ e→h.get? b=some u→h'.get? b=some u) (heo:∃ u,h'.get? e=some u)
    (new:ObjOk P w (upd H x o') h' x o'):HOk P w (upd H x o') h':=fun b u q=>by
  have nown:∀ c y,H c=some (.own y)→c ≠ x:=fun c y r z=>by subst z; rw [r] at mu; exact mu
  have ntup:∀ c xs,H c=some (.tup xs)→c ≠ x:=fun c xs r z=>by subst z; rw [r] at mu; exact mu
  by_cases hb:b=x
  · subst hb; rw [upd_same] at q; cases q; exact new
  · rw [upd_ne hb] at q
    by_cases hbe:b=e
    · have q':H b=some (.own x):=by
        rcases he with z | z
        · exact absurd (hbe.trans z) hb
        · rw [hbe]; exact z
      rw [q] at q'; cases q'
      obtain ⟨v,hv⟩:=heo
      exact ⟨v,by rw [hbe]; exact hv⟩
    · refine (ok b u q).stay (fun c v hc r=>k c v ?_ r) (fun c r=>by rw [upd_ne (nown c b r)]; exact r) fun c xs r=>by rw [upd_ne (ntup c xs r)]; exact r
      rcases hc with rfl | hc
      · exact hbe
      · rintro rfl
        rcases he with z | z
        · exact nown c b hc z
        · rw [hc] at z; cases z; exact hb rfl
end
structure Un (fs ex:List Addr) (H H':Hp) (h h':Heap):Prop where
  keep:∀ b o,h.get? b=some o→H b=none→b ∉ fs→b ∉ ex→h'.get? b=some o
  slot:∀ b o,h.get? b=some o→H b=none→b ∈ fs→b ∉ ex→∃ sl,h'.get? b=some { o with slots:=sl }
  free:∀ b o,h.get? b=some o→H b=none→b ∉ ex→H' b=none
  there:∀ b o,h.get? b=some o→b ∉ ex→∃ o',h'.get? b=some o'
  tups:∀ b xs,H b=some (.tup xs)→H' b=some (.tup xs)
  frzs:∀ b o u,H b=some (.frz o u)→H' b=some (.frz o u)
  tbls:∀ b ps,H b=some (.tbl ps)→∃ more,H' b=some (.tbl (ps ++ more))
section
variable {fs fs' ex ex':List Addr} {H H1 H2:Hp} {h h1 h2 h':Heap} {a x e:Addr} {o:HO}
theorem Un.any (u:Un fs ex H H1 h h1) {b:Addr} {ob:Obj} (q:h.get? b=some ob) (n:H b=none) (hx:b ∉ ex):∃ sl,h1.get? b=some { ob with slots:=sl }:=by
  by_cases hb:b ∈ fs
  · exact u.slot b ob q n hb hx
  · exact ⟨ob.slots,u.keep b ob q n hb hx⟩
theorem Un.kept (k:∀ b u,h.get? b=some u→h'.get? b=some u):Un fs ex H H h h' :=
  ⟨fun b ob q _ _ _=>k b ob q,fun b ob q _ _ _=>⟨ob.slots,k b ob q⟩,fun _ _ _ n _=>n,fun b ob q _=>⟨ob,k b ob q⟩,fun _ _ q=>q,fun _ _ _ q=>q,fun _ ps q=>⟨#[],by rw [q]; simp⟩⟩
theorem Un.refl:Un fs ex H H h h:=Un.kept fun _ _ q=>q
theorem Un.laid (k:∀ b u,h.get? b=some u→h'.get? b=some u) (hp:h.objs.size ≤ a) (hn:H a=none):Un fs ex H (upd H a o) h h' where
  keep:=fun b u q _ _ _=>k b u q
  slot:=fun b u q _ _ _=>⟨u.slots,k b u q⟩
  free:=fun b u q n _=>by rw [upd_ne (Nat.ne_of_lt (Nat.lt_of_lt_of_le (Heap.lt_size q) hp))]; exact n
  there:=fun b u q _=>⟨u,k b u q⟩
  tups:=fun b xs q=>by rw [upd_ne (ne_of_none q hn)]; exact q
  frzs:=fun b u xs q=>by rw [upd_ne (ne_of_none q hn)]; exact q
  tbls:=fun b ps q=>⟨#[],by rw [upd_ne (ne_of_none q hn),q]; simp⟩
theorem Un.write (mu:Mut (H x)) (he:e=x ∨ H e=some (.own x)) (k:∀ b u,b ≠ e→h.get? b=some u→h'.get? b=some u) (heo:∃ u,h'.get? e=some u):Un fs ex H (upd H x o) h h':=by
  have hx:∀ b,H b=none→b ≠ x:=fun b n z=>by subst z; rw [n] at mu; exact mu
  have hb:∀ b,H b=none→b ≠ e:=fun b n z=>by
    subst z
    rcases he with r | r
    · exact hx b n r
    · rw [n] at r; cases r
  have hm:∀ b u,H b=some u→¬ Mut (some u)→b ≠ x:=fun b u q nm z=>by subst z; rw [q] at mu; exact nm mu
  refine ⟨fun b u q n _ _=>k b u (hb b n) q,fun b u q n _ _=>⟨u.slots,k b u (hb b n) q⟩,fun b u q n _=>by rw [upd_ne (hx b n)]; exact n,fun b u q _=>?_,
    fun b xs q=>by rw [upd_ne (hm b _ q fun z=>z)]; exact q,fun b u xs q=>by rw [upd_ne (hm b _ q fun z=>z)]; exact q,fun b ps q=>⟨#[],by rw [upd_ne (hm b _ q fun z=>z),q]; simp⟩⟩
  by_cases hbe:b=e
  · subst hbe; exact heo
  · exact ⟨u,k b u hbe q⟩
end
def trk (h:Heap) (H:Hp):List Addr:=(List.range h.objs.size).filter fun a=>(H a).isSome
def hidT (h:Heap) (H:Hp):Heap:=PySem.W.hideAll h (trk h H)
theorem hidT_size (h:Heap) (H:Hp):(hidT h H).objs.size=h.objs.size:=PySem.W.hideAll_size _ _
theorem hidT_get {h:Heap} {H:Hp} {b:Addr} {o:Obj} (e:h.get? b=some o) (n:H b=none):(hidT h H).get? b=some o :=
  PySem.W.hideAll_get _ e fun hm=>by
    have q:(H b).isSome=true:=(List.mem_filter.mp hm).2
    rw [n] at q; simp at q
theorem of_hidT {h:Heap} {H:Hp} {b:Addr} {o:Obj} (e:(hidT h H).get? b=some o):h.get? b=some o∧H b=none:=by
  have e':h.get? b=some o:=PySem.W.of_hideAll (trk h H) e
  refine ⟨e',?_⟩
  cases q:H b with
  | none=>rfl
  | some x =>
    have hm:b ∈ trk h H:=List.mem_filter.mpr ⟨List.mem_range.mpr (Heap.lt_size e'),by simp [q]⟩
    have z:(hidT h H).get? b=none:=PySem.W.hideAll_none (trk h H) hm
    rw [z] at e; cases e
end L2
namespace L2
open PySem PySem.Spec PyProof.Rows
structure Mod (K:PySem.W.Frag) (mg:Str→Option Value) (base:Heap):Prop where
  kin:K.In base
  glob:base.Ns mainGlobals mg
  blt:∃ mb,base.Ns builtinsNs mb∧∀ x:Str,x ≠ "__name__"→mb x=bootBuiltins x
  nolimit:base.NoLimit
structure Cx where
  prog:Program
  w:World
  K:PySem.W.Frag
  mg:Str→Option Value
  base:Heap
  A:Around
  N:List Str
  s₀:Shared
  H₀:Hp
  env:Env
  outer:List Env
  stack:List Env
  ex:List Addr
  fn:Str→Bool
  calm:Bool
  pn:List (Addr × Obj)
  xe:Value→Shared→Prop
def frs (l:List Env):List Addr:=l.filterMap (·.frame)
abbrev Cx.fs (X:Cx):List Addr:=frs X.outer
def Vis (sc:Scope) (x:Str):Prop:=sc.names.lookup x=some .local ∨ sc.names.lookup x=some .cell ∨ sc.names.lookup x=some .free
def Loc (sc:Scope) (x:Str):Prop:=sc.names.lookup x=some .local ∨ sc.names.lookup x=some .cell
def Look (env:Env) (h:Heap) (m:Str→Option Value) (x:Str) (u:Value):Prop :=
  (env.kindOf x=some .local∧m x=some u) ∨ ((env.kindOf x=some .cell ∨ env.kindOf x=some .free)∧∃ c,env.cells.lookup x=some c∧h.IsCell c (some u))
structure Cx.Ok (X:Cx):Prop where
  mod:Mod X.K X.mg X.base
  kind:X.env.scope.kind=.function
  glob:X.env.globals=mainGlobals
  blt:X.env.builtins=builtinsNs
  above:X.s₀.heap.objs.size ≤ X.env.locals
  inj:∀ x y c,X.env.cells.lookup x=some c→X.env.cells.lookup y=some c→x=y
  has:∀ x,(X.env.kindOf x=some .cell ∨ X.env.kindOf x=some .free)→∃ c,X.env.cells.lookup x=some c
  cab:∀ x c,X.fn x=true→X.env.cells.lookup x=some c→X.s₀.heap.objs.size ≤ c
  hd:X.calm=true→X.A.handled=none
  frames:X.A.frames=some X.stack
  stk:X.stack=X.outer ∨ (X.stack=X.env :: X.outer∧X.env.frame=some X.env.locals)
  exf:∀ b ∈ X.ex,b ≠ X.env.locals∧∀ x c,X.env.cells.lookup x=some c→c ≠ b
  bs:∀ b o,X.base.get? b=some o→X.s₀.heap.get? b=some o∧X.H₀ b=none
  bsz:X.base.objs.size ≤ X.s₀.heap.objs.size
  noex:∀ b o,X.base.get? b=some o→b ∉ X.ex
  exfs:∀ b ∈ X.ex,b ∉ X.fs
  funs:X.s₀.heap.FunFrames X.base X.outer
  frf:∀ b ∈ X.fs,X.H₀ b=none
structure Inv (X:Cx) (pins:List (Addr × Obj)) (σ:List (Option V)) (H:Hp) (s:Shared):Prop where
  ok:X.Ok
  os:s.os=X.s₀.os
  bare:AllBare s.gens
  base:Un X.fs X.ex X.H₀ H X.s₀.heap s.heap
  loc:∃ m,s.heap.Ns X.env.locals m∧∀ (i:Nat) (x:Str) (v:V),X.N[i]?=some x→σ[i]?=some (some v)→Vis X.env.scope x→∃ u,RelV v u∧Look X.env s.heap m x u
  cell:∀ x c,X.env.cells.lookup x=some c→∃ v,s.heap.IsCell c v
  free:H X.env.locals=none
  freeC:∀ x c,X.env.cells.lookup x=some c→H c=none
  pin:∀ p ∈ X.pn ++ pins,s.heap.get? p.1=some p.2∧H p.1=none∧p.1 ≠ X.env.locals∧p.1 ∉ X.fs∧∀ v,p.2.data ≠ .cell v
  hok:HOk X.prog X.w H s.heap
  len:σ.length=X.N.length
section
variable {X:Cx} {pins:List (Addr × Obj)} {σ:List (Option V)} {H H':Hp} {s:Shared} {h':Heap}
theorem Cx.Ok.nofr (ok:X.Ok) {b:Addr} {o:Obj} (e:X.base.get? b=some o):b ∉ X.fs:=fun hb=>by
  have:=(ok.funs.mem hb).1
  rw [e] at this; cases this
theorem Inv.bs (I:Inv X pins σ H s):∀ b o,X.base.get? b=some o→s.heap.get? b=some o∧H b=none:=fun b o e =>
  ⟨I.base.keep b o (I.ok.bs b o e).1 (I.ok.bs b o e).2 (I.ok.nofr e) (I.ok.noex b o e),I.base.free b o (I.ok.bs b o e).1 (I.ok.bs b o e).2 (I.ok.noex b o e)⟩
theorem Inv.bk (I:Inv X pins σ H s):∀ b o,X.base.get? b=some o→s.heap.get? b=some o:=fun b o e=>(I.bs b o e).1
theorem Inv.mod (I:Inv X pins σ H s):Mod X.K X.mg X.base:=I.ok.mod
theorem Inv.kIn (I:Inv X pins σ H s):X.K.In s.heap:=I.ok.mod.kin.keeps I.bk
theorem Inv.lt (I:Inv X pins σ H s):X.env.locals < s.heap.objs.size:=let ⟨_,hn,_⟩:=I.loc; hn.lt
theorem Inv.sz (I:Inv X pins σ H s):X.s₀.heap.objs.size ≤ s.heap.objs.size:=Nat.le_trans I.ok.above (Nat.le_of_lt I.lt)
theorem Inv.nofs (I:Inv X pins σ H s) {a:Addr} (h:s.heap.objs.size ≤ a):a ∉ X.fs:=fun hb=>by
  obtain ⟨_,o,ho,_⟩:=I.ok.funs.mem hb
  exact absurd (Nat.lt_of_lt_of_le (Heap.lt_size ho) (Nat.le_trans I.sz h)) (Nat.lt_irrefl _)
theorem Inv.cne (I:Inv X pins σ H s):∀ x c,X.env.cells.lookup x=some c→c ≠ X.env.locals:=fun x c e z=>by
  obtain ⟨v,o,ho,hd⟩:=I.cell x c e
  obtain ⟨m,⟨o',es,ep,ho',hd',_⟩,_⟩:=I.loc
  rw [z,ho'] at ho; cases ho; rw [hd'] at hd; cases hd
theorem Inv.funs (I:Inv X pins σ H s):s.heap.FunFrames X.base X.outer:=by
  have all:∀ (l:List Env),(∀ b ∈ frs l,b ∈ X.fs)→X.s₀.heap.FunFrames X.base l→s.heap.FunFrames X.base l:=by
    intro l
    induction l with
    | nil=>intro _ _; trivial
    | cons env r ih =>
      intro hs hl
      obtain ⟨hk,⟨L,o,hf,hn,ho,hd⟩,hr⟩:=hl
      have hL:L ∈ X.fs:=hs L (by unfold frs; rw [List.filterMap_cons,hf]; exact List.mem_cons_self)
      obtain ⟨sl,e⟩:=I.base.slot L o ho (I.ok.frf L hL) hL fun z=>I.ok.exfs L z hL
      exact ⟨hk,⟨L,_,hf,hn,e,hd⟩,ih (fun b hb=>hs b (by unfold frs; rw [List.filterMap_cons,hf]; exact List.mem_cons_of_mem _ hb)) hr⟩
  exact all X.outer (fun _ hb=>hb) I.ok.funs
theorem Inv.stack (I:Inv X pins σ H s):s.heap.FunFrames X.base X.stack:=by
  rcases I.ok.stk with e | ⟨e,hf⟩
  · rw [e]; exact I.funs
  · rw [e]
    obtain ⟨m,hn,_⟩:=I.loc
    refine .cons (by rw [I.ok.kind]; decide) hf hn ?_ I.funs
    exact Heap.get?_none_of_le (Nat.le_trans I.ok.bsz I.ok.above)
theorem Inv.stkSub (I:Inv X pins σ H s):∀ b ∈ frs X.stack,b ∈ X.env.locals :: X.fs:=fun b hb=>by
  rcases I.ok.stk with e | ⟨e,hf⟩
  · rw [e] at hb; exact List.mem_cons_of_mem _ hb
  · rw [e] at hb
    unfold frs at hb
    rw [List.filterMap_cons,hf] at hb
    exact hb
theorem Inv.stkFree (I:Inv X pins σ H s):∀ b ∈ frs X.stack,H b=none:=fun b hb=>by
  rcases List.mem_cons.mp (I.stkSub b hb) with e | hb
  · rw [e]; exact I.free
  · obtain ⟨_,o,ho,_⟩:=I.ok.funs.mem hb
    exact I.base.free b o ho (I.ok.frf b hb) fun z=>I.ok.exfs b z hb
theorem Inv.step {g':Array GenState} {t':Nat} {d':Drawn} {ch:List Addr} (I:Inv X pins σ H s)
    (hch:∀ b ∈ ch,(b ∈ X.ex ∨ X.s₀.heap.objs.size ≤ b)∧b ≠ X.env.locals∧(∀ x c,X.env.cells.lookup x=some c→c ≠ b)∧∀ p ∈ X.pn ++ pins,p.1 ≠ b)
    (keep:∀ b o,b ≠ X.env.locals→b ∉ X.fs→b ∉ ch→s.heap.get? b=some o→H b=none→h'.get? b=some o)
    (slot:∀ b o,b ≠ X.env.locals→b ∈ X.fs→b ∉ ch→s.heap.get? b=some o→H b=none→∃ sl,h'.get? b=some { o with slots:=sl }) (free:∀ b o,b ∉ ch→s.heap.get? b=some o→H b=none→H' b=none)
    (there:∀ b o,b ∉ ch→s.heap.get? b=some o→∃ o',h'.get? b=some o')
    (tups:∀ b xs,H b=some (.tup xs)→H' b=some (.tup xs)) (frzs:∀ b o u,H b=some (.frz o u)→H' b=some (.frz o u)) (tbls:∀ b ps,H b=some (.tbl ps)→∃ more,H' b=some (.tbl (ps ++ more)))
    (ns:∀ m,s.heap.Ns X.env.locals m→h'.Ns X.env.locals m) (hok:HOk X.prog X.w H' h') (hg:AllBare g') :
    Inv X pins σ H' { s with heap:=h',gens:=g',drawn:=d',toks:=t' }:=by
  have neL:∀ b o,X.s₀.heap.get? b=some o→b ≠ X.env.locals:=fun b o e=>Nat.ne_of_lt (Nat.lt_of_lt_of_le (Heap.lt_size e) I.ok.above)
  have neC:∀ b o,X.s₀.heap.get? b=some o→b ∉ X.ex→b ∉ ch:=fun b o e hx hb=>by
    rcases (hch b hb).1 with z | z
    · exact hx z
    · exact absurd (Nat.lt_of_lt_of_le (Heap.lt_size e) z) (Nat.lt_irrefl _)
  have cellK:∀ x c,X.env.cells.lookup x=some c→∀ v,s.heap.IsCell c v→h'.IsCell c v:=fun x c e v ⟨o,ho,hd⟩=>by
    have nch:c ∉ ch:=fun z=>(hch c z).2.2.1 x c e rfl
    by_cases hc:c ∈ X.fs
    · obtain ⟨sl,q⟩:=slot c o (I.cne x c e) hc nch ho (I.freeC x c e)
      exact ⟨_,q,hd⟩
    · exact ⟨o,keep c o (I.cne x c e) hc nch ho (I.freeC x c e),hd⟩
  refine ⟨I.ok,I.os,hg,⟨fun b o e n hb hx=>?_,fun b o e n hb hx=>?_,fun b o e n hx=>?_,fun b o e hx=>?_,fun b xs e=>tups b xs (I.base.tups b xs e),fun b o xs e=>frzs b o xs (I.base.frzs b o xs e),fun b ps e=>?_⟩,?_,fun x c e=>?_,?_,fun x c e=>?_,fun p hp=>?_,hok,I.len⟩
  · exact keep b o (neL b o e) hb (neC b o e hx) (I.base.keep b o e n hb hx) (I.base.free b o e n hx)
  · obtain ⟨sl,e1⟩:=I.base.slot b o e n hb hx
    obtain ⟨sl',e2⟩:=slot b _ (neL b o e) hb (neC b o e hx) e1 (I.base.free b o e n hx)
    exact ⟨sl',e2⟩
  · obtain ⟨o',e1⟩:=I.base.there b o e hx
    exact free b o' (neC b o e hx) e1 (I.base.free b o e n hx)
  · obtain ⟨o',e1⟩:=I.base.there b o e hx
    exact there b o' (neC b o e hx) e1
  · obtain ⟨m1,e1⟩:=I.base.tbls b ps e
    obtain ⟨m2,e2⟩:=tbls b _ e1
    exact ⟨m1 ++ m2,by rw [e2,Array.append_assoc]⟩
  · obtain ⟨m,hn,hl⟩:=I.loc
    refine ⟨m,ns m hn,fun i x v e1 e2 e3=>?_⟩
    obtain ⟨u,r,l⟩:=hl i x v e1 e2 e3
    refine ⟨u,r,?_⟩
    rcases l with l | ⟨k,c,e,z⟩
    · exact .inl l
    · exact .inr ⟨k,c,e,cellK x c e _ z⟩
  · obtain ⟨v,z⟩:=I.cell x c e
    exact ⟨v,cellK x c e v z⟩
  · obtain ⟨m,⟨o,_,_,ho,_⟩,_⟩:=I.loc
    exact free _ o (fun z=>(hch _ z).2.1 rfl) ho I.free
  · obtain ⟨v,o,ho,hd⟩:=I.cell x c e
    exact free c o (fun z=>(hch c z).2.2.1 x c e rfl) ho (I.freeC x c e)
  · obtain ⟨e,n,ne,nf,d⟩:=I.pin p hp
    have nch:p.1 ∉ ch:=fun z=>(hch p.1 z).2.2.2 p hp rfl
    exact ⟨keep p.1 p.2 ne nf nch e n,free p.1 p.2 nch e n,ne,nf,d⟩
theorem Inv.un {t':Nat} (I:Inv X pins σ H s) (u:Un X.fs [] H H' s.heap h') (hok:HOk X.prog X.w H' h'):Inv X pins σ H' { s with heap:=h',toks:=t' }:=by
  obtain ⟨m,⟨o,es,ep,ho,r⟩,_⟩:=id I.loc
  obtain ⟨sl,hL⟩:=u.any ho I.free (by simp)
  exact I.step (g':=s.gens) (d':=s.drawn) (ch:=[]) (fun _ z=>nomatch z) (fun b o _ hb _ e n=>u.keep b o e n hb (by simp)) (fun b o _ hb _ e n=>u.slot b o e n hb (by simp)) (fun b o _ e n=>u.free b o e n (by simp)) (fun b o _ e=>u.there b o e (by simp)) u.tups u.frzs u.tbls (fun m' hm=>by
    obtain ⟨o',es',ep',ho',r'⟩:=hm
    rw [ho] at ho'; cases ho'
    exact ⟨_,es',ep',hL,r'⟩) hok I.bare
theorem Inv.call {g':Array GenState} {t':Nat} {d':Drawn} {ch:List Addr} (I:Inv X pins σ H s) (u:Un (frs X.stack) ch H H' s.heap h') (hok:HOk X.prog X.w H' h') (hg:AllBare g')
    (hch:∀ b ∈ ch,(b ∈ X.ex ∨ X.s₀.heap.objs.size ≤ b)∧b ≠ X.env.locals∧(∀ x c,X.env.cells.lookup x=some c→c ≠ b)∧∀ p ∈ X.pn ++ pins,p.1 ≠ b) :
    Inv X pins σ H' { s with heap:=h',gens:=g',drawn:=d',toks:=t' }:=by
  obtain ⟨m,⟨o,es,ep,ho,r⟩,_⟩:=id I.loc
  obtain ⟨sl,hL⟩:=u.any ho I.free fun z=>(hch _ z).2.1 rfl
  exact I.step (ch:=ch) hch (fun b o hL hb hc e n=>u.keep b o e n (fun z=>(List.mem_cons.mp (I.stkSub b z)).elim hL hb) hc) (fun b o _ _ hc e n=>u.any e n hc) (fun b o hc e n=>u.free b o e n hc) (fun b o hc e=>u.there b o e hc) u.tups u.frzs u.tbls (fun m' hm=>by
    obtain ⟨o',es',ep',ho',r'⟩:=hm
    rw [ho] at ho'; cases ho'
    exact ⟨_,es',ep',hL,r'⟩) hok hg
theorem Inv.turned {t':Nat} {it:Addr} (I:Inv X pins σ H s) (k:∀ b o,b ≠ it→s.heap.get? b=some o→h'.get? b=some o) (hn:H it=none) (hL:it ≠ X.env.locals)
    (h1:it ∈ X.ex ∨ X.s₀.heap.objs.size ≤ it) (h2:∀ x c,X.env.cells.lookup x=some c→c ≠ it) (h3:∀ p ∈ X.pn ++ pins,p.1 ≠ it):Inv X pins σ H { s with heap:=h',toks:=t' }:=by
  have nit:∀ b u,H b=some u→b ≠ it:=fun b u e z=>by rw [z,hn] at e; cases e
  refine I.step (g':=s.gens) (d':=s.drawn) (ch:=[it]) (fun b hb=>?_) (fun b o _ _ hc e _=>k b o (fun z=>hc (by simp [z])) e) (fun b o _ _ hc e _=>⟨o.slots,k b o (fun z=>hc (by simp [z])) e⟩) (fun _ _ _ _ n=>n)
    (fun b o hc e=>⟨o,k b o (fun z=>hc (by simp [z])) e⟩) (fun _ _ e=>e) (fun _ _ _ e=>e) (fun b ps e=>⟨#[],by rw [e]; simp⟩) (fun m hm=>?_) (fun b u e=>?_) I.bare
  · have e:b=it:=by simpa using hb
    subst e
    exact ⟨h1,hL,h2,h3⟩
  · obtain ⟨o,es,ep,ho,r⟩:=hm
    exact ⟨o,es,ep,k _ o (Ne.symm hL) ho,r⟩
  · refine (I.hok b u e).stay (fun c v hc q=>k c v ?_ q) (fun _ q=>q) fun _ _ q=>q
    rcases hc with z | z
    · rw [z]; exact nit b u e
    · exact nit c _ z
theorem Inv.tok (I:Inv X pins σ H s) (t:Nat):Inv X pins σ H { s with toks:=t }:=I.un (h':=s.heap) (t':=t) Un.refl I.hok
theorem Inv.kept {t':Nat} (I:Inv X pins σ H s) (k:∀ b u,s.heap.get? b=some u→h'.get? b=some u):Inv X pins σ H { s with heap:=h',toks:=t' }:=I.un (Un.kept k) (I.hok.kept k)
theorem Inv.laid {a:Addr} {o:HO} {t':Nat} (I:Inv X pins σ H s) (k:∀ b u,s.heap.get? b=some u→h'.get? b=some u) (hp:s.heap.objs.size ≤ a) (new:ObjOk X.prog X.w (upd H a o) h' a o) :
    Inv X pins σ (upd H a o) { s with heap:=h',toks:=t' }:=I.un (Un.laid k hp (I.hok.fresh hp)) (I.hok.laid k hp new)
theorem Inv.write {x e:Addr} {o:HO} {t':Nat} (I:Inv X pins σ H s) (mu:Mut (H x)) (he:e=x ∨ H e=some (.own x)) (k:∀ b u,b ≠ e→s.heap.get? b=some u→h'.get? b=some u) (heo:∃ u,h'.get? e=some u)
    (new:ObjOk X.prog X.w (upd H x o) h' x o):Inv X pins σ (upd H x o) { s with heap:=h',toks:=t' }:=I.un (Un.write mu he k heo) (I.hok.write mu he k heo new)
theorem Inv.pins_of {pins':List (Addr × Obj)} (I:Inv X pins σ H s) (h:∀ p ∈ pins',s.heap.get? p.1=some p.2∧H p.1=none∧p.1 ≠ X.env.locals∧p.1 ∉ X.fs∧∀ v,p.2.data ≠ .cell v):Inv X pins' σ H s :=
  ⟨I.ok,I.os,I.bare,I.base,I.loc,I.cell,I.free,I.freeC,fun p hp=>(List.mem_append.mp hp).elim (fun z=>I.pin p (List.mem_append_left _ z)) (h p),I.hok,I.len⟩
theorem nodup_ix {N:List Str} (hN:N.Nodup) {i j:Nat} {x:Str} (a:N[i]?=some x) (b:N[j]?=some x):i=j:=by
  obtain ⟨h1,e1⟩:=List.getElem?_eq_some_iff.mp a
  obtain ⟨h2,e2⟩:=List.getElem?_eq_some_iff.mp b
  exact (List.getElem_inj hN).mp (e1.trans e2.symm)
theorem store_ok2 {M:Model} {A:Around} {E:Value→Shared→Prop} {i:Nat} {x:Str} {v:V} {u:Value} {Q:Unit→Shared→Prop} (I:Inv X pins σ H s) (hN:X.N.Nodup) (hi:X.N[i]?=some x) (hx:Loc X.env.scope x) (r:RelV v u)
    (h:∀ s',Inv X pins (σ.set i (some v)) H s'→(∃ a,Heap.SameBut a s.heap s'.heap∧(a=X.env.locals ∨ X.env.cells.lookup x=some a))→Q () s') (hf:X.fn x=true ∨ X.env.scope.names.lookup x=some .local:=by first | exact .inl rfl | exact .inr rfl | assumption):wpAny M A (storeName X.env x u) Q E s:=by
  obtain ⟨m,hn,hl⟩:=id I.loc
  have hcls:(X.env.scope.kind == .class || (X.env.scope.kind == .module && X.env.locals != X.env.globals))=false:=by rw [I.ok.kind]; rfl
  have hiσ:i < σ.length:=by rw [I.len]; exact (List.getElem?_eq_some_iff.mp hi).1
  have cne:=I.cne
  have tracked:∀ {a:Addr} {h':Heap},(∃ o,s.heap.get? a=some o∧H a=none)→Heap.SameBut a s.heap h'→HOk X.prog X.w H h':=fun {a h'} ha hs b ob e=>by
    obtain ⟨_,_,hfree⟩:=ha
    refine (I.hok b ob e).stay (fun c w' hc q=>(hs.2 c ?_).trans q) (fun _ q=>q) fun _ _ q=>q
    rintro rfl
    rcases hc with rfl | hc
    · rw [hfree] at e; cases e
    · rw [hfree] at hc; cases hc
  rcases hx with hk | hk
  · refine wpAny_storeName_local hk hn (fun h' hn' hs=>?_) hcls
    obtain ⟨oL,_,_,hoL,_⟩:=id hn
    refine h _ ⟨I.ok,I.os,I.bare,⟨fun b o e n hb hx=>?_,fun b o e n hb hx=>?_,I.base.free,fun b o e hx=>?_,I.base.tups,I.base.frzs,I.base.tbls⟩,⟨_,hn',fun j y v' e1 e2 e3=>?_⟩,fun y c e=>?_,I.free,I.freeC,fun p hp=>?_,tracked ⟨oL,hoL,I.free⟩ hs,by simpa using I.len⟩ ⟨_,hs,.inl rfl⟩
    · exact (hs.2 b (Nat.ne_of_lt (Nat.lt_of_lt_of_le (Heap.lt_size e) I.ok.above))).trans (I.base.keep b o e n hb hx)
    · obtain ⟨sl,e1⟩:=I.base.slot b o e n hb hx
      exact ⟨sl,(hs.2 b (Nat.ne_of_lt (Nat.lt_of_lt_of_le (Heap.lt_size e) I.ok.above))).trans e1⟩
    · obtain ⟨o',e1⟩:=I.base.there b o e hx
      exact ⟨o',(hs.2 b (Nat.ne_of_lt (Nat.lt_of_lt_of_le (Heap.lt_size e) I.ok.above))).trans e1⟩
    · by_cases hj:j=i
      · subst hj
        rw [hi] at e1; cases e1
        rw [List.getElem?_set_self hiσ] at e2
        cases e2
        exact ⟨u,r,.inl ⟨hk,by simp⟩⟩
      · rw [List.getElem?_set_ne (Ne.symm hj)] at e2
        obtain ⟨u',r',q⟩:=hl j y v' e1 e2 e3
        refine ⟨u',r',?_⟩
        rcases q with ⟨k,e⟩ | ⟨k,c,e,z⟩
        · refine .inl ⟨k,?_⟩
          have:y ≠ x:=fun e=>hj (nodup_ix hN e1 (e ▸ hi))
          simp [this,e]
        · exact .inr ⟨k,c,e,z.sameBut hs (cne y c e)⟩
    · obtain ⟨w',z⟩:=I.cell y c e
      exact ⟨w',z.sameBut hs (cne y c e)⟩
    · obtain ⟨e,n,ne,nf,d⟩:=I.pin p hp
      exact ⟨(hs.2 p.1 ne).trans e,n,ne,nf,d⟩
  · have hfn:X.fn x=true:=by
      rcases hf with z | z
      · exact z
      · rw [z] at hk; cases hk
    obtain ⟨c,hc⟩:=I.ok.has x (.inl hk)
    obtain ⟨w',z⟩:=I.cell x c hc
    refine wpAny_storeName_cell I.ok.kind hk hc z (fun h' hc' hs=>?_)
    obtain ⟨oc,hoc,hocd⟩:=id z
    refine h { s with heap:=h' } ⟨I.ok,I.os,I.bare,⟨fun b o e n hb hx=>?_,fun b o e n hb hx=>?_,I.base.free,fun b o e hx=>?_,I.base.tups,I.base.frzs,I.base.tbls⟩,⟨m,hn.sameBut hs (Ne.symm (cne x c hc)),fun j y v' e1 e2 e3=>?_⟩,fun y c' e=>?_,I.free,I.freeC,fun p hp=>?_,tracked ⟨oc,hoc,I.freeC x c hc⟩ hs,by simpa using I.len⟩ ⟨c,hs,.inr hc⟩
    · exact (hs.2 b (Nat.ne_of_lt (Nat.lt_of_lt_of_le (Heap.lt_size e) (I.ok.cab x c hfn hc)))).trans (I.base.keep b o e n hb hx)
    · obtain ⟨sl,e1⟩:=I.base.slot b o e n hb hx
      exact ⟨sl,(hs.2 b (Nat.ne_of_lt (Nat.lt_of_lt_of_le (Heap.lt_size e) (I.ok.cab x c hfn hc)))).trans e1⟩
    · obtain ⟨o',e1⟩:=I.base.there b o e hx
      exact ⟨o',(hs.2 b (Nat.ne_of_lt (Nat.lt_of_lt_of_le (Heap.lt_size e) (I.ok.cab x c hfn hc)))).trans e1⟩
    · by_cases hj:j=i
      · subst hj
        rw [hi] at e1; cases e1
        rw [List.getElem?_set_self hiσ] at e2
        cases e2
        exact ⟨u,r,.inr ⟨.inl hk,c,hc,hc'⟩⟩
      · rw [List.getElem?_set_ne (Ne.symm hj)] at e2
        obtain ⟨u',r',q⟩:=hl j y v' e1 e2 e3
        refine ⟨u',r',?_⟩
        rcases q with q | ⟨k,c',e,z'⟩
        · exact .inl q
        · refine .inr ⟨k,c',e,z'.sameBut hs ?_⟩
          rintro rfl
          exact hj (nodup_ix hN e1 (I.ok.inj _ _ _ e hc ▸ hi))
    · by_cases hcc:c'=c
      · subst hcc; exact ⟨_,hc'⟩
      · obtain ⟨w2,z2⟩:=I.cell y c' e
        exact ⟨w2,z2.sameBut hs hcc⟩
    · obtain ⟨e,n,ne,nf,d⟩:=I.pin p hp
      refine ⟨(hs.2 p.1 ?_).trans e,n,ne,nf,d⟩
      intro q
      rw [q,hoc] at e
      have q':oc=p.2:=Option.some.inj e
      exact d w' (by rw [← q']; exact hocd)
theorem store_ok {M:Model} {A:Around} {E:Value→Shared→Prop} {i:Nat} {x:Str} {v:V} {u:Value} {Q:Unit→Shared→Prop} (I:Inv X pins σ H s) (hN:X.N.Nodup) (hi:X.N[i]?=some x) (hx:Loc X.env.scope x) (r:RelV v u)
    (h:∀ s',Inv X pins (σ.set i (some v)) H s'→Q () s') (hf:X.fn x=true ∨ X.env.scope.names.lookup x=some .local:=by first | exact .inl rfl | exact .inr rfl | assumption):wpAny M A (storeName X.env x u) Q E s :=
  store_ok2 I hN hi hx r (fun s' I' _=>h s' I') hf
theorem Inv.call' {s':Shared} {ch:List Addr} (I:Inv X pins σ H s) (ho:s'.os=s.os) (u:Un (frs X.stack) ch H H' s.heap s'.heap) (hok:HOk X.prog X.w H' s'.heap) (hg:AllBare s'.gens)
    (hch:∀ b ∈ ch,(b ∈ X.ex ∨ X.s₀.heap.objs.size ≤ b)∧b ≠ X.env.locals∧(∀ x c,X.env.cells.lookup x=some c→c ≠ b)∧∀ p ∈ X.pn ++ pins,p.1 ≠ b):Inv X pins σ H' s':=by
  obtain ⟨h',g',d',t',o'⟩:=s'
  have e:o'=s.os:=ho
  subst e
  exact I.call (g':=g') (t':=t') (d':=d') u hok hg hch
end
abbrev XK:=Value→Option Addr→Hp→Prop
abbrev St:=List (Option V)
abbrev VK:=V→Hp→Prop
abbrev TE:=St→Hp→VK→Prop
abbrev TT:=St→Hp→(Bool→Hp→Prop)→Prop
abbrev TA:=St→Hp→(List V→Hp→Prop)→Prop
structure Ends where
  nx:St→Hp→Prop
  rt:VK
  bk:St→Hp→Prop:=fun _ _=>False
  ct:St→Hp→Prop:=fun _ _=>False
abbrev TS:=Ends→St→Hp→Prop
def EP (X:Cx) (pins:List (Addr × Obj)) (σ:St) (Q:VK) (u:Value) (s':Shared):Prop:=∃ v H',Inv X pins σ H' s'∧RelV v u∧Q v H'
def TP (X:Cx) (pins:List (Addr × Obj)) (σ:St) (Q:Bool→Hp→Prop) (b:Bool) (s':Shared):Prop:=∃ H',Inv X pins σ H' s'∧Q b H'
def AP (X:Cx) (pins:List (Addr × Obj)) (σ:St) (Q:List V→Hp→Prop) (us:List Value) (s':Shared):Prop:=∃ vs H',Inv X pins σ H' s'∧Vals vs us∧Q vs H'
def SP (X:Cx) (pins:List (Addr × Obj)) (D:Ends) (f:Flow) (s':Shared):Prop :=
  match f with
  | .next=>∃ σ' H',Inv X pins σ' H' s'∧D.nx σ' H'
  | .brk=>∃ σ' H',Inv X pins σ' H' s'∧D.bk σ' H'
  | .cont=>∃ σ' H',Inv X pins σ' H' s'∧D.ct σ' H'
  | .ret u=>∃ v σ' H',Inv X pins σ' H' s'∧RelV v u∧D.rt v H'
def PE (X:Cx) (e:Expr) (t:TE):Prop :=
  ∀ (pins:List (Addr × Obj)) (s:Shared) (σ:St) (H:Hp) (Q:VK),Inv X pins σ H s→t σ H Q→wpAny (model X.prog X.w) X.A (eval e X.env) (EP X pins σ Q) X.xe s
def PT (X:Cx) (e:Expr) (t:TT):Prop :=
  ∀ (pins:List (Addr × Obj)) (s:Shared) (σ:St) (H:Hp) (Q:Bool→Hp→Prop),Inv X pins σ H s→t σ H Q→wpAny (model X.prog X.w) X.A (isTrue e X.env (eval e X.env)) (TP X pins σ Q) X.xe s
def PW (X:Cx) (e:Expr) (t:TT):Prop :=
  ∀ (whole:Sem Value) (pins:List (Addr × Obj)) (s:Shared) (σ:St) (H:Hp) (Q:Bool→Hp→Prop),Inv X pins σ H s→t σ H Q→wpAny (model X.prog X.w) X.A (isTrue e X.env whole) (TP X pins σ Q) X.xe s
theorem PW.pt {X:Cx} {e:Expr} {t:TT} (h:PW X e t):PT X e t:=h _
def PA (X:Cx) (es:List Expr) (t:TA):Prop :=
  ∀ (pos:Pos) (pins:List (Addr × Obj)) (s:Shared) (σ:St) (H:Hp) (Q:List V→Hp→Prop),Inv X pins σ H s→t σ H Q→wpAny (model X.prog X.w) X.A (spliced (backTo pos (starEach es X.env))) (AP X pins σ Q) X.xe s
def PS (X:Cx) (st:Stmt) (t:TS):Prop :=
  ∀ (pins:List (Addr × Obj)) (s:Shared) (σ:St) (H:Hp) (D:Ends),Inv X pins σ H s→t D σ H→wpAny (model X.prog X.w) X.A (exec st X.env) (SP X pins D) X.xe s
def PSs (X:Cx) (st:List Stmt) (t:TS):Prop :=
  ∀ (pins:List (Addr × Obj)) (s:Shared) (σ:St) (H:Hp) (D:Ends),Inv X pins σ H s→t D σ H→wpAny (model X.prog X.w) X.A (execs st X.env) (SP X pins D) X.xe s
theorem thn {α:Type} {t:Sem α} {Q Q':α→Shared→Prop} {M:Model} {A:Around} {E:Value→Shared→Prop} {s:Shared} (h:wpAny M A t Q E s) (hQ:∀ a s,Q a s→Q' a s):wpAny M A t Q' E s:=wpAny_mono h hQ fun _ _ x=>x
end L2
namespace L2
open PySem PySem.Spec PyProof.Rows
section
variable {X:Cx}
def tVar (i:Nat):TE:=fun σ H Q=>∃ v,σ[i]?=some (some v)∧Q v H
def tC (v:V):TE:=fun _ H Q=>Q v H
theorem pe_var {i:Nat} {x:Str} {pos:Pos} (hN:X.N[i]?=some x) (hv:Vis X.env.scope x) (hd:(x == ("__debug__":Str))=false:=by decide) (hcd:(x == ("__classdict__":Str))=false:=by decide):PE X (.Name x pos) (tVar i):=by
  intro pins s σ H Q I h
  obtain ⟨v,e,h⟩:=h
  obtain ⟨m,hn,hl⟩:=I.loc
  obtain ⟨u,r,l⟩:=hl i x v hN e hv
  have fin:EP X pins σ Q u s:=⟨v,H,I,r,h⟩
  rcases l with ⟨hk,hm⟩ | ⟨hk,c,hc,hcell⟩
  · exact wpAny_Name (wpAny_loadName_local I.ok.kind hk hn hm fin) hd
  · rcases hk with hk | hk
    · exact wpAny_Name (wpAny_loadName_cell I.ok.kind hk hc hcell fin) hd
    · exact wpAny_Name (wpAny_loadName_free I.ok.kind hk hc hcell fin hcd) hd
theorem pe_int {i j pos}:PE X (.Constant (.int i) j pos) (tC (.int i)):=fun _ _ _ H _ I h=>wpAny_Constant_int ⟨.int i,H,I.tok _,⟨_,rfl⟩,h⟩
theorem pe_bl {b j pos}:PE X (.Constant (.bool b) j pos) (tC (.bl b)):=fun _ _ _ H _ I h=>Constant_bool ⟨.bl b,H,I,rfl,h⟩
theorem pe_non {j pos}:PE X (.Constant .none j pos) (tC .non):=fun _ _ _ H _ I h=>Constant_none ⟨.non,H,I,rfl,h⟩
theorem pe_str {x j pos}:PE X (.Constant (.str x) j pos) (tC (.str x)):=fun _ _ _ H _ I h=>Calls.Constant_str ⟨.str x,H,I.tok _,⟨_,rfl⟩,h⟩
def Gl (X:Cx) (x:Str):Prop:=X.env.kindOf x=some .globalImplicit
theorem ld_glob {E:Value→Shared→Prop} {pins:List (Addr × Obj)} {s:Shared} {σ:St} {H:Hp} {x:Str} {u:Value} {pos:Pos} {Q:Value→Shared→Prop} (I:Inv X pins σ H s) (hg:Gl X x) (hm:X.mg x=some u) (h:Q u s)
    (hd:(x == ("__debug__":Str))=false:=by decide):wpAny (model X.prog X.w) X.A (eval (.Name x pos) X.env) Q E s :=
  Calls.Name_function_global I.ok.kind hg (Calls.loadGlobal_global (by rw [I.ok.glob]; exact I.mod.glob.keeps I.bk) hm h) hd
theorem ld_blt {E:Value→Shared→Prop} {pins:List (Addr × Obj)} {s:Shared} {σ:St} {H:Hp} {x:Str} {u:Value} {pos:Pos} {Q:Value→Shared→Prop} (I:Inv X pins σ H s) (hg:Gl X x) (hm:X.mg x=none) (hv:bootBuiltins x=some u) (h:Q u s)
    (hn:x ≠ "__name__":=by decide) (hd:(x == ("__debug__":Str))=false:=by decide):wpAny (model X.prog X.w) X.A (eval (.Name x pos) X.env) Q E s:=by
  obtain ⟨mb,h1,h2⟩:=I.mod.blt
  exact Calls.Name_function_global I.ok.kind hg (Calls.loadGlobal_builtin (by rw [I.ok.glob]; exact I.mod.glob.keeps I.bk) hm (by rw [I.ok.blt]; exact h1.keeps I.bk) ((h2 x hn).trans hv) h) hd
theorem pe_glob {x:Str} {v:V} {u:Value} {pos:Pos} (hg:Gl X x) (hm:X.mg x=some u) (r:RelV v u) (hd:(x == ("__debug__":Str))=false:=by decide):PE X (.Name x pos) (tC v) :=
  fun _ _ _ H _ I h=>ld_glob I hg hm ⟨v,H,I,r,h⟩ hd
theorem pe_bltn {x:Str} {v:V} {u:Value} {pos:Pos} (hg:Gl X x) (hm:X.mg x=none) (hv:bootBuiltins x=some u) (r:RelV v u) (hn:x ≠ "__name__":=by decide) (hd:(x == ("__debug__":Str))=false:=by decide):PE X (.Name x pos) (tC v) :=
  fun _ _ _ H _ I h=>ld_blt I hg hm hv ⟨v,H,I,r,h⟩ hn hd
variable {a b:Expr} {ta tb:TE} {pos:Pos}
def PC (X:Cx) (op:CmpOp) (a b:Expr) (t:TE):Prop :=
  ∀ (pins:List (Addr × Obj)) (s:Shared) (σ:St) (H:Hp) (Q:VK),Inv X pins σ H s→t σ H Q →
    wpAny (model X.prog X.w) X.A (eval a X.env) (fun v s₁=>wpAny (model X.prog X.w) X.A (eval b X.env) (fun u s₂=>wpAny (model X.prog X.w) X.A (compareOp op v u) (EP X pins σ Q) X.xe s₂) X.xe s₁) X.xe s
def tB (t:TE):TT:=fun σ H Q=>t σ H fun x H1=>∃ c,x=.bl c∧Q c H1
theorem pt_cmp {op:CmpOp} {t:TE} (h:PC X op a b t) (h1:behindInMarks op b=false:=by first | exact nobehind _ (by decide) (by decide) | rfl):PT X (.Compare a [op] [b] pos) (tB t):=by
  intro pins s σ H Q I hw
  refine wpAny_isTrue_Compare1 (thn (h pins s σ H _ I hw) fun v s1 h1=>thn h1 fun u s2 h2=>thn h2 fun c s3 ⟨x,H1,I1,r1,q1⟩=>?_) h1
  obtain ⟨d,rfl,q⟩:=q1
  cases r1
  exact wpAny_truthy_bool ⟨H1,I1,q⟩
theorem pt_val {e:Expr} {t:TE} (h:PE X e t) (he:∀ whole,isTrue e X.env whole=(do let v ← whole; standAt e.pos; holding [v] (truthy v)):=by intro _; rfl):PT X e (tB t):=by
  intro pins s σ H Q I hw
  refine isTrue_plain (thn (h pins s σ H _ I hw) fun v s1 ⟨x,H1,I1,r1,q1⟩=>?_) (he _)
  obtain ⟨d,rfl,q⟩:=q1
  cases r1
  exact wpAny_truthy_bool ⟨H1,I1,q⟩
variable {tA tB':TT} {rest:List Expr}
def tAnd (t u:TT):TT:=fun σ H Q=>t σ H fun c H1=>if c=true then u σ H1 Q else Q false H1
def tOr (t u:TT):TT:=fun σ H Q=>t σ H fun c H1=>if c=true then Q true H1 else u σ H1 Q
def tNot (t:TT):TT:=fun σ H Q=>t σ H fun c H1=>Q (!c) H1
theorem pw_and1 (ha:PT X a tA):PW X (.BoolOp .And [a] pos) tA:=by
  intro wh pins s σ H Q I h
  refine isTrue_and (thn (ha pins s σ H Q I h) fun c s1 e=>?_)
  cases c with
  | true=>exact isTrue_and_nil e
  | false=>exact e
theorem pw_or1 (ha:PT X a tA):PW X (.BoolOp .Or [a] pos) tA:=by
  intro wh pins s σ H Q I h
  refine isTrue_or (thn (ha pins s σ H Q I h) fun c s1 e=>?_)
  cases c with
  | false=>exact isTrue_or_nil e
  | true=>exact e
theorem pw_and (ha:PT X a tA) (hb:PW X (.BoolOp .And (b :: rest) pos) tB'):PW X (.BoolOp .And (a :: b :: rest) pos) (tAnd tA tB'):=by
  intro wh pins s σ H Q I h
  refine isTrue_and (thn (ha pins s σ H _ I h) fun c s1 ⟨H1,I1,q1⟩=>?_)
  cases c with
  | true=>exact hb wh pins s1 σ H1 Q I1 q1
  | false=>exact ⟨H1,I1,q1⟩
theorem pw_or (ha:PT X a tA) (hb:PW X (.BoolOp .Or (b :: rest) pos) tB'):PW X (.BoolOp .Or (a :: b :: rest) pos) (tOr tA tB'):=by
  intro wh pins s σ H Q I h
  refine isTrue_or (thn (ha pins s σ H _ I h) fun c s1 ⟨H1,I1,q1⟩=>?_)
  cases c with
  | true=>exact ⟨H1,I1,q1⟩
  | false=>exact hb wh pins s1 σ H1 Q I1 q1
theorem pt_not (ha:PT X a tA):PT X (.UnaryOp .Not a pos) (tNot tA):=by
  intro pins s σ H Q I h
  exact isTrue_not (ha pins s σ H (fun c H1=>Q (!c) H1) I h)
def tAndV (ta tb:TE):TE:=fun σ H Q=>ta σ H fun x H1=>∃ c,x=.bl c∧if c=true then tb σ H1 Q else Q (.bl false) H1
def tOrV (ta tb:TE):TE:=fun σ H Q=>ta σ H fun x H1=>∃ c,x=.bl c∧if c=true then Q (.bl true) H1 else tb σ H1 Q
def tNotV (ta:TE):TE:=fun σ H Q=>ta σ H fun x H1=>∃ c,x=.bl c∧Q (.bl (!c)) H1
theorem pe_one {op} {t:TE} (h:PE X a t):PE X (.BoolOp op [a] pos) t:=fun pins s σ H Q I hw=>BoolOp_one (h pins s σ H Q I hw)
theorem pe_and (ha:PE X a ta) (hb:PE X (.BoolOp .And (b :: rest) pos) tb):PE X (.BoolOp .And (a :: b :: rest) pos) (tAndV ta tb):=by
  intro pins s σ H Q I h
  refine BoolOp_and (thn (ha pins s σ H _ I h) fun v s1 ⟨x,H1,I1,r1,q1⟩=>?_)
  obtain ⟨c,rfl,q1⟩:=q1
  cases r1
  refine wpAny_truthy_bool ?_
  cases c with
  | true=>exact hb pins s1 σ H1 Q I1 q1
  | false=>exact ⟨.bl false,H1,I1,rfl,q1⟩
theorem pe_or (ha:PE X a ta) (hb:PE X (.BoolOp .Or (b :: rest) pos) tb):PE X (.BoolOp .Or (a :: b :: rest) pos) (tOrV ta tb):=by
  intro pins s σ H Q I h
  refine BoolOp_or (thn (ha pins s σ H _ I h) fun v s1 ⟨x,H1,I1,r1,q1⟩=>?_)
  obtain ⟨c,rfl,q1⟩:=q1
  cases r1
  refine wpAny_truthy_bool ?_
  cases c with
  | false=>exact hb pins s1 σ H1 Q I1 q1
  | true=>exact ⟨.bl true,H1,I1,rfl,q1⟩
theorem pe_not (ha:PE X a ta):PE X (.UnaryOp .Not a pos) (tNotV ta):=by
  intro pins s σ H Q I h
  refine UnaryOp_ (thn (ha pins s σ H _ I h) fun v s1 ⟨x,H1,I1,r1,q1⟩=>?_)
  obtain ⟨c,rfl,q1⟩:=q1
  cases r1
  exact not_of (wpAny_truthy_bool ⟨.bl (!c),H1,I1,rfl,q1⟩)
end
end L2
namespace L2
open PySem PySem.Spec PyProof.Rows
def SqL (K:PySem.W.Frag) (H:Hp) (a:Addr) (xs:List V):Prop :=
  Rd H a (.lst xs) ∨
    ∃ (o:Obj) (its:Array Value) (n:Nat),K.lookup a=some o∧o.cls=.type "list"∧o.dict=none∧o.data=.seq its n∧its.size ≤ sizeLine∧Vals xs its.toList
def SqT (K:PySem.W.Frag) (H:Hp) (a:Addr) (xs:List V):Prop :=
  Rd H a (.tup xs) ∨
    ∃ (o:Obj) (its:Array Value) (n:Nat),K.lookup a=some o∧o.cls=.type "tuple"∧o.data=.seq its n∧its.size ≤ sizeLine∧Vals xs its.toList
def absV:Value→Option V
  | .none=>some .non
  | .bool b=>some (.bl b)
  | .int i _=>some (.int i)
  | .str x _=>some (.str x)
  | .bytes b _=>some (.byt b)
  | .float b _=>some (.flt b)
  | .ref a=>some (.ref a)
  | .type n=>some (.ty n)
  | _=>none
theorem RelV.abs {x:V} {u:Value} (r:RelV x u):absV u=some x:=by
  cases x with
  | non=>cases r; rfl
  | bl _=>cases r; rfl
  | int _=>obtain ⟨t,rfl⟩:=r; rfl
  | str _=>obtain ⟨t,rfl⟩:=r; rfl
  | byt _=>obtain ⟨t,rfl⟩:=r; rfl
  | flt _=>obtain ⟨t,rfl⟩:=r; rfl
  | ref _=>cases r; rfl
  | ty _=>cases r; rfl
theorem RelV.inj {x y:V} {u:Value} (r:RelV x u) (q:RelV y u):x=y:=Option.some.inj (r.abs.symm.trans q.abs)
theorem Vals.inj:∀ {xs ys:List V} {us:List Value},Vals xs us→Vals ys us→xs=ys
  | _,_,_,.nil,.nil=>rfl
  | _,_,_,.cons r t,.cons r' t'=>by rw [r.inj r',Vals.inj t t']
section
variable {X:Cx} {pins:List (Addr × Obj)} {σ:St} {H:Hp} {s:Shared} {a:Addr} {xs ys:List V}
theorem SqL.of {K:PySem.W.Frag} (h:H a=some (.lst xs)):SqL K H a xs:=.inl (.inl h)
theorem SqT.of {K:PySem.W.Frag} (h:H a=some (.tup xs)):SqT K H a xs:=.inl (.inl h)
theorem Inv.list (I:Inv X pins σ H s) (h:SqL X.K H a xs):∃ its:List Value,Vals xs its∧PlainL s.heap a its.toArray∧xs.length ≤ sizeLine:=by
  rcases h with h | ⟨o,its,n,hk,hc,hd,hs,hz,r⟩
  · obtain ⟨z,its,n,r,e⟩:=h.ok I.hok
    exact ⟨its,r,⟨_,n,e,rfl,rfl,rfl⟩,z⟩
  · refine ⟨its.toList,r,⟨o,n,I.kIn a o hk,hc,hd,by simpa using hs⟩,?_⟩
    have e:=r.length
    simp only [Array.length_toList] at e
    omega
theorem Inv.tuple (I:Inv X pins σ H s) (h:SqT X.K H a xs):∃ its:List Value,Vals xs its∧IsTup s.heap a its.toArray∧xs.length ≤ sizeLine:=by
  rcases h with h | ⟨o,its,n,hk,hc,hs,hz,r⟩
  · obtain ⟨z,its,r,p⟩:=h.ok I.hok
    exact ⟨its,r,p,z⟩
  · refine ⟨its.toList,r,⟨o,I.kIn a o hk,hc,n,by simpa using hs⟩,?_⟩
    have e:=r.length
    simp only [Array.length_toList] at e
    omega
theorem Inv.list_inj (I:Inv X pins σ H s) (h:SqL X.K H a xs) (h':SqL X.K H a ys):xs=ys:=by
  obtain ⟨its,r,⟨o,n,e,_,_,d⟩,_⟩:=I.list h
  obtain ⟨its',r',⟨o',n',e',_,_,d'⟩,_⟩:=I.list h'
  rw [e] at e'; cases e'
  rw [d] at d'
  injection d' with d1 _
  have:its=its':=by simpa using congrArg Array.toList d1
  subst this
  exact r.inj r'
theorem Inv.tuple_inj (I:Inv X pins σ H s) (h:SqT X.K H a xs) (h':SqT X.K H a ys):xs=ys:=by
  obtain ⟨its,r,⟨o,e,_,n,d⟩,_⟩:=I.tuple h
  obtain ⟨its',r',⟨o',e',_,n',d'⟩,_⟩:=I.tuple h'
  rw [e] at e'; cases e'
  rw [d] at d'
  injection d' with d1 _
  have:its=its':=by simpa using congrArg Array.toList d1
  subst this
  exact r.inj r'
end
abbrev Cx.wish (X:Cx) (E:Value→Shared→Prop):Cx:={ X with xe:=E }
abbrev Cx.nox (X:Cx):Cx:=X.wish fun _ _=>False
theorem Cx.Ok.wish {X:Cx} (ok:X.Ok) (E:Value→Shared→Prop):(X.wish E).Ok :=
  ⟨ok.mod,ok.kind,ok.glob,ok.blt,ok.above,ok.inj,ok.has,ok.cab,ok.hd,ok.frames,ok.stk,ok.exf,ok.bs,ok.bsz,ok.noex,ok.exfs,ok.funs,ok.frf⟩
theorem Cx.Ok.unwish {X:Cx} {E:Value→Shared→Prop} (ok:(X.wish E).Ok):X.Ok :=
  ⟨ok.mod,ok.kind,ok.glob,ok.blt,ok.above,ok.inj,ok.has,ok.cab,ok.hd,ok.frames,ok.stk,ok.exf,ok.bs,ok.bsz,ok.noex,ok.exfs,ok.funs,ok.frf⟩
section
variable {X:Cx} {pins:List (Addr × Obj)} {σ:St} {H:Hp} {s:Shared} {E:Value→Shared→Prop}
theorem Inv.wish (I:Inv X pins σ H s) (E:Value→Shared→Prop):Inv (X.wish E) pins σ H s:=⟨I.ok.wish E,I.os,I.bare,I.base,I.loc,I.cell,I.free,I.freeC,I.pin,I.hok,I.len⟩
theorem Inv.unwish (I:Inv (X.wish E) pins σ H s):Inv X pins σ H s:=⟨I.ok.unwish,I.os,I.bare,I.base,I.loc,I.cell,I.free,I.freeC,I.pin,I.hok,I.len⟩
theorem SP.unwish {D:Ends} {f:Flow} {s':Shared} (h:SP (X.wish E) pins D f s'):SP X pins D f s':=by
  cases f with
  | next=>obtain ⟨σ',H',I,q⟩:=h; exact ⟨σ',H',I.unwish,q⟩
  | brk=>obtain ⟨σ',H',I,q⟩:=h; exact ⟨σ',H',I.unwish,q⟩
  | cont=>obtain ⟨σ',H',I,q⟩:=h; exact ⟨σ',H',I.unwish,q⟩
  | ret u=>obtain ⟨v,σ',H',I,r,q⟩:=h; exact ⟨v,σ',H',I.unwish,r,q⟩
theorem PSs.nox {st:List Stmt} {t:TS} (h:PSs X.nox st t):PSs X st t:=fun pins s σ H D I hw =>
  wpAny_mono (h pins s σ H D (I.wish _) hw) (fun _ _ q=>q.unwish) fun _ _ z=>False.elim z
end
section
variable {X:Cx} {st:Stmt} {rest:List Stmt} {t u:TS} {e:Expr} {te:TE} {pos:Pos}
def tNext:TS:=fun D σ H=>D.nx σ H
def tSeq (t u:TS):TS:=fun D σ H=>t { D with nx:=u D } σ H
theorem pss_nil:PSs X [] tNext:=fun _ _ σ H _ I h=>wpAny_execs_nil ⟨σ,H,I,h⟩
theorem pss_cons (h1:PS X st t) (h2:PSs X rest u):PSs X (st :: rest) (tSeq t u):=by
  intro pins s σ H D I h
  refine wpAny_execs_cons (thn (h1 pins s σ H { D with nx:=u D } I h) fun f s1 q=>?_)
  cases f with
  | next =>
    obtain ⟨σ',H',I',q⟩:=q
    exact h2 pins s1 σ' H' D I' q
  | ret v=>exact q
  | brk=>exact q
  | cont=>exact q
theorem pss_one (h1:PS X st t):PSs X [st] t:=by
  intro pins s σ H D I h
  refine wpAny_execs_cons (thn (h1 pins s σ H D I h) fun f s1 q=>?_)
  cases f with
  | next=>exact wpAny_execs_nil q
  | ret v=>exact q
  | brk=>exact q
  | cont=>exact q
theorem Inv.quiet {pins:List (Addr × Obj)} {σ:St} {H:Hp} {s:Shared} (I:Inv X pins σ H s):interactive X.env=false:=by simp [interactive,I.ok.kind]
def tDrop (te:TE):TS:=fun D σ H=>te σ H fun _ H1=>D.nx σ H1
theorem ps_expr (he:PE X e te) (hs:swapsWith e none pos.line X.env=pure false:=by rfl):PS X (.Expr e pos) (tDrop te):=by
  intro pins s σ H D I h
  exact wpAny_Expr_any (thn (he pins s σ H _ I h) fun v s1 ⟨x,H1,I1,r1,q1⟩=>⟨σ,H1,I1,q1⟩) I.quiet hs
def tRet (te:TE):TS:=fun D σ H=>te σ H D.rt
theorem ps_ret (he:PE X e te):PS X (.Return (some e) pos) (tRet te):=by
  intro pins s σ H D I h
  exact wpAny_Return_some (thn (he pins s σ H _ I h) fun v s1 ⟨x,H1,I1,r1,q1⟩=>⟨x,σ,H1,I1,r1,q1⟩)
def tIfS (c:TT) (t u:TS):TS:=fun D σ H=>c σ H fun b H1=>if b=true then t D σ H1 else u D σ H1
theorem ps_if {c:Expr} {a b:List Stmt} {tc:TT} (hc:PT X c tc) (ha:PSs X a t) (hb:PSs X b u):PS X (.If c a b pos) (tIfS tc t u):=by
  intro pins s σ H D I h
  refine wpAny_If (thn (hc pins s σ H _ I h) fun d s1 ⟨H1,I1,q1⟩=>?_)
  cases d with
  | true=>exact ha pins s1 σ H1 D I1 q1
  | false=>exact hb pins s1 σ H1 D I1 q1
end
abbrev TG:=V→St→Hp→(St→Hp→Prop)→Prop
abbrev TGs:=List V→St→Hp→(St→Hp→Prop)→Prop
def PG (X:Cx) (target:Expr) (t:TG):Prop :=
  ∀ (pins:List (Addr × Obj)) (s:Shared) (σ:St) (H:Hp) (v:V) (u:Value) (Q:St→Hp→Prop),Inv X pins σ H s→RelV v u→t v σ H Q →
    wpAny (model X.prog X.w) X.A (assign target X.env u) (fun _ s'=>∃ σ' H',Inv X pins σ' H' s'∧Q σ' H') X.xe s
def PGs (X:Cx) (ts:List Expr) (t:TGs):Prop :=
  ∀ (pins:List (Addr × Obj)) (s:Shared) (σ:St) (H:Hp) (vs:List V) (us:List Value) (Q:St→Hp→Prop),Inv X pins σ H s→Vals vs us→t vs σ H Q →
    wpAny (model X.prog X.w) X.A (assignInOrder ((assignEach ts X.env).map (·.2)) us) (fun _ s'=>∃ σ' H',Inv X pins σ' H' s'∧Q σ' H') X.xe s
section
variable {X:Cx} {pos:Pos}
def gName (i:Nat):TG:=fun v σ H Q=>Q (σ.set i (some v)) H
theorem pg_name {i:Nat} {x:Str} (hN:X.N.Nodup) (hi:X.N[i]?=some x) (hx:Loc X.env.scope x) (hf:X.fn x=true ∨ X.env.scope.names.lookup x=some .local:=by first | exact .inl rfl | exact .inr rfl | assumption):PG X (.Name x pos) (gName i):=by
  intro pins s σ H v u Q I r h
  exact wpAny_assign_Name (store_ok I hN hi hx r (fun s' I'=>⟨_,H,I',h⟩) hf)
def gNil:TGs:=fun vs σ H Q=>vs=[]∧Q σ H
def gCons (t:TG) (u:TGs):TGs:=fun vs σ H Q=>∃ v r,vs=v :: r∧t v σ H fun σ' H'=>u r σ' H' Q
theorem pgs_nil:PGs X [] gNil:=by
  intro pins s σ H vs us Q I r h
  obtain ⟨e,h⟩:=h
  subst e
  cases r
  exact assignInOrder_nil ⟨σ,H,I,h⟩
theorem pgs_cons {e:Expr} {es:List Expr} {t:TG} {u:TGs} (h1:PG X e t) (h2:PGs X es u)
    (hs:(assignEach (e :: es) X.env).map (·.2)=assign e X.env :: (assignEach es X.env).map (·.2):=by rfl):PGs X (e :: es) (gCons t u):=by
  intro pins s σ H vs us Q I r h
  obtain ⟨v,vr,e1,h⟩:=h
  subst e1
  cases r with
  | cons r rr =>
    rw [hs]
    refine assignInOrder_cons (thn (h1 pins s σ H _ _ _ I r h) fun _ s1 ⟨σ1,H1,I1,q1⟩=>?_)
    exact h2 pins s1 σ1 H1 _ _ Q I1 rr q1
def gTup (K:PySem.W.Frag) (n:Nat) (t:TGs):TG:=fun v σ H Q=>∃ a xs,v=.ref a∧SqT K H a xs∧xs.length=n∧t xs σ H Q
theorem pg_tup {es:List Expr} {k:Nat} {t:TGs} {n:Nat} (hc:X.calm=true) (h:PGs X es t)
    (hn:(assignEach es X.env).length=n:=by rfl) (hst:(assignEach es X.env).findIdx? (·.1)=none:=by rfl):PG X (.Tuple es k pos) (gTup X.K n t):=by
  intro pins s σ H v u Q I r hw
  obtain ⟨a,xs,e1,hq,hl,hw⟩:=hw
  subst e1
  cases r
  obtain ⟨its,rv,ht,hz⟩:=I.tuple hq
  refine assign_Tuple_tuple (I.ok.hd hc) ht (by simp [hn,← hl,rv.length]) hst fun h' hx=>?_
  have I1:Inv X pins σ H { s with heap:=h' }:=I.kept (t':=s.toks) fun b o e=>hx b o (Nat.ne_of_lt (Heap.lt_size e)) e
  exact h pins _ σ H xs _ Q I1 (by simpa using rv) hw
def tAsg (te:TE) (g:TG):TS:=fun D σ H=>te σ H fun x H1=>g x σ H1 D.nx
theorem ps_asg {tg e:Expr} {te:TE} {g:TG} (he:PE X e te) (hg:PG X tg g) (hs:swapsWithSole [tg] e pos.line X.env=pure false:=by rfl) (hw:swappedStores [tg] e X.env=pure none:=by rfl)
    (h1:(assignEach [tg] X.env).map (·.2)=[assign tg X.env]:=by rfl):PS X (.Assign [tg] e pos) (tAsg te g):=by
  intro pins s σ H D I h
  refine wpAny_Assign_stores (thn (he pins s σ H _ I h) fun v s1 ⟨x,H1,I1,r1,q1⟩=>?_) hs hw
  rw [h1]
  exact thn (hg pins s1 σ H1 x v _ I1 r1 q1) fun _ s2 q=>q
theorem ps_set {i:Nat} {x:Str} {e:Expr} {te:TE} {pos':Pos} (hN:X.N.Nodup) (hi:X.N[i]?=some x) (hx:Loc X.env.scope x) (he:PE X e te) (hs:swapsWith e (some (.Name x pos')) pos.line X.env=pure false:=by rfl) (hf:X.fn x=true ∨ X.env.scope.names.lookup x=some .local:=by first | exact .inl rfl | exact .inr rfl | assumption) :
    PS X (.Assign [.Name x pos'] e pos) (tAsg te (gName i)):=by
  intro pins s σ H D I h
  refine wpAny_Assign_Name (thn (he pins s σ H _ I h) fun v s1 ⟨y,H1,I1,r1,q1⟩=>?_) hs
  exact store_ok I1 hN hi hx r1 (fun s2 I2=>⟨_,H1,I2,q1⟩) hf
end
section
variable {X:Cx} {pos:Pos}
def tWhile (c:TT) (tb:TS):TS:=fun D σ H=>∃ W:Nat→St→Hp→Prop,(∃ m,W m σ H)∧∀ m σ H,W m σ H →
  c σ H fun b H1=>if b=true then ∃ N:St→Hp→Prop,(∀ σ' H',N σ' H'→∃ m',m' < m∧W m' σ' H')∧tb { D with nx:=N,ct:=N,bk:=D.nx } σ H1 else D.nx σ H1
theorem ps_while {c:Expr} {body:List Stmt} {tc:TT} {tb:TS} (hp:PassesOwn (model X.prog X.w) X.A X.env X.xe) (hc:PT X c tc) (hb:PSs X body tb):PS X (.While c body [] pos) (tWhile tc tb):=by
  intro pins s σ H D I h
  obtain ⟨W,⟨m0,w0⟩,turn⟩:=h
  refine wpAny_While (codeAny_whileLoop (fun n s'=>∃ σ' H',Inv X pins σ' H' s'∧W n σ' H') ?_ m0 ⟨σ,H,I,w0⟩)
  rintro n s1 ⟨σ1,H1,I1,w1⟩
  refine wpAny_passesOwn hp (thn (hc pins s1 σ1 H1 _ I1 (turn n σ1 H1 w1)) fun b s2 ⟨H2,I2,q2⟩=>?_)
  cases b with
  | true =>
    obtain ⟨N,hN,q2⟩:=q2
    rw [if_pos rfl]
    refine wpAny_passesOwn hp (thn (hb pins s2 σ1 H2 _ I2 q2) fun f s3 q3=>?_)
    cases f with
    | next =>
      obtain ⟨σ3,H3,I3,n3⟩:=q3
      obtain ⟨m',hm,w3⟩:=hN σ3 H3 n3
      exact ⟨m',hm,σ3,H3,I3,w3⟩
    | cont =>
      obtain ⟨σ3,H3,I3,n3⟩:=q3
      obtain ⟨m',hm,w3⟩:=hN σ3 H3 n3
      exact ⟨m',hm,σ3,H3,I3,w3⟩
    | brk=>exact q3
    | ret v=>exact q3
  | false =>
    rw [if_neg Bool.false_ne_true]
    exact wpAny_execs_nil ⟨σ1,H2,I2,q2⟩
end
structure It where
  go:Nat→Hp→Prop
  yld:Nat→Hp→V→Hp→Prop
  stop:Nat→Hp→Prop
def FpOk (X:Cx) (pins:List (Addr × Obj)) (H:Hp) (b:Addr):Prop :=
  H b=none∧b ≠ X.env.locals∧b ∉ X.fs∧(b ∈ X.ex ∨ X.s₀.heap.objs.size ≤ b)∧(∀ x c,X.env.cells.lookup x=some c→c ≠ b)∧∀ p ∈ X.pn ++ pins,p.1 ≠ b
theorem Inv.fpOk {X:Cx} {pins:List (Addr × Obj)} {σ:St} {H H':Hp} {s:Shared} {b:Addr} (I:Inv X pins σ H s) (hb:s.heap.objs.size ≤ b) (hn:H' b=none):FpOk X pins H' b:=by
  refine ⟨hn,Nat.ne_of_gt (Nat.lt_of_lt_of_le I.lt hb),I.nofs hb,.inr (Nat.le_trans I.sz hb),fun x c e z=>?_,fun p hp z=>?_⟩
  · obtain ⟨v,q⟩:=I.cell x c e
    exact absurd (Nat.lt_of_lt_of_le q.lt (by rw [z]; exact hb)) (Nat.lt_irrefl _)
  · exact absurd (Nat.lt_of_lt_of_le (Heap.lt_size (I.pin p hp).1) (by rw [z]; exact hb)) (Nat.lt_irrefl _)
structure Turn (P:Program) (w:World) (K:PySem.W.Frag) (tg:Expr) (J:It) (fp:List Addr) (it:Addr) (tn:Nat→Heap→Prop):Prop where
  mem:it ∈ fp
  obj:∀ i h,tn i h→∀ b ∈ fp,∃ o,h.get? b=some o∧∀ v,o.data ≠ .cell v
  keep:∀ i h h',tn i h→(∀ b ∈ fp,∀ o,h.get? b=some o→h'.get? b=some o)→tn i h'
  item:∀ (X:Cx),X.prog=P→X.w=w→X.K=K→X.calm=true→∀ (i:Nat) (pins:List (Addr × Obj)) (s:Shared) (σ:St) (H:Hp) (E:Value→Shared→Prop),Inv X pins σ H s→(∀ b ∈ fp,FpOk X pins H b)→tn i s.heap→J.go i H →
    wpAny (model P w) X.A (pyNext (.ref it)) (fun r s1=>∃ u,r=some u ∧
      wpAny (model P w) X.A (letOwnedTupleGo tg (.ref it) u) (fun _ s2=>∃ x H',Inv X pins σ H' s2∧RelV x u∧J.yld i H x H'∧tn (i + 1) s2.heap∧∀ b ∈ fp,H' b=none) E s1) E s
  done:∀ (X:Cx),X.prog=P→X.w=w→X.K=K→X.calm=true→∀ (i:Nat) (pins:List (Addr × Obj)) (s:Shared) (σ:St) (H:Hp) (E:Value→Shared→Prop),Inv X pins σ H s→(∀ b ∈ fp,FpOk X pins H b)→tn i s.heap→J.stop i H →
    wpAny (model P w) X.A (pyNext (.ref it)) (fun r s1=>r=none∧Inv X pins σ H s1) E s
  self:∀ (A:Around) (i:Nat) (s:Shared) (Q:Value→Shared→Prop) (E:Value→Shared→Prop),tn i s.heap→Q (.ref it) s→wpAny (model P w) A (pyIter (.ref it)) Q E s
abbrev TI:=St→Hp→(It→Hp→Prop)→Prop
def PIE (X:Cx) (pins:List (Addr × Obj)) (σ:St) (tg:Expr) (R:It→Hp→Prop) (itv:Value) (s2:Shared):Prop :=
  ∃ (it:Addr) (fp:List Addr) (tn:Nat→Heap→Prop) (J:It) (H':Hp),itv=.ref it∧Inv X pins σ H' s2∧Turn X.prog X.w X.K tg J fp it tn∧tn 0 s2.heap∧(∀ b ∈ fp,FpOk X pins H' b)∧R J H'
def PI (X:Cx) (tg iter:Expr) (wi:TI):Prop :=
  ∀ (pins:List (Addr × Obj)) (s:Shared) (σ:St) (H:Hp) (R:It→Hp→Prop),Inv X pins σ H s→wi σ H R →
    wpAny (model X.prog X.w) X.A (eval iter X.env) (fun v s1=>wpAny (model X.prog X.w) X.A (pyIter v) (PIE X pins σ tg R) X.xe s1) X.xe s
theorem go_of {M:Model} {A:Around} {E:Value→Shared→Prop} {s:Shared} {tg:Expr} {it:Addr} {u:Value} {o:Obj} {n:String} {vs:Array Value} {Q:Unit→Shared→Prop} (ho:s.heap.get? it=some o) (hc:o.cls=.type n) (hd:o.data=.fields vs)
    (hn:["enumerate","zip","dict_itemiterator","dict_reverseitemiterator","odict_iterator","itertools.zip_longest","itertools.pairwise"].contains n=false) (hQ:Q () s):wpAny M A (letOwnedTupleGo tg (.ref it) u) Q E s:=by
  unfold letOwnedTupleGo
  cases tg <;> first
    | exact wpAny_pure hQ
    | (cases u <;> first
        | exact wpAny_pure hQ
        | (refine wpAny_bind (wpAny_load ho ?_)
           rw [hc,hd]
           show wpAny M A (if (["enumerate","zip","dict_itemiterator","dict_reverseitemiterator","odict_iterator","itertools.zip_longest","itertools.pairwise"].contains n && vs[0]? == some (rawInt _))=true then _ else _) Q E s
           rw [if_neg (by intro h; rw [hn,Bool.false_and] at h; cases h)]
           exact wpAny_pure hQ))
def Itl (K:PySem.W.Frag) (a:Addr):It :=
  ⟨fun i H=>∃ xs x,SqL K H a xs∧xs[i]?=some x,fun i H x H'=>H'=H∧∀ xs,SqL K H a xs→xs[i]?=some x,fun i H=>∃ xs,SqL K H a xs∧xs.length ≤ i⟩
def Itt (K:PySem.W.Frag) (a:Addr):It :=
  ⟨fun i H=>∃ xs x,SqT K H a xs∧xs[i]?=some x,fun i H x H'=>H'=H∧∀ xs,SqT K H a xs→xs[i]?=some x,fun i H=>∃ xs,SqT K H a xs∧xs.length ≤ i⟩
def Itr (lo:Int) (n:Nat):It:=⟨fun i _=>i < n,fun i H x H'=>H'=H∧x=.int (lo + i),fun i _=>n ≤ i⟩
theorem turn_list {P:Program} {w:World} {K:PySem.W.Frag} {tg:Expr} (a it:Addr):Turn P w K tg (Itl K a) [it] it (fun i h=>h.IsListIter it a i) where
  mem:=by simp
  obj:=fun i h st b hb=>by
    have e:b=it:=by simpa using hb
    subst e
    obtain ⟨o,e,c,d⟩:=st
    exact ⟨o,e,fun v z=>by rw [d] at z; cases z⟩
  keep:=fun i h h' st k=>st.at fun o e=>k it (by simp) o e
  item:=by
    intro X hP hw hK hc i pins s σ H E I hf st hg
    subst hP hw hK
    obtain ⟨xs,x,hq,hx⟩:=hg
    obtain ⟨its,rv,p,hz⟩:=I.list hq
    obtain ⟨u,hu,ru⟩:=rv.get hx
    obtain ⟨f0,f1,f2,f3,f4,f5⟩:=hf it (by simp)
    refine wpAny_pyNext_list_item st p.isList (x:=u) (by simpa using hu) fun h' st' sb=>?_
    have I1:Inv X pins σ H { s with heap:=h' }:=I.turned (t':=s.toks) (fun b o hb e=>(sb.2 b hb).trans e) f0 f1 f3 f4 f5
    obtain ⟨o,e,c,d⟩:=id st'
    exact ⟨u,rfl,go_of (s:={ s with heap:=h' }) e c d (by decide) ⟨x,H,I1,ru,⟨rfl,fun ys hy=>by rw [I.list_inj hy hq]; exact hx⟩,st',fun b hb=>(hf b hb).1⟩⟩
  done:=by
    intro X hP hw hK hc i pins s σ H E I hf st hg
    subst hP hw hK
    obtain ⟨xs,hq,hx⟩:=hg
    obtain ⟨its,rv,p,hz⟩:=I.list hq
    obtain ⟨f0,f1,f2,f3,f4,f5⟩:=hf it (by simp)
    have hl:=rv.length
    exact wpAny_pyNext_list_end (I.ok.hd hc) st p.isList (by simp; omega) fun h' eb=>⟨rfl,I.turned (t':=s.toks) (fun b o hb e=>eb b o hb e) f0 f1 f3 f4 f5⟩
  self:=fun _ _ _ _ _ st h=>wpAny_pyIter_listiter st h
theorem turn_tuple {P:Program} {w:World} {K:PySem.W.Frag} {tg:Expr} (a it:Addr):Turn P w K tg (Itt K a) [it] it (fun i h=>h.IsTupleIter it a i) where
  mem:=by simp
  obj:=fun i h st b hb=>by
    have e:b=it:=by simpa using hb
    subst e
    obtain ⟨o,e,c,d⟩:=st
    exact ⟨o,e,fun v z=>by rw [d] at z; cases z⟩
  keep:=fun i h h' st k=>st.at fun o e=>k it (by simp) o e
  item:=by
    intro X hP hw hK hc i pins s σ H E I hf st hg
    subst hP hw hK
    obtain ⟨xs,x,hq,hx⟩:=hg
    obtain ⟨its,rv,p,hz⟩:=I.tuple hq
    obtain ⟨u,hu,ru⟩:=rv.get hx
    obtain ⟨f0,f1,f2,f3,f4,f5⟩:=hf it (by simp)
    refine wpAny_pyNext_tuple_item st (show s.heap.IsTuple a its.toArray from p) (x:=u) (by simpa using hu) fun h' st' sb=>?_
    have I1:Inv X pins σ H { s with heap:=h' }:=I.turned (t':=s.toks) (fun b o hb e=>(sb.2 b hb).trans e) f0 f1 f3 f4 f5
    obtain ⟨o,e,c,d⟩:=id st'
    exact ⟨u,rfl,go_of (s:={ s with heap:=h' }) e c d (by decide) ⟨x,H,I1,ru,⟨rfl,fun ys hy=>by rw [I.tuple_inj hy hq]; exact hx⟩,st',fun b hb=>(hf b hb).1⟩⟩
  done:=by
    intro X hP hw hK hc i pins s σ H E I hf st hg
    subst hP hw hK
    obtain ⟨xs,hq,hx⟩:=hg
    obtain ⟨its,rv,p,hz⟩:=I.tuple hq
    obtain ⟨f0,f1,f2,f3,f4,f5⟩:=hf it (by simp)
    have hl:=rv.length
    exact wpAny_pyNext_tuple_end (I.ok.hd hc) st (show s.heap.IsTuple a its.toArray from p) (by simp; omega) fun h' eb=>⟨rfl,I.turned (t':=s.toks) (fun b o hb e=>eb b o hb e) f0 f1 f3 f4 f5⟩
  self:=fun _ _ _ _ _ st h=>wpAny_pyIter_tupleiter st h
theorem turn_range {P:Program} {w:World} {K:PySem.W.Frag} {tg:Expr} (it:Addr) (lo:Int) (n:Nat):Turn P w K tg (Itr lo n) [it] it (fun i h=>IsRangeIter h it (lo + (i:Nat) * 1) ((n:Int) - (i:Nat)) 1) where
  mem:=by simp
  obj:=fun i h st b hb=>by
    have e:b=it:=by simpa using hb
    subst e
    exact ⟨_,st,fun v z=>by
      have z':Data.fields _=Data.cell v:=z
      cases z'⟩
  keep:=fun i h h' st k=>k it (by simp) _ st
  item:=by
    intro X hP hw hK hc i pins s σ H E I hf st hg
    subst hP hw hK
    obtain ⟨f0,f1,f2,f3,f4,f5⟩:=hf it (by simp)
    have W:=Walks.range (prog:=X.prog) (w:=X.w) (I.ok.hd hc) it lo 1 n
    refine W.item i s _ _ hg st fun v h' tk hv st' kk=>?_
    obtain ⟨t,rfl⟩:=hv
    have I1:Inv X pins σ H { s with heap:=h',toks:=tk }:=I.turned (fun b o hb e=>kk b o (by simpa using hb) e) f0 f1 f3 f4 f5
    refine ⟨_,rfl,go_of (s:={ s with heap:=h',toks:=tk }) (n:="range_iterator") st' rfl rfl (by decide) ⟨.int (lo + i),H,I1,⟨t,?_⟩,⟨rfl,rfl⟩,st',fun b hb=>(hf b hb).1⟩⟩
    rw [Int.mul_one]
  done:=by
    intro X hP hw hK hc i pins s σ H E I hf st hg
    subst hP hw hK
    obtain ⟨f0,f1,f2,f3,f4,f5⟩:=hf it (by simp)
    exact wpAny_pyNext_range_end (I.ok.hd hc) st (by have:n ≤ i:=hg; omega) fun h' eb=>⟨rfl,I.turned (t':=s.toks) (fun b o hb e=>eb b o hb e) f0 f1 f3 f4 f5⟩
  self:=fun _ _ _ _ _ st h=>wpAny_pyIter_rangeiter st h
end L2
namespace L2
open PySem PySem.Spec PyProof.Rows
section
variable {X:Cx} {tg:Expr}
def iList (K:PySem.W.Frag) (tl:TE):TI:=fun σ H R=>tl σ H fun x H1=>∃ a,x=.ref a∧(∃ xs,SqL K H1 a xs)∧R (Itl K a) H1
def iTup (K:PySem.W.Frag) (tl:TE):TI:=fun σ H R=>tl σ H fun x H1=>∃ a,x=.ref a∧(∃ xs,SqT K H1 a xs)∧R (Itt K a) H1
theorem pi_list {l:Expr} {tl:TE} (hl:PE X l tl):PI X tg l (iList X.K tl):=by
  intro pins s σ H R I h
  refine thn (hl pins s σ H _ I h) fun v s1 ⟨x,H1,I1,r1,q1⟩=>?_
  obtain ⟨a,e,⟨xs,hq⟩,q⟩:=q1
  subst e
  cases r1
  obtain ⟨its,rv,p,hz⟩:=I1.list hq
  refine wpAny_pyIter_list p.isList ?_
  refine ⟨s1.heap.objs.size,[s1.heap.objs.size],_,_,H1,rfl,I1.kept (t':=s1.toks) fun b o e=>Heap.get?_push_of_some _ e,turn_list a _,⟨_,Heap.get?_push_size _ rfl,rfl,rfl⟩,fun b hb=>?_,q⟩
  have e:b=s1.heap.objs.size:=by simpa using hb
  subst e
  exact I1.fpOk (Nat.le_refl _) (I1.hok.fresh (Nat.le_refl _))
theorem pi_tup {l:Expr} {tl:TE} (hl:PE X l tl):PI X tg l (iTup X.K tl):=by
  intro pins s σ H R I h
  refine thn (hl pins s σ H _ I h) fun v s1 ⟨x,H1,I1,r1,q1⟩=>?_
  obtain ⟨a,e,⟨xs,hq⟩,q⟩:=q1
  subst e
  cases r1
  obtain ⟨its,rv,p,hz⟩:=I1.tuple hq
  refine wpAny_pyIter_tuple (show s1.heap.IsTuple a its.toArray from p) ?_
  refine ⟨s1.heap.objs.size,[s1.heap.objs.size],_,_,H1,rfl,I1.kept (t':=s1.toks) fun b o e=>Heap.get?_push_of_some _ e,turn_tuple a _,⟨_,Heap.get?_push_size _ rfl,rfl,rfl⟩,fun b hb=>?_,q⟩
  have e:b=s1.heap.objs.size:=by simpa using hb
  subst e
  exact I1.fpOk (Nat.le_refl _) (I1.hok.fresh (Nat.le_refl _))
theorem range_it {pins:List (Addr × Obj)} {σ:St} {H:Hp} {s:Shared} {R:It→Hp→Prop} {E:Value→Shared→Prop} {lo hi:Int} {t u v:Tok} {tk:Nat} (I:Inv X pins σ H s) (h1:-(2 ^ 62) ≤ lo) (h2:lo < 2 ^ 62) (h3:-(2 ^ 62) ≤ hi) (h4:hi < 2 ^ 62)
    (q:R (Itr lo (hi - lo).toNat) H):wpAny (model X.prog X.w) X.A (pyIter (.ref s.heap.objs.size)) (PIE X pins σ tg R) E { s with heap:=s.heap.push { cls:=.type "range",data:=.fields #[.int lo t,.int hi u,.int 1 v] },toks:=tk }:=by
  refine wpAny_pyIter_range (IsRange.new ..) (small_one h1 h2 h3 h4) ?_
  have I1:Inv X pins σ H { s with heap:=s.heap.push { cls:=.type "range",data:=.fields #[.int lo t,.int hi u,.int 1 v] },toks:=tk }:=I.kept fun b o e=>Heap.get?_push_of_some _ e
  refine ⟨(s.heap.push { cls:=.type "range",data:=.fields #[.int lo t,.int hi u,.int 1 v] }).objs.size,[(s.heap.push { cls:=.type "range",data:=.fields #[.int lo t,.int hi u,.int 1 v] }).objs.size],_,_,H,rfl,
    I1.kept (t':=tk) fun b o e=>Heap.get?_push_of_some _ e,turn_range _ lo (hi - lo).toNat,?_,fun b hb=>?_,q⟩
  · have e1:lo + ((0:Nat):Int) * 1=lo:=by simp
    have e2:(((hi - lo).toNat:Nat):Int) - ((0:Nat):Int)=Builtin.Range.rangeSize lo hi 1:=by rw [rangeSize_one]; split <;> omega
    show IsRangeIter _ _ (lo + ((0:Nat):Int) * 1) ((((hi - lo).toNat:Nat):Int) - ((0:Nat):Int)) 1
    rw [e1,e2]
    exact Heap.get?_push_size _ rfl
  · have e:b=(s.heap.push { cls:=.type "range",data:=.fields #[.int lo t,.int hi u,.int 1 v] }).objs.size:=by simpa using hb
    subst e
    exact I1.fpOk (Nat.le_refl _) (I1.hok.fresh (Nat.le_refl _))
def iRng1 (ta:TA):TI:=fun σ H R=>ta σ H fun vs H1=>∃ j:Int,vs=[.int j]∧-(2 ^ 62) ≤ j∧j < 2 ^ 62∧R (Itr 0 j.toNat) H1
def iRng2 (ta:TA):TI:=fun σ H R=>ta σ H fun vs H1=>∃ i j:Int,vs=[.int i,.int j]∧(-(2 ^ 62) ≤ i∧i < 2 ^ 62∧-(2 ^ 62) ≤ j∧j < 2 ^ 62)∧R (Itr i (j - i).toNat) H1
theorem pi_range1 {a:Expr} {ta:TA} {p pos:Pos} (hg:Gl X "range") (hm:X.mg "range"=none) (ha:PA X [a] ta) (hs:starEach [a] X.env=[(false,eval a X.env)]:=by rfl):PI X tg (.Call (.Name "range" p) [a] [] pos) (iRng1 ta):=by
  intro pins s σ H R I h
  refine Call_ (ld_blt I hg hm boot_range (PyProof.Rows.callWith_type1 (thn (ha pos pins s σ H _ I h) fun us s1 ⟨vs,H1,I1,r1,q1⟩=>?_) hs rfl))
  obtain ⟨j,e,q1,q2,q⟩:=q1
  subst e
  cases r1 with
  | cons r rr =>
    cases rr
    obtain ⟨t,rfl⟩:=r
    exact call_range_1 (range_it I1 (by omega) (by omega) q1 q2 (by simpa using q))
theorem pi_range2 {a b:Expr} {ta:TA} {p pos:Pos} (hg:Gl X "range") (hm:X.mg "range"=none) (ha:PA X [a,b] ta) (hs:starEach [a,b] X.env=[(false,eval a X.env),(false,eval b X.env)]:=by rfl) (hs2:starEach [b] X.env=[(false,eval b X.env)]:=by rfl) :
    PI X tg (.Call (.Name "range" p) [a,b] [] pos) (iRng2 ta):=by
  intro pins s σ H R I h
  refine Call_ (ld_blt I hg hm boot_range (PyProof.Rows.callWith_type1 (thn (ha pos pins s σ H _ I h) fun us s1 ⟨vs,H1,I1,r1,q1⟩=>?_) (by rw [hs,hs2]) (by rw [hs2]; rfl)))
  obtain ⟨i,j,e,⟨q1,q2,q3,q4⟩,q⟩:=q1
  subst e
  cases r1 with
  | cons r rr =>
    cases rr with
    | cons r' rr =>
      cases rr
      obtain ⟨t,rfl⟩:=r
      obtain ⟨t',rfl⟩:=r'
      exact call_range_2 (range_it I1 q1 q2 q3 q4 q)
def tFor (wi:TI) (g:TG) (tb:TS):TS:=fun D σ H=>wi σ H fun J H1=>∃ W:Nat→Nat→St→Hp→Prop,(∃ m,W 0 m σ H1)∧∀ i m σ H,W i m σ H →
  (J.stop i H∧D.nx σ H) ∨ (J.go i H∧∃ N:St→Hp→Prop,(∀ σ' H',N σ' H'→∃ m',m' < m∧W (i + 1) m' σ' H')∧∀ x H',J.yld i H x H'→g x σ H' fun σ2 H2=>tb { D with nx:=N,ct:=N,bk:=D.nx } σ2 H2)
def pinsAt (fp:List Addr) (h:Heap):List (Addr × Obj):=fp.filterMap fun b=>(h.get? b).map fun o=>(b,o)
theorem mem_pinsAt {fp:List Addr} {h:Heap} {b:Addr} {o:Obj} (hb:b ∈ fp) (e:h.get? b=some o):(b,o) ∈ pinsAt fp h:=List.mem_filterMap.mpr ⟨b,hb,by rw [e]; rfl⟩
theorem of_pinsAt {fp:List Addr} {h:Heap} {p:Addr × Obj} (hp:p ∈ pinsAt fp h):p.1 ∈ fp∧h.get? p.1=some p.2:=by
  obtain ⟨b,hb,e⟩:=List.mem_filterMap.mp hp
  cases q:h.get? b with
  | none=>rw [q] at e; cases e
  | some o =>
    rw [q] at e
    have e':(b,o)=p:=Option.some.inj e
    subst e'
    exact ⟨hb,q⟩
theorem Inv.pinned {pins:List (Addr × Obj)} {σ:St} {H:Hp} {s:Shared} {fp:List Addr} (I:Inv X pins σ H s) (hf:∀ b ∈ fp,FpOk X pins H b) (ho:∀ b ∈ fp,∃ o,s.heap.get? b=some o∧∀ v,o.data ≠ .cell v):Inv X (pins ++ pinsAt fp s.heap) σ H s :=
  I.pins_of fun p hp=>(List.mem_append.mp hp).elim (fun z=>I.pin p (List.mem_append_right _ z)) fun z=>by
    obtain ⟨hb,e⟩:=of_pinsAt z
    obtain ⟨f0,f1,f2,_⟩:=hf p.1 hb
    obtain ⟨o,e',d⟩:=ho p.1 hb
    rw [e] at e'; cases e'
    exact ⟨e,f0,f1,f2,d⟩
theorem Inv.unpinned {pins pl:List (Addr × Obj)} {σ:St} {H:Hp} {s:Shared} (I:Inv X (pins ++ pl) σ H s):Inv X pins σ H s:=I.pins_of fun p hp=>I.pin p (List.mem_append_right _ (List.mem_append_left _ hp))
theorem ps_for {iter:Expr} {body:List Stmt} {wi:TI} {g:TG} {tb:TS} {pos:Pos} (hp:PassesOwn (model X.prog X.w) X.A X.env X.xe) (hc:X.calm=true) (hi:PI X tg iter wi) (hg:PG X tg g) (hb:PSs X body tb)
    (hs:∀ x,foldedSetIterable iter X.env x=pure x:=by intro _; rfl):PS X (.For tg iter body [] pos) (tFor wi g tb):=by
  intro pins s σ H D I h
  refine wpAny_For (thn (hi pins s σ H _ I h) fun v s1 h1=>thn h1 fun itv s2 h2=>?_) hs
  obtain ⟨it,fp,tn,J,H2,e,I2,T,st2,f2,W,⟨m0,w0⟩,turn⟩:=h2
  subst e
  -- what stays true of the iterator's objects through the loop
  have stat:∀ {H':Hp},(∀ b ∈ fp,H' b=none)→∀ b ∈ fp,FpOk X pins H' b:=fun hn b hb=>⟨hn b hb,(f2 b hb).2⟩
  refine codeAny_forLoop_any (fun n s'=>∃ i σ' H',Inv X pins σ' H' s'∧tn i s'.heap∧(∀ b ∈ fp,H' b=none)∧W i n σ' H') ?_ m0 ⟨0,σ,H2,I2,st2,fun b hb=>(f2 b hb).1,w0⟩
  rintro n s3 ⟨i,σ3,H3,I3,st3,fr3,w3⟩
  rcases turn i n σ3 H3 w3 with ⟨stop,qn⟩ | ⟨go,N,hN,step⟩
  · refine wpAny_passesOwn hp (thn (T.done X rfl rfl rfl hc i pins s3 σ3 H3 X.xe I3 (stat fr3) st3 stop) fun r s4 ⟨hr,I4⟩=>?_)
    subst hr
    exact wpAny_execs_nil ⟨σ3,H3,I4,qn⟩
  · refine wpAny_passesOwn hp (thn (T.item X rfl rfl rfl hc i pins s3 σ3 H3 X.xe I3 (stat fr3) st3 go) fun r s4 ⟨u,hr,h4⟩=>?_)
    subst hr
    refine wpAny_passesOwn hp (thn h4 fun _ s5 ⟨x,H5,I5,r5,y5,st5,fr5⟩=>?_)
    have I5':=I5.pinned (stat fr5) (T.obj _ _ st5)
    refine wpAny_passesOwn hp (thn (hg _ s5 σ3 H5 x u _ I5' r5 (step x H5 y5)) fun _ s6 ⟨σ6,H6,I6,q6⟩=>?_)
    refine wpAny_passesOwn hp (thn (hb _ s6 σ6 H6 _ I6 q6) fun f s7 q7=>?_)
    have again:∀ {σ7:St} {H7:Hp},Inv X (pins ++ pinsAt fp s5.heap) σ7 H7 s7→N σ7 H7→∃ m,m < n∧∃ i σ' H',Inv X pins σ' H' s7∧tn i s7.heap∧(∀ b ∈ fp,H' b=none)∧W i m σ' H':=fun {σ7 H7} I7 n7=>by
      obtain ⟨m',hm,w7⟩:=hN σ7 H7 n7
      refine ⟨m',hm,i + 1,σ7,H7,I7.unpinned,T.keep _ _ _ st5 fun b hb o e=>(I7.pin (b,o) (List.mem_append_right _ (List.mem_append_right _ (mem_pinsAt hb e)))).1,fun b hb=>?_,w7⟩
      obtain ⟨o,e,d⟩:=T.obj _ _ st5 b hb
      exact (I7.pin (b,o) (List.mem_append_right _ (List.mem_append_right _ (mem_pinsAt hb e)))).2.1
    cases f with
    | next=>obtain ⟨σ7,H7,I7,n7⟩:=q7; exact again I7 n7
    | cont=>obtain ⟨σ7,H7,I7,n7⟩:=q7; exact again I7 n7
    | brk=>obtain ⟨σ7,H7,I7,q7⟩:=q7; exact ⟨σ7,H7,I7.unpinned,q7⟩
    | ret v=>obtain ⟨x7,σ7,H7,I7,r7,q7⟩:=q7; exact ⟨x7,σ7,H7,I7.unpinned,r7,q7⟩
end
theorem for_list {K:PySem.W.Frag} {a:Addr} {xs:List V} {g:TG} {tb:TS} {D:Ends} {σ:St} {H:Hp} (Pv:Nat→St→Hp→Prop) (h0:Pv 0 σ H) (hl:∀ i σ H,i ≤ xs.length→Pv i σ H→SqL K H a xs)
    (hs:∀ i x σ H,xs[i]?=some x→Pv i σ H→g x σ H fun σ2 H2=>tb { D with nx:=Pv (i + 1),ct:=Pv (i + 1),bk:=D.nx } σ2 H2) (hd:∀ σ H,Pv xs.length σ H→D.nx σ H) :
    ∃ W:Nat→Nat→St→Hp→Prop,(∃ m,W 0 m σ H)∧∀ i m σ H,W i m σ H →
      ((Itl K a).stop i H∧D.nx σ H) ∨ ((Itl K a).go i H∧∃ N:St→Hp→Prop,(∀ σ' H',N σ' H'→∃ m',m' < m∧W (i + 1) m' σ' H')∧∀ x H',(Itl K a).yld i H x H'→g x σ H' fun σ2 H2=>tb { D with nx:=N,ct:=N,bk:=D.nx } σ2 H2):=by
  refine ⟨fun i m σ H=>m=xs.length - i∧i ≤ xs.length∧Pv i σ H,⟨xs.length,by simp,Nat.zero_le _,h0⟩,?_⟩
  rintro i m σ H ⟨rfl,hi,p⟩
  have q:=hl i σ H hi p
  by_cases hlt:i < xs.length
  · refine .inr ⟨⟨xs,xs[i],q,by simp [hlt]⟩,Pv (i + 1),fun σ' H' p'=>⟨xs.length - (i + 1),by omega,rfl,hlt,p'⟩,fun x H' y=>?_⟩
    obtain ⟨e,y⟩:=y
    subst e
    exact hs i x σ _ (y xs q) p
  · have e:i=xs.length:=by omega
    subst e
    exact .inl ⟨⟨xs,q,Nat.le_refl _⟩,hd σ H p⟩
theorem for_tup {K:PySem.W.Frag} {a:Addr} {xs:List V} {g:TG} {tb:TS} {D:Ends} {σ:St} {H:Hp} (Pv:Nat→St→Hp→Prop) (h0:Pv 0 σ H) (hl:∀ i σ H,i ≤ xs.length→Pv i σ H→SqT K H a xs)
    (hs:∀ i x σ H,xs[i]?=some x→Pv i σ H→g x σ H fun σ2 H2=>tb { D with nx:=Pv (i + 1),ct:=Pv (i + 1),bk:=D.nx } σ2 H2) (hd:∀ σ H,Pv xs.length σ H→D.nx σ H) :
    ∃ W:Nat→Nat→St→Hp→Prop,(∃ m,W 0 m σ H)∧∀ i m σ H,W i m σ H →
      ((Itt K a).stop i H∧D.nx σ H) ∨ ((Itt K a).go i H∧∃ N:St→Hp→Prop,(∀ σ' H',N σ' H'→∃ m',m' < m∧W (i + 1) m' σ' H')∧∀ x H',(Itt K a).yld i H x H'→g x σ H' fun σ2 H2=>tb { D with nx:=N,ct:=N,bk:=D.nx } σ2 H2):=by
  refine ⟨fun i m σ H=>m=xs.length - i∧i ≤ xs.length∧Pv i σ H,⟨xs.length,by simp,Nat.zero_le _,h0⟩,?_⟩
  rintro i m σ H ⟨rfl,hi,p⟩
  have q:=hl i σ H hi p
  by_cases hlt:i < xs.length
  · refine .inr ⟨⟨xs,xs[i],q,by simp [hlt]⟩,Pv (i + 1),fun σ' H' p'=>⟨xs.length - (i + 1),by omega,rfl,hlt,p'⟩,fun x H' y=>?_⟩
    obtain ⟨e,y⟩:=y
    subst e
    exact hs i x σ _ (y xs q) p
  · have e:i=xs.length:=by omega
    subst e
    exact .inl ⟨⟨xs,q,Nat.le_refl _⟩,hd σ H p⟩
theorem for_range {lo:Int} {n:Nat} {g:TG} {tb:TS} {D:Ends} {σ:St} {H:Hp} (Pv:Nat→St→Hp→Prop) (h0:Pv 0 σ H)
    (hs:∀ i σ H,i < n→Pv i σ H→g (.int (lo + i)) σ H fun σ2 H2=>tb { D with nx:=Pv (i + 1),ct:=Pv (i + 1),bk:=D.nx } σ2 H2) (hd:∀ σ H,Pv n σ H→D.nx σ H) :
    ∃ W:Nat→Nat→St→Hp→Prop,(∃ m,W 0 m σ H)∧∀ i m σ H,W i m σ H →
      ((Itr lo n).stop i H∧D.nx σ H) ∨ ((Itr lo n).go i H∧∃ N:St→Hp→Prop,(∀ σ' H',N σ' H'→∃ m',m' < m∧W (i + 1) m' σ' H')∧∀ x H',(Itr lo n).yld i H x H'→g x σ H' fun σ2 H2=>tb { D with nx:=N,ct:=N,bk:=D.nx } σ2 H2):=by
  refine ⟨fun i m σ H=>m=n - i∧i ≤ n∧Pv i σ H,⟨n,by simp,Nat.zero_le _,h0⟩,?_⟩
  rintro i m σ H ⟨rfl,hi,p⟩
  by_cases hlt:i < n
  · refine .inr ⟨hlt,Pv (i + 1),fun σ' H' p'=>⟨n - (i + 1),by omega,rfl,hlt,p'⟩,fun x H' y=>?_⟩
    obtain ⟨e,y⟩:=y
    subst e y
    exact hs i σ _ hlt p
  · have e:i=n:=by omega
    subst e
    exact .inl ⟨Nat.le_refl _,hd σ H p⟩
end L2
namespace L2
open PySem PySem.Spec PyProof.Rows
abbrev R2:=V→V→Hp→VK→Prop
def OpR (X:Cx) (f:Value→Value→Sem Value) (r:R2):Prop :=
  ∀ (pins:List (Addr × Obj)) (s:Shared) (σ:St) (H:Hp) (x y:V) (v u:Value) (Q:VK),Inv X pins σ H s→RelV x v→RelV y u→r x y H Q →
    wpAny (model X.prog X.w) X.A (f v u) (EP X pins σ Q) X.xe s
def UnR (X:Cx) (f:Value→Sem Value) (r:V→Hp→VK→Prop):Prop :=
  ∀ (pins:List (Addr × Obj)) (s:Shared) (σ:St) (H:Hp) (x:V) (v:Value) (Q:VK),Inv X pins σ H s→RelV x v→r x H Q →
    wpAny (model X.prog X.w) X.A (f v) (EP X pins σ Q) X.xe s
def CallR (X:Cx) (f:Value) (r:List V→Hp→VK→Prop):Prop :=
  ∀ (pins:List (Addr × Obj)) (s:Shared) (σ:St) (H:Hp) (xs:List V) (us:List Value) (Q:VK),Inv X pins σ H s→Vals xs us→r xs H Q →
    wpAny (model X.prog X.w) X.A (call f us) (EP X pins σ Q) X.xe s
def tOp (r:R2) (ta tb:TE):TE:=fun σ H Q=>ta σ H fun x H1=>tb σ H1 fun y H2=>r x y H2 Q
def tUn (r:V→Hp→VK→Prop) (ta:TE):TE:=fun σ H Q=>ta σ H fun x H1=>r x H1 Q
def rI (C:Int→Int→Prop) (g:Int→Int→V):R2:=fun x y H Q=>∃ i j,x=.int i∧y=.int j∧C i j∧Q (g i j) H
def rI0 (g:Int→Int→V):R2:=fun x y H Q=>∃ i j,x=.int i∧y=.int j∧Q (g i j) H
def rU (g:Int→V):V→Hp→VK→Prop:=fun x H Q=>∃ i,x=.int i∧Q (g i) H
section
variable {X:Cx} {a b c:Expr} {ta tb tc:TE} {pos:Pos}
theorem binT (ha:PE X a ta) (hb:PE X b tb) {pins:List (Addr × Obj)} {s:Shared} {σ:St} {H:Hp} {R:V→V→Hp→Prop} (I:Inv X pins σ H s)
    (h:ta σ H fun x H1=>tb σ H1 fun y H2=>R x y H2) {Q:Value→Shared→Prop} {f:Value→Value→Sem Value}
    (hf:∀ v u s2 x y H2,Inv X pins σ H2 s2→RelV x v→RelV y u→R x y H2→wpAny (model X.prog X.w) X.A (f v u) Q X.xe s2) :
    wpAny (model X.prog X.w) X.A (eval a X.env) (fun v s₁=>wpAny (model X.prog X.w) X.A (eval b X.env) (fun u s₂=>wpAny (model X.prog X.w) X.A (f v u) Q X.xe s₂) X.xe s₁) X.xe s:=by
  refine thn (ha pins s σ H _ I h) fun v s1 ⟨x,H1,I1,r1,q1⟩=>?_
  refine thn (hb pins s1 σ H1 _ I1 q1) fun u s2 ⟨y,H2,I2,r2,q2⟩=>?_
  exact hf v u s2 x y H2 I2 r1 r2 q2
theorem pe_op {op:Operator} {r:R2} (ho:OpR X (binaryOp op) r) (ha:PE X a ta) (hb:PE X b tb):PE X (.BinOp a op b pos) (tOp r ta tb):=by
  intro pins s σ H Q I h
  exact wpAny_BinOp (binT ha hb I h fun v u s2 x y H2 I2 rx ry q=>ho pins s2 σ H2 x y v u Q I2 rx ry q)
theorem pe_un {op:UnaryOp} {r:V→Hp→VK→Prop} (ho:UnR X (unaryOp op) r) (ha:PE X a ta):PE X (.UnaryOp op a pos) (tUn r ta):=by
  intro pins s σ H Q I h
  exact UnaryOp_ (thn (ha pins s σ H _ I h) fun v s1 ⟨x,H1,I1,r1,q1⟩=>ho pins s1 σ H1 x v Q I1 r1 q1)
theorem opI {f:Value→Value→Sem Value} {C:Int→Int→Prop} {g:Int→Int→Int}
    (rule:∀ (i j:Int) (t u:Tok) (s:Shared) (Q:Value→Shared→Prop) (E:Value→Shared→Prop),C i j→Q (.int (g i j) s.toks) { s with toks:=s.toks + 1 }→wpAny (model X.prog X.w) X.A (f (.int i t) (.int j u)) Q E s) :
    OpR X f (rI C fun i j=>.int (g i j)):=by
  intro pins s σ H x y v u Q I rx ry h
  obtain ⟨i,j,rfl,rfl,hc,q⟩:=h
  obtain ⟨t,rfl⟩:=rx
  obtain ⟨t',rfl⟩:=ry
  exact rule i j t t' s _ _ hc ⟨.int (g i j),H,I.tok _,⟨_,rfl⟩,q⟩
theorem opI0 {f:Value→Value→Sem Value} {g:Int→Int→Int}
    (rule:∀ (i j:Int) (t u:Tok) (s:Shared) (Q:Value→Shared→Prop) (E:Value→Shared→Prop),Q (.int (g i j) s.toks) { s with toks:=s.toks + 1 }→wpAny (model X.prog X.w) X.A (f (.int i t) (.int j u)) Q E s) :
    OpR X f (rI0 fun i j=>.int (g i j)):=by
  intro pins s σ H x y v u Q I rx ry h
  obtain ⟨i,j,rfl,rfl,q⟩:=h
  obtain ⟨t,rfl⟩:=rx
  obtain ⟨t',rfl⟩:=ry
  exact rule i j t t' s _ _ ⟨.int (g i j),H,I.tok _,⟨_,rfl⟩,q⟩
theorem opB0 {f:Value→Value→Sem Value} {g:Int→Int→Bool}
    (rule:∀ (i j:Int) (t u:Tok) (s:Shared) (Q:Value→Shared→Prop) (E:Value→Shared→Prop),Q (.bool (g i j)) s→wpAny (model X.prog X.w) X.A (f (.int i t) (.int j u)) Q E s) :
    OpR X f (rI0 fun i j=>.bl (g i j)):=by
  intro pins s σ H x y v u Q I rx ry h
  obtain ⟨i,j,rfl,rfl,q⟩:=h
  obtain ⟨t,rfl⟩:=rx
  obtain ⟨t',rfl⟩:=ry
  exact rule i j t t' s _ _ ⟨.bl (g i j),H,I,rfl,q⟩
def CDiv (i j:Int):Prop:=0 < j∧j < 1073741824
def CPow (i j:Int):Prop:=0 ≤ j∧j ≤ 1000000∧i.natAbs < 2 ^ 64
def CMul (i j:Int):Prop:=(-(2 ^ 64) < i∧i < 2 ^ 64) ∨ (-(2 ^ 64) < j∧j < 2 ^ 64)
theorem CMul.ok {i j:Int} (h:CMul i j):IntMulOk i j:=by
  rcases h with ⟨h1,h2⟩ | ⟨h1,h2⟩
  · exact .of_left (intBits_le_64 h1 h2)
  · exact .of_right (intBits_le_64 h1 h2)
theorem op_add:OpR X (binaryOp .Add) (rI0 fun i j=>.int (i + j)):=opI0 fun _ _ _ _ _ _ _ q=>add_int q
theorem op_sub:OpR X (binaryOp .Sub) (rI0 fun i j=>.int (i - j)):=opI0 fun _ _ _ _ _ _ _ q=>sub_int q
theorem op_mul:OpR X (binaryOp .Mult) (rI CMul fun i j=>.int (i * j)):=opI fun _ _ _ _ _ _ _ hc q=>mul_int q hc.ok
theorem op_fdiv:OpR X (binaryOp .FloorDiv) (rI CDiv fun i j=>.int (i / j)):=opI fun i j _ _ _ _ _ hc q=>by
  have h1:(0:Int) < j:=hc.1
  have h2:j < 1073741824:=hc.2
  exact floordiv_int (by omega) (by rw [Int.fdiv_eq_ediv_of_nonneg i (by omega)]; exact q) (.inl (PyProof.noPylong_small (by omega)))
theorem op_mod:OpR X (binaryOp .Mod) (rI (fun _ j=>0 < j) fun i j=>.int (i % j)):=opI fun i j _ _ _ _ _ hc q=>by
  have h1:(0:Int) < j:=hc
  exact mod_int' (by omega) (by rw [Int.fmod_eq_emod_of_nonneg i (by omega)]; exact q)
theorem op_pow:OpR X (binaryOp .Pow) (rI CPow fun i j=>.int (i ^ j.toNat)):=opI fun _ _ _ _ _ _ _ hc q=>pow_int_small hc.1 hc.2.1 hc.2.2 q
theorem unI {f:Value→Sem Value} {g:Int→Int}
    (rule:∀ (i:Int) (t:Tok) (s:Shared) (Q:Value→Shared→Prop) (E:Value→Shared→Prop),Q (.int (g i) s.toks) { s with toks:=s.toks + 1 }→wpAny (model X.prog X.w) X.A (f (.int i t)) Q E s) :
    UnR X f (rU fun i=>.int (g i)):=by
  intro pins s σ H x v Q I rx h
  obtain ⟨i,rfl,q⟩:=h
  obtain ⟨t,rfl⟩:=rx
  exact rule i t s _ _ ⟨.int (g i),H,I.tok _,⟨_,rfl⟩,q⟩
theorem un_neg:UnR X (unaryOp .USub) (rU fun i=>.int (-i)):=unI fun _ _ _ _ _ q=>neg_int q
end
def scal:V→V→Bool
  | .non,.non=>true | .non,.int _=>true | .int _,.non=>true | .non,.bl _=>true | .bl _,.non=>true | .non,.str _=>true | .str _,.non=>true
  | .int _,.int _=>true | .bl _,.bl _=>true | .str _,.str _=>true | .byt _,.byt _=>true
  | .int _,.str _=>true | .str _,.int _=>true | .bl _,.str _=>true | .str _,.bl _=>true
  | _,_=>false
def rEq:R2:=fun x y H Q=>scal x y=true∧Q (.bl (decide (x=y))) H
def rNe:R2:=fun x y H Q=>scal x y=true∧Q (.bl (!decide (x=y))) H
theorem dec_int {i j:Int}:decide (V.int i=V.int j)=(i == j):=by
  rw [Bool.eq_iff_iff]
  simp
theorem dec_bl {i j:Bool}:decide (V.bl i=V.bl j)=(i == j):=by
  rw [Bool.eq_iff_iff]
  simp
theorem dec_str {i j:Str}:decide (V.str i=V.str j)=(i == j):=by
  rw [Bool.eq_iff_iff]
  simp
theorem dec_byt {i j:Array UInt8}:decide (V.byt i=V.byt j)=(i.toList == j.toList):=by
  rw [Bool.eq_iff_iff]
  cases i
  cases j
  simp
section
variable {X:Cx} {a b c:Expr} {ta tb tc:TE} {pos:Pos}
theorem fin_bl {pins:List (Addr × Obj)} {σ:St} {H:Hp} {s:Shared} {Q:VK} {k k':Bool} (I:Inv X pins σ H s) (q:Q (.bl k) H) (e:k=k'):EP X pins σ Q (.bool k') s:=by
  subst e
  exact ⟨.bl k,H,I,rfl,q⟩
theorem op_eq:OpR X (compareOp .Eq) rEq:=by
  intro pins s σ H x y v u Q I rx ry h
  obtain ⟨hs,q⟩:=h
  cases x with
  | non =>
    cases rx
    cases y with
    | non=>cases ry; exact PySem.EqNone.eq_none_none (fin_bl I q (by simp))
    | bl j=>cases ry; exact PySem.EqNone.eq_none_bool (fin_bl I q (by simp))
    | int j=>obtain ⟨t',rfl⟩:=ry; exact PySem.EqNone.eq_none_int (fin_bl I q (by simp))
    | str j=>obtain ⟨t',rfl⟩:=ry; exact PySem.EqNone.eq_none_str (fin_bl I q (by simp))
    | _=>exact absurd (show false=true from hs) Bool.false_ne_true
  | bl i =>
    cases rx
    cases y with
    | non=>cases ry; exact PySem.EqNone.eq_bool_none (fin_bl I q (by simp))
    | bl j=>cases ry; exact eq_bool (fin_bl I q dec_bl)
    | str j=>obtain ⟨t',rfl⟩:=ry; exact PySem.EqMixed.eq_bool_str (fin_bl I q (by simp))
    | _=>exact absurd (show false=true from hs) Bool.false_ne_true
  | int i =>
    obtain ⟨t,rfl⟩:=rx
    cases y with
    | non=>cases ry; exact PySem.EqNone.eq_int_none (fin_bl I q (by simp))
    | int j=>obtain ⟨t',rfl⟩:=ry; exact eq_int (fin_bl I q dec_int)
    | str j=>obtain ⟨t',rfl⟩:=ry; exact PySem.EqMixed.eq_int_str (fin_bl I q (by simp))
    | _=>exact absurd (show false=true from hs) Bool.false_ne_true
  | str i =>
    obtain ⟨t,rfl⟩:=rx
    cases y with
    | non=>cases ry; exact PySem.EqNone.eq_str_none (fin_bl I q (by simp))
    | bl j=>cases ry; exact PySem.EqMixed.eq_str_bool (fin_bl I q (by simp))
    | int j=>obtain ⟨t',rfl⟩:=ry; exact PySem.EqMixed.eq_str_int (fin_bl I q (by simp))
    | str j=>obtain ⟨t',rfl⟩:=ry; exact eq_str (fin_bl I q dec_str)
    | _=>exact absurd (show false=true from hs) Bool.false_ne_true
  | byt i =>
    obtain ⟨t,rfl⟩:=rx
    cases y with
    | byt j=>obtain ⟨t',rfl⟩:=ry; exact PySem.W.eq_bytes (fin_bl I q dec_byt)
    | _=>exact absurd (show false=true from hs) Bool.false_ne_true
  | _=>cases y <;> exact absurd (show false=true from hs) Bool.false_ne_true
theorem op_ne:OpR X (compareOp .NotEq) rNe:=by
  intro pins s σ H x y v u Q I rx ry h
  obtain ⟨hs,q⟩:=h
  cases x with
  | non =>
    cases rx
    cases y with
    | non=>cases ry; exact PySem.EqNone.ne_none_none (fin_bl I q (by simp))
    | bl j=>cases ry; exact PySem.EqNone.ne_none_bool (fin_bl I q (by simp))
    | int j=>obtain ⟨t',rfl⟩:=ry; exact PySem.EqNone.ne_none_int (fin_bl I q (by simp))
    | str j=>obtain ⟨t',rfl⟩:=ry; exact PySem.EqNone.ne_none_str (fin_bl I q (by simp))
    | _=>exact absurd (show false=true from hs) Bool.false_ne_true
  | bl i =>
    cases rx
    cases y with
    | non=>cases ry; exact PySem.EqNone.ne_bool_none (fin_bl I q (by simp))
    | bl j=>cases ry; exact ne_bool (fin_bl I q (congrArg not dec_bl))
    | str j=>obtain ⟨t',rfl⟩:=ry; exact PySem.EqMixed.ne_bool_str (fin_bl I q (by simp))
    | _=>exact absurd (show false=true from hs) Bool.false_ne_true
  | int i =>
    obtain ⟨t,rfl⟩:=rx
    cases y with
    | non=>cases ry; exact PySem.EqNone.ne_int_none (fin_bl I q (by simp))
    | int j=>obtain ⟨t',rfl⟩:=ry; exact ne_int (fin_bl I q (congrArg not dec_int))
    | str j=>obtain ⟨t',rfl⟩:=ry; exact PySem.EqMixed.ne_int_str (fin_bl I q (by simp))
    | _=>exact absurd (show false=true from hs) Bool.false_ne_true
  | str i =>
    obtain ⟨t,rfl⟩:=rx
    cases y with
    | non=>cases ry; exact PySem.EqNone.ne_str_none (fin_bl I q (by simp))
    | bl j=>cases ry; exact PySem.EqMixed.ne_str_bool (fin_bl I q (by simp))
    | int j=>obtain ⟨t',rfl⟩:=ry; exact PySem.EqMixed.ne_str_int (fin_bl I q (by simp))
    | str j=>obtain ⟨t',rfl⟩:=ry; exact ne_str (fin_bl I q (congrArg not dec_str))
    | _=>exact absurd (show false=true from hs) Bool.false_ne_true
  | byt i =>
    obtain ⟨t,rfl⟩:=rx
    cases y with
    | byt j=>obtain ⟨t',rfl⟩:=ry; exact PySem.W.ne_bytes (fin_bl I q (congrArg not dec_byt))
    | _=>exact absurd (show false=true from hs) Bool.false_ne_true
  | _=>cases y <;> exact absurd (show false=true from hs) Bool.false_ne_true
theorem op_lt:OpR X (compareOp .Lt) (rI0 fun i j=>.bl (decide (i < j))):=opB0 fun _ _ _ _ _ _ _ q=>lt_int q
theorem op_le:OpR X (compareOp .LtE) (rI0 fun i j=>.bl (decide (i ≤ j))):=opB0 fun _ _ _ _ _ _ _ q=>le_int q
theorem op_gt:OpR X (compareOp .Gt) (rI0 fun i j=>.bl (decide (j < i))):=opB0 fun _ _ _ _ _ _ _ q=>gt_int q
theorem op_ge:OpR X (compareOp .GtE) (rI0 fun i j=>.bl (decide (j ≤ i))):=opB0 fun _ _ _ _ _ _ _ q=>ge_int q
theorem op_notN:OpR X (compareOp .IsNot) (fun x y H Q=>y=.non∧Q (.bl (!decide (x=.non))) H):=by
  intro pins s σ H x y v u Q I rx ry h
  obtain ⟨rfl,q⟩:=h
  cases ry
  refine isnot_none_gen (fin_bl I q ?_)
  cases x <;> first
    | (cases rx; rfl)
    | (obtain ⟨t,rfl⟩:=rx; rfl)
theorem nomark (b:Expr) {op:CmpOp} (h:op ≠ .In:=by decide) (h2:op ≠ .NotIn:=by decide):behindInMarks op b=false:=by
  have e1:(op == CmpOp.In)=false:=by cases op <;> first | rfl | exact absurd rfl h
  have e2:(op == CmpOp.NotIn)=false:=by cases op <;> first | rfl | exact absurd rfl h2
  cases b <;> simp [behindInMarks,e1,e2]
theorem pe_cmpR {op:CmpOp} {r:R2} (ho:OpR X (compareOp op) r) (ha:PE X a ta) (hb:PE X b tb) (hm:behindInMarks op b=false):PE X (.Compare a [op] [b] pos) (tOp r ta tb):=by
  intro pins s σ H Q I h
  exact wpAny_Compare1 (binT ha hb I h fun v u s2 x y H2 I2 rx ry q=>ho pins s2 σ H2 x y v u Q I2 rx ry q) hm
def tTest (t:TE):TT:=fun σ H Q=>t σ H fun x H'=>∃ k,x=.bl k∧Q k H'
theorem pt_cmpR {op:CmpOp} {r:R2} (ho:OpR X (compareOp op) r) (ha:PE X a ta) (hb:PE X b tb) (hm:behindInMarks op b=false):PT X (.Compare a [op] [b] pos) (tTest (tOp r ta tb)):=by
  intro pins s σ H Q I h
  refine wpAny_isTrue_Compare1 (thn (ha pins s σ H _ I h) fun v s1 ⟨x,H1,I1,r1,q1⟩=>thn (hb pins s1 σ H1 _ I1 q1) fun u s2 ⟨y,H2,I2,r2,q2⟩ =>
    thn (ho pins s2 σ H2 x y v u _ I2 r1 r2 q2) fun c s3 ⟨z,H3,I3,r3,k,e,q3⟩=>?_) hm
  subst e
  cases r3
  exact wpAny_truthy_bool ⟨H3,I3,q3⟩
def tChain (r r':R2) (ta tb tc:TE):TE:=fun σ H Q=>ta σ H fun x H1=>tb σ H1 fun y H2=>r x y H2 fun z H3=>∃ k,z=.bl k ∧
  (if k=true then tc σ H3 fun w' H4=>r' y w' H4 Q else Q (.bl false) H3)
theorem pe_chain {op op':CmpOp} {r r':R2} (ho:OpR X (compareOp op) r) (ho':OpR X (compareOp op') r') (ha:PE X a ta) (hb:PE X b tb) (hc:PE X c tc)
    (hm:lastMarks [op,op'] [b,c]=false:=by with_unfolding_all rfl):PE X (.Compare a [op,op'] [b,c] pos) (tChain r r' ta tb tc):=by
  intro pins s σ H Q I h
  refine Compare_chain (thn (ha pins s σ H _ I h) fun v s1 ⟨x,H1,I1,r1,q1⟩=>chain_link (thn (hb pins s1 σ H1 _ I1 q1) fun u s2 ⟨y,H2,I2,r2,q2⟩ =>
    thn (ho pins s2 σ H2 x y v u _ I2 r1 r2 q2) fun d s3 ⟨z,H3,I3,r3,k,e,q3⟩=>?_)) hm
  subst e
  cases r3
  refine wpAny_truthy_bool ?_
  cases k with
  | false=>exact ite_ff ⟨.bl false,H3,I3,rfl,q3⟩
  | true=>exact ite_tt (chain_last (thn (hc pins s3 σ H3 _ I3 q3) fun w' s4 ⟨z',H4,I4,r4,q4⟩=>ho' pins s4 σ H4 y z' u w' Q I4 r2 r4 q4))
theorem line63:(sizeLine:Nat) < 2 ^ 63:=by rw [sizeLine_eq]; decide
theorem op_add_str:OpR X (binaryOp .Add) (fun x y H Q=>∃ i j,x=.str i∧y=.str j∧i.length + j.length ≤ sizeLine∧Q (.str (i ++ j)) H):=by
  intro pins s σ H x y v u Q I rx ry h
  obtain ⟨i,j,rfl,rfl,hz,q⟩:=h
  obtain ⟨t,rfl⟩:=rx
  obtain ⟨t',rfl⟩:=ry
  exact add_str (fun t' tk=>⟨.str (i ++ j),H,I.tok _,⟨_,rfl⟩,q⟩) hz
theorem vals1 {x:V} {us:List Value} (r:Vals [x] us):∃ u,us=[u]∧RelV x u:=by
  cases r with
  | cons r1 r2=>cases r2; exact ⟨_,rfl,r1⟩
theorem vals2 {x y:V} {us:List Value} (r:Vals [x,y] us):∃ u w',us=[u,w']∧RelV x u∧RelV y w':=by
  cases r with
  | cons r1 r2 =>
    cases r2 with
    | cons r3 r4=>cases r4; exact ⟨_,_,rfl,r1,r3⟩
theorem call_max2 (hc:X.calm=true):CallR X (.builtin "max") (fun xs H Q=>∃ i j,xs=[.int i,.int j]∧Q (.int (if j > i then j else i)) H):=by
  intro pins s σ H xs us Q I r h
  obtain ⟨i,j,rfl,q⟩:=h
  obtain ⟨u,w',rfl,⟨t,rfl⟩,⟨t',rfl⟩⟩:=vals2 r
  refine max_two_ints (I.ok.hd hc) fun h' tk k=>⟨_,H,I.kept k,?_,q⟩
  by_cases hj:j > i
  · rw [if_pos hj,if_pos hj]; exact ⟨_,rfl⟩
  · rw [if_neg hj,if_neg hj]; exact ⟨_,rfl⟩
theorem call_int1:CallR X (.type "int") (fun xs H Q=>(∃ i,xs=[.int i]∧Q (.int i) H) ∨ ∃ k,xs=[.bl k]∧Q (.int (if k then 1 else 0)) H):=by
  intro pins s σ H xs us Q I r h
  rcases h with ⟨i,rfl,q⟩ | ⟨k,rfl,q⟩
  · obtain ⟨u,rfl,t,rfl⟩:=vals1 r
    exact call_int_int ⟨.int i,H,I,⟨_,rfl⟩,q⟩
  · obtain ⟨u,rfl,r1⟩:=vals1 r
    cases r1
    exact call_int_bool ⟨.int (if k then 1 else 0),H,I.tok _,⟨_,rfl⟩,q⟩
end
end L2
namespace L2
open PySem PySem.Spec PyProof.Rows
structure ObjM (h:Heap) (x dx C:Addr) (mA:Str→Option Value):Prop where
  obj:h.get? x=some (PySem.W.instObj C dx)
  ns:h.Ns1 dx mA
  ne:dx ≠ x
theorem lookIn_ns {h:Heap} {dx:Addr} {mA:Str→Option Value} (n:h.Ns1 dx mA):∃ od,h.get? dx=some od∧∀ name,PySem.W.lookIn name od=some (mA name):=by
  obtain ⟨o,es,ep,ho,hd,hk,_,hm⟩:=n
  refine ⟨o,ho,fun name=>?_⟩
  have e:=hm name
  unfold nsFind findBy at e
  rw [← Array.find?_toList] at e
  unfold PySem.W.lookIn
  rw [hd]
  dsimp only
  split
  · rename_i y q
    rw [q] at e
    exact congrArg some e
  · rename_i q
    rw [q] at e
    have a:es.toList.any (·.refKey)=false:=by
      rw [List.any_eq_false]
      intro y hy
      obtain ⟨z,t,hkey⟩:=hk y (Array.mem_toList_iff.mp hy)
      simp [DictEntry.refKey,hkey]
    have a':¬ es.toList.any (·.refKey)=true:=by rw [a]; exact Bool.false_ne_true
    rw [if_neg a']
    exact congrArg some e
theorem ObjM.look {h:Heap} {x dx C:Addr} {mA:Str→Option Value} (I:ObjM h x dx C mA):∃ od,PySem.W.InstAt h x (PySem.W.instObj C dx) C (some od)∧∀ name,PySem.W.lookIn name od=some (mA name) :=
  let ⟨od,ho,hl⟩:=lookIn_ns I.ns
  ⟨od,⟨I.obj,rfl,rfl,ho⟩,hl⟩
section
variable {prog:Program} {w:World} {A:Around} {E:Value→Shared→Prop} {s:Shared} {K:PySem.W.Frag} {x dx C f:Addr} {mA:Str→Option Value} {name:Str} {v:Value}
end
theorem RelO.some_of {v:V} {o:Option Value} (r:RelO (some v) o):∃ u,o=some u∧RelV v u:=by
  cases o with
  | none=>exact (show False from r).elim
  | some u=>exact ⟨u,rfl,r⟩
theorem handed_of {v:V} {u:Value} (r:RelV v u):PySem.W.handedIn u=true:=by
  cases v with
  | non=>cases (show u=Value.none from r); rfl
  | bl b=>cases (show u=Value.bool b from r); rfl
  | int i=>obtain ⟨t,e⟩:=(show ∃ t,u=Value.int i t from r); cases e; rfl
  | str x=>obtain ⟨t,e⟩:=(show ∃ t,u=Value.str x t from r); cases e; rfl
  | byt b=>obtain ⟨t,e⟩:=(show ∃ t,u=Value.bytes b t from r); cases e; rfl
  | flt b=>obtain ⟨t,e⟩:=(show ∃ t,u=Value.float b t from r); cases e; rfl
  | ref a=>cases (show u=Value.ref a from r); rfl
  | ty n=>cases (show u=Value.type n from r); rfl
section
variable {P:Program} {w:World} {H H':Hp} {h h':Heap} {a C dx:Addr} {fs fs':List (Str × V)}
theorem ins_get (hok:HOk P w H h) (e:H a=some (.ins C dx fs)):∃ mA,ObjM h a dx C mA∧(∀ f,RelO (fs.lookup f) (mA f))∧PySem.Within mA (fs.map (·.1))∧fs.length ≤ 1000∧H dx=some (.own a):=by
  obtain ⟨d,z,ne,ob,mA,n,r,q⟩:=(show ObjOk P w H h a (.ins C dx fs) from hok a _ e)
  exact ⟨mA,⟨ob,n,ne⟩,r,q,z,d⟩
end
structure Cls (K:PySem.W.Frag) (C:Addr):Prop where
  pg:PySem.W.plainGet K C Str.empty=true
  hd:PySem.W.hasDictIn K C=true
  po:PySem.W.plainOver K C=true
  sa:PySem.W.findIn K (.ref C) "__setattr__"=some (some (.builtin "object.__setattr__"))
theorem Cls.get {K:PySem.W.Frag} {C:Addr} (c:Cls K C) (f:Str):PySem.W.plainGet K C f=true:=c.pg
section
variable {X:Cx} {pins:List (Addr × Obj)} {σ:St} {H:Hp} {s:Shared} {a C dx:Addr} {fs:List (Str × V)} {f:Str} {v:V} {A:Around} {E:Value→Shared→Prop}
theorem attr_of {prog:Program} {w:World} {env:Env} {e:Expr} {f:Str} {pos:Pos} {s:Shared} {Q:Value→Shared→Prop} (hb:attributeBase e f env (eval e env)=eval e env)
    (h:wpAny (model prog w) A (eval e env) (fun o s₁=>wpAny (model prog w) A (getAttr o f true) Q E s₁) E s):wpAny (model prog w) A (eval (.Attribute e f pos) env) Q E s :=
  Attribute_any_ h (by rw [arm_eval_Attribute,hb])
end
section
variable {X:Cx} {o e value:Expr} {f:Str} {pos pos' tpos:Pos} {ta tv:TE}
end
section
variable {X:Cx} {pins:List (Addr × Obj)} {σ:St} {H:Hp} {s:Shared} {A:Around} {E:Value→Shared→Prop} {Q:Value→Shared→Prop} {c:Value} {b:Bool}
inductive TyOf (K:PySem.W.Frag) (H:Hp):V→Value→Prop where
  | non:TyOf K H .non (.type "NoneType")
  | bl (x:Bool):TyOf K H (.bl x) (.type "bool")
  | int (i:Int):TyOf K H (.int i) (.type "int")
  | str (x:Str):TyOf K H (.str x) (.type "str")
  | flt (x:UInt64):TyOf K H (.flt x) (.type "float")
  | lst {a:Addr} {xs:List V} (e:H a=some (.lst xs)):TyOf K H (.ref a) (.type "list")
  | frz {a:Addr} {o:Obj} {xs:List V} (e:H a=some (.frz o (.lst xs))):TyOf K H (.ref a) (.type "list")
  | tup {a:Addr} {xs:List V} (e:H a=some (.tup xs)):TyOf K H (.ref a) (.type "tuple")
  | dK {a:Addr} {kvs:List (Key × V)} (e:H a=some (.dK kvs)):TyOf K H (.ref a) (.type "dict")
  | dT {a:Addr} {kvs:List (List Key × V)} (e:H a=some (.dT kvs)):TyOf K H (.ref a) (.type "dict")
  | ins {a C dx:Addr} {fs:List (Str × V)} (e:H a=some (.ins C dx fs)) (cl:Cls K C) (ha:PySem.W.findIn K (.ref C) "__class__"=some (some (.builtin "object.__class__")))
      (hn:PySem.W.specialIn K (.builtin "object.__class__") "__get__"=some (some (.builtin "getset_descriptor.__get__"))) (htk:PySem.W.takesIn K (.builtin "object.__class__")=some true)
      (hm:PySem.W.mroIn K C (.type "object")=some true):TyOf K H (.ref a) (.ref C)
theorem isinst_ok {x:V} {u t:Value} (I:Inv X pins σ H s) (rx:RelV x u) (ty:TyOf X.K H x t) (e:PySem.W.kitOne X.K t c=some b) (h:∀ tk,Q (.bool b) { s with toks:=tk }) :
    wpAny (model X.prog X.w) A (call (.builtin "isinstance") [u,c]) Q E s:=by
  cases ty with
  | non=>cases (show u=Value.none from rx); exact PySem.W.kia_one PySem.W.kitx_none I.kIn True.intro e (fun z=>nomatch z) h
  | bl y=>cases (show u=Value.bool y from rx); exact PySem.W.kia_one PySem.W.kitx_bool I.kIn True.intro e (fun z=>nomatch z) h
  | int i=>obtain ⟨t,q⟩:=(show ∃ t,u=Value.int i t from rx); cases q; exact PySem.W.kia_one PySem.W.kitx_int I.kIn True.intro e (fun z=>nomatch z) h
  | str y=>obtain ⟨t,q⟩:=(show ∃ t,u=Value.str y t from rx); cases q; exact PySem.W.kia_one PySem.W.kitx_str I.kIn True.intro e (fun z=>nomatch z) h
  | flt y=>obtain ⟨t,q⟩:=(show ∃ t,u=Value.float y t from rx); cases q; exact PySem.W.kia_one PySem.W.kitx_float I.kIn True.intro e (fun z=>nomatch z) h
  | @lst a xs ea =>
    cases (show u=Value.ref a from rx)
    obtain ⟨_,_,n,_,h1⟩:=(show ObjOk X.prog X.w H s.heap a (.lst xs) from I.hok a _ ea)
    exact PySem.W.kia_one PySem.W.kitx_list I.kIn ⟨_,h1,rfl⟩ e (fun z=>nomatch z) h
  | @frz a ob xs ea =>
    cases (show u=Value.ref a from rx)
    obtain ⟨_,_,_,n,_,h1⟩:=(show ObjOk X.prog X.w H s.heap a (.frz ob (.lst xs)) from I.hok a _ ea)
    exact PySem.W.kia_one PySem.W.kitx_list I.kIn ⟨_,h1,rfl⟩ e (fun z=>nomatch z) h
  | @tup a xs ea =>
    cases (show u=Value.ref a from rx)
    obtain ⟨_,_,_,p⟩:=(show ObjOk X.prog X.w H s.heap a (.tup xs) from I.hok a _ ea)
    obtain ⟨o,h1,h2,_⟩:=p
    exact PySem.W.kia_one PySem.W.kitx_tuple I.kIn ⟨o,h1,h2⟩ e (fun z=>nomatch z) h
  | @dK a kvs ea =>
    cases (show u=Value.ref a from rx)
    obtain ⟨_,_,vs,_,p⟩:=(show ObjOk X.prog X.w H s.heap a (.dK kvs) from I.hok a _ ea)
    obtain ⟨o,es,ep,h1,h2,_⟩:=p
    exact PySem.W.kia_one PySem.W.kitx_dict I.kIn ⟨o,h1,h2.1⟩ e (fun z=>nomatch z) h
  | @dT a kvs ea =>
    cases (show u=Value.ref a from rx)
    obtain ⟨_,_,xs,_,o,es,ep,h1,h2,_⟩:=(show ObjOk X.prog X.w H s.heap a (.dT kvs) from I.hok a _ ea)
    exact PySem.W.kia_one PySem.W.kitx_dict I.kIn ⟨o,h1,h2.1⟩ e (fun z=>nomatch z) h
  | @ins a C dx fs ea cl ha hn htk hm =>
    cases (show u=Value.ref a from rx)
    obtain ⟨mA,O,_⟩:=ins_get I.hok ea
    obtain ⟨od,J,_⟩:=O.look
    exact PySem.W.kia_one (PySem.W.kitx_own (cl.get _) cl.hd ha hn htk hm) I.kIn J e (fun z=>nomatch z) h
end
end L2
namespace L2
open PySem PySem.Spec PyProof.Rows
structure Room (k:Nat) (A:Around):Prop where
  hd:A.handled=none
  dp:A.depth + 3 * k + 5 < recursionLimit
  un:A.units + 16 * k + 200 < cLine
theorem Room.mono {j k:Nat} {A:Around} (r:Room k A) (h:j ≤ k):Room j A:=⟨r.hd,by have:=r.dp; omega,by have:=r.un; omega⟩
theorem Room.deeper {k:Nat} {A:Around} (r:Room (k + 1) A) (env:Env):Room k (A.deeper env) :=
  ⟨r.hd,by have:=r.dp; show A.depth + 1 + 3 * k + 5 < _; omega,by have:=r.un; show A.units + 3 + 16 * k + 200 < _; omega⟩
theorem make_depth {A:Around} {C:Addr} {us:List Value} {kw:List (Str × Value)}:(A.under (.builtin "type.__call__" ⟨.ref C :: us,kw⟩)).depth=A.depth + 1:=by
  first | rfl | simp [Around.under,Code.weight,Code.isCreation,Code.isGuard,Code.isCaller,Code.frames,Code.isFrame,guardIds]
theorem make_units {A:Around} {C:Addr} {us:List Value} {kw:List (Str × Value)}:(A.under (.builtin "type.__call__" ⟨.ref C :: us,kw⟩)).units=A.units + 1:=by
  first | rfl | simp [Around.under,Code.cUnits,Code.frames,Code.isFrame]
theorem Room.make {k:Nat} {A:Around} (r:Room (k + 1) A) (C:Addr) (us:List Value) (kw:List (Str × Value)):Room k (A.under (.builtin "type.__call__" ⟨.ref C :: us,kw⟩)) :=
  ⟨r.hd,by have:=r.dp; rw [make_depth]; omega,by have:=r.un; rw [make_units]; omega⟩
theorem Room.depth {k:Nat} {A:Around} (r:Room k A):A.depth < recursionLimit:=by have:=r.dp; omega
theorem Room.units {k:Nat} {A:Around} (r:Room k A):A.units + 64 < cLine:=by have:=r.un; omega
def tNil:TA:=fun _ H Q=>Q [] H
def tCons (ta:TE) (tr:TA):TA:=fun σ H Q=>ta σ H fun x H1=>tr σ H1 fun xs H2=>Q (x :: xs) H2
section
variable {X:Cx} {e:Expr} {es:List Expr} {te:TE} {t:TA} {pos:Pos}
theorem pa_nil:PA X [] tNil:=fun _ _ _ _ H Q I h=>Calls.spliced_nil ⟨[],H,I,.nil,h⟩
theorem pa_cons (ha:PE X e te) (hr:PA X es t) (hs:starEach (e :: es) X.env=(false,eval e X.env) :: starEach es X.env:=by rfl):PA X (e :: es) (tCons te t):=by
  intro pos pins s σ H Q I h
  rw [hs]
  show wpAny _ _ (spliced ((false,eval e X.env) :: backTo pos (starEach es X.env))) _ _ s
  refine Calls.spliced_cons (thn (ha pins s σ H _ I h) fun u s1 ⟨x,H1,I1,r1,q1⟩=>?_)
  exact thn (hr pos pins s1 σ H1 _ I1 q1) fun us s2 ⟨xs,H2,I2,r2,q2⟩=>⟨x :: xs,H2,I2,.cons r1 r2,q2⟩
def tTup (t:TA):TE:=fun σ H Q=>t σ H fun xs H1=>xs.length ≤ sizeLine∧∀ p,H1 p=none→Q (.ref p) (upd H1 p (.tup xs))
def tLst (t:TA):TE:=fun σ H Q=>t σ H fun xs H1=>xs.length ≤ sizeLine∧∀ p,H1 p=none→Q (.ref p) (upd H1 p (.lst xs))
theorem pe_tup {x1} (h:PA X es t):PE X (.Tuple es x1 pos) (tTup t):=by
  intro pins s σ H Q I hq
  refine wpAny_Tuple_spliced (thn (h pos pins s σ H _ I hq) fun us s1 ⟨xs,H1,I1,r,z,q⟩=>⟨by rw [← r.length]; exact z,?_⟩)
  have hf:H1 s1.heap.objs.size=none:=I1.hok.fresh (Nat.le_refl _)
  refine ⟨.ref s1.heap.objs.size,upd H1 s1.heap.objs.size (.tup xs),I1.laid (t':=s1.toks) (fun b u e=>Heap.get?_push_of_some _ e) (Nat.le_refl _) ?_,rfl,q _ hf⟩
  exact ⟨z,us,r,⟨_,Heap.get?_push_size _ rfl,rfl,_,rfl⟩⟩
theorem pe_lst (h:PA X es t):PE X (.List es pos) (tLst t):=by
  intro pins s σ H Q I hq
  refine wpAny_List_spliced (thn (h pos pins s σ H _ I hq) fun us s1 ⟨xs,H1,I1,r,z,q⟩=>⟨by rw [← r.length]; exact z,?_⟩)
  have hf:H1 s1.heap.objs.size=none:=I1.hok.fresh (Nat.le_refl _)
  refine ⟨.ref s1.heap.objs.size,upd H1 s1.heap.objs.size (.lst xs),I1.laid (t':=s1.toks) (fun b u e=>Heap.get?_push_of_some _ e) (Nat.le_refl _) ?_,rfl,q _ hf⟩
  exact ⟨z,us,0,r,Heap.get?_push_size _ rfl⟩
end
abbrev Sp:=List V→Hp→VK→XK→Prop
abbrev CXT:=List Env→Hp→Shared→XK→Value→Shared→Prop
structure Env0 (P:Program) (w:World) (K:PySem.W.Frag) (mg:Str→Option Value) (base:Heap) (A:Around) (outer:List Env) (s:Shared) (H:Hp):Prop where
  frames:A.frames=some outer
  mod:Mod K mg base
  bs:∀ b o,base.get? b=some o→s.heap.get? b=some o∧H b=none
  bsz:base.objs.size ≤ s.heap.objs.size
  funs:s.heap.FunFrames base outer
  frf:∀ b ∈ frs outer,H b=none
  hok:HOk P w H s.heap
  bare:AllBare s.gens
def CE (outer:List Env) (P:Program) (w:World) (H:Hp) (s:Shared) (Q:VK) (u:Value) (s':Shared):Prop :=
  ∃ v H',s'.os=s.os∧AllBare s'.gens∧Un (frs outer) [] H H' s.heap s'.heap∧HOk P w H' s'.heap∧RelV v u∧Q v H'
def CR (CX:CXT) (outer:List Env) (P:Program) (w:World) (H:Hp) (s:Shared) (Q:VK) (E:XK) (r:Result) (s':Shared):Prop :=
  match r with
  | .ok (.ret u)=>CE outer P w H s Q u s'
  | .ok _=>False
  | .error e=>CX outer H s E e s'
structure FnOk (P:Program) (w:World) (K:PySem.W.Frag) (mg:Str→Option Value) (base:Heap) (CX:CXT) (k:Nat) (f:Addr) (fd:FuncData) (ps:List Str) (sp:Sp):Prop where
  len:∀ vs H Q E,sp vs H Q E→vs.length=ps.length
  run:∀ (A:Around) (outer:List Env) (s:Shared) (H:Hp) (args:Args) (us:List Value) (vs:List V) (Q:VK) (E:XK),Room k A→Env0 P w K mg base A outer s H→BindsTo s fd args (ps.zip us)→Vals vs us→sp vs H Q E →
    codeAny (model P w) A (.call (.ref f) args) (CR CX outer P w H s Q E) s
theorem Env0.make {P:Program} {w:World} {K:PySem.W.Frag} {mg:Str→Option Value} {base:Heap} {A:Around} {outer:List Env} {s:Shared} {H:Hp} (e:Env0 P w K mg base A outer s H) (C:Addr) (us:List Value) (kw:List (Str × Value)) :
    Env0 P w K mg base (A.under (.builtin "type.__call__" ⟨.ref C :: us,kw⟩)) outer s H:=⟨by first | exact e.frames | (simpa [Around.under,Code.envs,Code.isFrame,pushEnvs] using e.frames),e.mod,e.bs,e.bsz,e.funs,e.frf,e.hok,e.bare⟩
section
variable {X:Cx} {pins:List (Addr × Obj)} {σ:St} {H:Hp} {s s':Shared}
theorem Inv.env0 (I:Inv X pins σ H s):Env0 X.prog X.w X.K X.mg X.base X.A X.stack s H :=
  ⟨I.ok.frames,I.ok.mod,I.bs,Nat.le_trans I.ok.bsz I.sz,I.stack,I.stkFree,I.hok,I.bare⟩
theorem Inv.after {Q:VK} {u:Value} (I:Inv X pins σ H s) (h:CE X.stack X.prog X.w H s Q u s'):EP X pins σ Q u s':=by
  obtain ⟨v,H',os,bare,un,hok,r,q⟩:=h
  obtain ⟨hh,g,d,t,os'⟩:=s'
  obtain rfl:os'=s.os:=os
  exact ⟨v,H',I.call (h':=hh) (g':=g) (d':=d) (t':=t) (ch:=[]) un hok bare (fun b z=>absurd z (by simp)),r,q⟩
end
def tCall (sp:Sp) (dvs:List V) (E:XK) (t:TA):TE:=fun σ H Q=>t σ H fun vs H1=>sp (vs ++ dvs) H1 Q E
def Binds (K:PySem.W.Frag) (fd:FuncData) (ps:List Str) (ds:List Value):Prop :=
  ∀ (s:Shared) (us:List Value),K.In s.heap→(us ++ ds).length=ps.length→BindsTo s fd ⟨us,[]⟩ (ps.zip (us ++ ds))
theorem Binds.all {K:PySem.W.Frag} {fd:FuncData} {ps:List Str} (h:∀ us:List Value,us.length=ps.length→bindArgs fd ⟨us,[]⟩=pure (ps.zip us)):Binds K fd ps []:=fun s us _ hl=>by
  rw [List.append_nil] at hl ⊢
  exact .of_eq (h us hl)
def Passes (CX:CXT) (X:Cx) (E:XK):Prop:=∀ (pins:List (Addr × Obj)) (σ:St) (H:Hp) (s:Shared) (e:Value) (s':Shared),Inv X pins σ H s→CX X.stack H s E e s'→X.xe e s'
section
variable {X:Cx} {CX:CXT} {k:Nat} {f C:Addr} {fd:FuncData} {ps:List Str} {sp:Sp} {dvs:List V} {ds:List Value} {E:XK} {x m:Str} {p pos apos:Pos} {e o:Expr} {es:List Expr} {ta:TE} {t:TA}
theorem run_fn {pins:List (Addr × Obj)} {σ:St} {H:Hp} {s:Shared} {Q:VK} {us:List Value} {vs:List V} (F:FnOk X.prog X.w X.K X.mg X.base CX k f fd ps sp) (hr:Room k X.A) (hb:Binds X.K fd ps ds) (hd:Vals dvs ds) (hx:Passes CX X E)
    (I:Inv X pins σ H s) (r:Vals vs us) (h:sp (vs ++ dvs) H Q E):wpAny (model X.prog X.w) X.A (call (.ref f) us) (EP X pins σ Q) X.xe s:=by
  have r2:Vals (vs ++ dvs) (us ++ ds):=r.append hd
  have hl:(us ++ ds).length=ps.length:=by rw [← r2.length]; exact F.len _ _ _ _ h
  refine wpAny_call (codeAny_mono (F.run X.A X.stack s H ⟨us,[]⟩ (us ++ ds) (vs ++ dvs) Q E hr I.env0 (hb s us I.kIn hl) r2 h) fun r s' hq=>?_)
  cases r with
  | error e=>exact hx pins σ H s e s' I hq
  | ok fl =>
    cases fl with
    | ret u=>exact I.after hq
    | next=>exact False.elim hq
    | brk=>exact False.elim hq
    | cont=>exact False.elim hq
theorem pe_call (F:FnOk X.prog X.w X.K X.mg X.base CX k f fd ps sp) (hr:Room k X.A) (hg:Gl X x) (hm:X.mg x=some (.ref f)) (hk:PySem.W.keepIn X.K (.ref f)=true) (hb:Binds X.K fd ps ds) (hd:Vals dvs ds) (hx:Passes CX X E)
    (ha:PA X (e :: es) t) (hdb:(x == ("__debug__":Str))=false:=by decide) (he:starEach (e :: es) X.env=(false,eval e X.env) :: starEach es X.env:=by rfl) (hpl:(backTo pos (starEach es X.env)).any (·.1)=false:=by rfl) :
    PE X (.Call (.Name x p) (e :: es) [] pos) (tCall sp dvs E t):=by
  intro pins s σ H Q I h
  refine wpAny_Call_Name_kw (ld_glob I hg hm ?_ hdb)
  refine PySem.W.callWith_K (h₀:=X.base) I.ok.mod.kin hk (thn (ha pos pins s σ H _ I h) fun us s1 ⟨vs,H1,I1,r,q⟩=>⟨I1.kIn,?_⟩) he hpl
  exact run_fn F hr hb hd hx I1 r q
end
def PK (X:Cx) (kws:List Keyword) (t:TA):Prop :=
  ∀ (pos:Pos) (pins:List (Addr × Obj)) (s:Shared) (σ:St) (H:Hp) (Q:List V→Hp→Prop),Inv X pins σ H s→t σ H Q→wpAny (model X.prog X.w) X.A (evalAll ((backToKw pos (keywordEach kws X.env)).map (·.2))) (AP X pins σ Q) X.xe s
section
variable {X:Cx} {CX:CXT} {k:Nat} {f C:Addr} {fd:FuncData} {ps ks:List Str} {sp:Sp} {E:XK} {x m:Str} {p pos apos kpos:Pos} {e o:Expr} {es:List Expr} {kws:List Keyword} {te ta:TE} {t tk:TA} {nm:Option Str}
theorem pk_nil:PK X [] tNil:=fun _ _ _ _ H Q I h=>wpAny_evalAll_nil ⟨[],H,I,.nil,h⟩
theorem pk_cons (ha:PE X e te) (hr:PK X kws t):PK X (⟨nm,e,kpos⟩ :: kws) (tCons te t):=by
  intro pos pins s σ H Q I h
  show wpAny _ _ (evalAll ((do let v ← eval e X.env; standAt pos; pure v) :: (backToKw pos (keywordEach kws X.env)).map (·.2))) _ _ s
  refine wpAny_evalAll_cons (wpAny_bind (thn (ha pins s σ H _ I h) fun u s1 ⟨x,H1,I1,r1,q1⟩=>wpAny_bind (wpAny_standAt (wpAny_pure ?_))))
  exact thn (hr pos pins s1 σ H1 _ I1 q1) fun us s2 ⟨xs,H2,I2,r2,q2⟩=>⟨x :: xs,H2,I2,.cons r1 r2,q2⟩
variable {g:List Value→List Value→List Value} {gV:List V→List V→List V}
end
structure FnScope (N P:List Str) (sc:Scope):Prop where
  kind:sc.kind=.function
  co:sc.isCoroutine=false
  gen:sc.isGenerator=false
  nd:N.Nodup
  pre:N.take P.length=P
  par:∀ x ∈ P,sc.names.lookup x=some .local ∨ sc.names.lookup x=some .cell
  nofree:∀ y ∈ sc.names,y.2 ≠ .free
theorem bindL_out {kindOf:Str→Option NameKind} {x:Str}:∀ {binds:List (Str × Value)} {m:Str→Option Value},(∀ v,(x,v) ∉ binds)→bindL kindOf binds m x=m x
  | [],_,_=>rfl
  | (n,v) :: r,m,h=>by
    unfold bindL
    rw [bindL_out fun w hw=>h w (List.mem_cons_of_mem _ hw)]
    split
    · have:x ≠ n:=by rintro rfl; exact h v List.mem_cons_self
      simp [this]
    · rfl
theorem bindC_out {kindOf:Str→Option NameKind} {x:Str}:∀ {binds:List (Str × Value)} {m:Str→Option Value},(∀ v,(x,v) ∉ binds)→bindC kindOf binds m x=m x
  | [],_,_=>rfl
  | (n,v) :: r,m,h=>by
    unfold bindC
    rw [bindC_out fun w hw=>h w (List.mem_cons_of_mem _ hw)]
    split
    · rfl
    · have:x ≠ n:=by rintro rfl; exact h v List.mem_cons_self
      simp [this]
theorem bindL_get {kindOf:Str→Option NameKind} {x:Str} {v:Value}:∀ {P:List Str} {vs:List Value} {i:Nat} {m:Str→Option Value},P.Nodup→P[i]?=some x→vs[i]?=some v→kindOf x=some .local →
    bindL kindOf (P.zip vs) m x=some v
  | [],_,_,_,_,h,_,_=>by simp at h
  | _ :: _,[],_,_,_,_,h,_=>by simp at h
  | p :: P,w :: vs,0,m,nd,h1,h2,hk=>by
    simp at h1 h2; subst h1; subst h2
    show bindL kindOf ((p,w) :: P.zip vs) m p=_
    unfold bindL
    rw [bindL_out fun v hv=>(List.nodup_cons.mp nd).1 (List.of_mem_zip hv).1,if_pos hk]
    simp
  | p :: P,w :: vs,i + 1,m,nd,h1,h2,hk=>by
    show bindL kindOf ((p,w) :: P.zip vs) m x=_
    unfold bindL
    exact bindL_get (i:=i) (List.nodup_cons.mp nd).2 (by simpa using h1) (by simpa using h2) hk
theorem bindC_get {kindOf:Str→Option NameKind} {x:Str} {v:Value}:∀ {P:List Str} {vs:List Value} {i:Nat} {m:Str→Option Value},P.Nodup→P[i]?=some x→vs[i]?=some v→kindOf x ≠ some .local →
    bindC kindOf (P.zip vs) m x=some v
  | [],_,_,_,_,h,_,_=>by simp at h
  | _ :: _,[],_,_,_,_,h,_=>by simp at h
  | p :: P,w :: vs,0,m,nd,h1,h2,hk=>by
    simp at h1 h2; subst h1; subst h2
    show bindC kindOf ((p,w) :: P.zip vs) m p=_
    unfold bindC
    rw [bindC_out fun v hv=>(List.nodup_cons.mp nd).1 (List.of_mem_zip hv).1,if_neg hk]
    simp
  | p :: P,w :: vs,i + 1,m,nd,h1,h2,hk=>by
    show bindC kindOf ((p,w) :: P.zip vs) m x=_
    unfold bindC
    exact bindC_get (i:=i) (List.nodup_cons.mp nd).2 (by simpa using h1) (by simpa using h2) hk
def start (N:List Str) (vs:List V):St:=vs.map some ++ List.replicate (N.length - vs.length) none
def cxOf (CX:CXT) (P:Program) (w:World) (K:PySem.W.Frag) (mg:Str→Option Value) (base:Heap) (N:List Str) (qual:Str) (scope:Scope) (f:Addr) (cd:Value) (A:Around) (outer:List Env) (s:Shared) (H:Hp) (E:XK):Cx where
  prog:=P
  w:=w
  K:=K
  mg:=mg
  base:=base
  A:=A.deeper (envOfC qual scope s.heap.objs.size f cd)
  N:=N
  s₀:=s
  H₀:=H
  env:=envOfC qual scope s.heap.objs.size f cd
  outer:=outer
  stack:=envOfC qual scope s.heap.objs.size f cd :: outer
  ex:=[]
  calm:=true
  fn:=fun _=>true
  pn:=[]
  xe:=fun e s'=>wpAny (model P w) (A.deeper (envOfC qual scope s.heap.objs.size f cd)) (leaving (envOfC qual scope s.heap.objs.size f cd) e) (fun _ s''=>CX outer H s E e s'') (fun e' s''=>CX outer H s E e' s'') s'
theorem cell_has {sc:Scope} {n:Nat} {x:Str} (h:sc.names.lookup x=some .cell):∃ c,(cellsFrom n sc.names []).lookup x=some c:=by
  have q:=PySem.W.cellsFrom_some sc.names n [] (.inl h)
  exact Option.isSome_iff_exists.mp q
theorem inv_start {CX:CXT} {P:Program} {w:World} {K:PySem.W.Frag} {mg:Str→Option Value} {base:Heap} {N ps:List Str} {qual:Str} {scope:Scope} {f:Addr} {cd:Value} {A:Around} {outer:List Env} {s s1:Shared} {H:Hp} {E:XK} {us:List Value} {vs:List V}
    (S:FnScope N ps scope) (hd:A.handled=none) (e0:Env0 P w K mg base A outer s H) (hl:vs.length=ps.length) (r:Vals vs us)
    (x:InCallC s s.heap.objs.size (bindL (envOfC qual scope s.heap.objs.size f cd).kindOf (ps.zip us) fun _=>none) (cellsFrom (s.heap.objs.size + 1) scope.names []) (bindC (envOfC qual scope s.heap.objs.size f cd).kindOf (ps.zip us) fun _=>none) s1) :
    Inv (cxOf CX P w K mg base N qual scope f cd A outer s H E) [] (start N vs) H s1:=by
  have hpl:ps.length ≤ N.length:=by have:=congrArg List.length S.pre; rw [List.length_take] at this; omega
  obtain ⟨h1,tk,rfl,hk⟩:=x.done
  have noA:∀ b:Addr,b ∉ (cxOf CX P w K mg base N qual scope f cd A outer s H E).ex:=fun b z=>absurd (show b ∈ ([]:List Addr) from z) (by simp)
  refine ⟨⟨e0.mod,S.kind,rfl,rfl,Nat.le_refl _,fun y z c h1 h2=>?_,fun y hy=>?_,fun y c _ h=>?_,fun _=>hd,Around.frames_deeper e0.frames,.inr ⟨rfl,rfl⟩,fun b z=>absurd z (noA b),e0.bs,e0.bsz,fun b _ _=>noA b,fun b z=>absurd z (noA b),e0.funs,e0.frf⟩,
    rfl,e0.bare,Un.kept hk,⟨_,x.toInCall.ns,fun i y v h1 h2 h3=>?_⟩,fun y c h=>⟨_,x.cell y c h⟩,e0.hok.fresh (Nat.le_refl _),fun y c h=>?_,fun p hp=>absurd (show p ∈ ([]:List (Addr × Obj)) from hp) (by simp),e0.hok.kept hk,?_⟩
  · exact name_of_addr x.apart (PySem.mem_of_lookup h1) (PySem.mem_of_lookup h2)
  · have hy:scope.names.lookup y=some .cell ∨ scope.names.lookup y=some .free:=hy
    rcases hy with hy | hy
    · exact cell_has hy
    · exact absurd rfl (S.nofree _ (PySem.mem_of_lookup hy))
  · exact Nat.le_of_lt (x.above y c (PySem.mem_of_lookup h))
  · have hi:i < vs.length:=by
      unfold start at h2
      by_cases hi:i < vs.length
      · exact hi
      · rw [List.getElem?_append_right (by simpa using hi)] at h2
        rw [List.getElem?_replicate] at h2
        split at h2 <;> cases h2
    have ha:vs[i]?=some v:=by
      unfold start at h2
      rw [List.getElem?_append_left (by simpa using hi),List.getElem?_map] at h2
      cases e:vs[i]? with
      | none=>rw [e] at h2; cases h2
      | some a=>rw [e] at h2; cases h2; rfl
    obtain ⟨u,hu,rv⟩:=r.get ha
    have hp:ps[i]?=some y:=by
      rw [← S.pre,List.getElem?_take_of_lt (by omega)]; exact h1
    have ndP:ps.Nodup:=by rw [← S.pre]; exact S.nd.sublist (List.take_sublist _ _)
    refine ⟨u,rv,?_⟩
    rcases S.par y (List.mem_of_getElem? hp) with k | k
    · exact .inl ⟨k,bindL_get ndP hp hu k⟩
    · obtain ⟨c,e⟩:=cell_has (n:=s.heap.objs.size + 1) k
      refine .inr ⟨.inl k,c,e,?_⟩
      have q:=x.cell y c e
      rw [bindC_get ndP hp hu (by show scope.names.lookup y ≠ _; rw [k]; decide)] at q
      exact q
  · exact e0.hok.fresh (Nat.le_of_lt (x.above y c (PySem.mem_of_lookup h)))
  · unfold start
    show _=N.length
    rw [List.length_append,List.length_map,List.length_replicate]
    omega
theorem fn_of {CX:CXT} {P:Program} {w:World} {K:PySem.W.Frag} {mg:Str→Option Value} {base:Heap} {k:Nat} {f:Addr} {name qual:Str} {params:Arguments} {body:List Stmt} {scope:Scope} {dV kV doc pm cdv ct oc:Value} {an od:Option Addr}
    {osl:Array (Option Value)} {N ps:List Str} {sp:Sp} (lk:K.lookup f=some ⟨oc,od,.func (PySem.W.fnOf name qual params body scope dV kV doc pm an cdv ct),osl⟩) (hcd:PySem.W.codeIn K cdv qual=true) (S:FnScope N ps scope)
    (len:∀ vs H Q E,sp vs H Q E→vs.length=ps.length)
    (hbody:∀ (A:Around) (outer:List Env) (s:Shared) (H:Hp) (vs:List V) (Q:VK) (E:XK),Room k (A.deeper (envOfC qual scope s.heap.objs.size f cdv))→sp vs H Q E →
      ∃ t,PSs (cxOf CX P w K mg base N qual scope f cdv A outer s H E) body t∧t { nx:=fun _ H'=>Q .non H',rt:=Q } (start N vs) H) :
    FnOk P w K mg base CX (k + 1) f (PySem.W.fnOf name qual params body scope dV kV doc pm an cdv ct) ps sp:=by
  refine ⟨len,fun A outer s H args us vs Q E hr e0 hb r hsp=>?_⟩
  have hl:=len _ _ _ _ hsp
  have KX:K.In s.heap:=e0.mod.kin.keeps fun b o e=>(e0.bs b o e).1
  have lim:s.heap.NoLimit:=e0.mod.nolimit.keeps fun b o e=>(e0.bs b o e).1
  have hkind:∀ y ∈ ps.zip us,scope.names.lookup y.1=some .local ∨ (scope.names.lookup y.1=some .cell∧((cellsFrom (s.heap.objs.size + 1) scope.names []).lookup y.1).isSome=true):=fun ⟨n,v⟩ hy=>by
    rcases S.par n (List.of_mem_zip hy).1 with q | q
    · exact .inl q
    · exact .inr ⟨q,PySem.W.cellsFrom_some _ _ _ (.inl q)⟩
  refine codeAny_call_function hr.depth (KX _ _ lk) rfl S.co S.gen rfl (PySem.W.codeRec_of KX hcd) (hb _ _ _ _ ?_)
  refine wpAny_newFunctionEnv_cells S.kind hkind fun env he s1 x=>?_
  subst he
  refine ⟨lim.keeps x.toInCall.keep,codeAny_func ?_⟩
  obtain ⟨t,ht,hq⟩:=hbody A outer s H vs Q E (hr.deeper _) hsp
  have I:Inv (cxOf CX P w K mg base N qual scope f cdv A outer s H E) [] (start N vs) H s1:=inv_start S hr.hd e0 hl r x
  refine wpAny_mono (ht [] s1 (start N vs) H _ I hq) (fun fl s' hs=>?_) fun e s' hs=>hs
  have fin:∀ {σ':St} {H':Hp} {v:V} {u:Value},Inv (cxOf CX P w K mg base N qual scope f cdv A outer s H E) [] σ' H' s'→RelV v u→Q v H'→CE outer P w H s Q u s' :=
    fun {σ' H' v u} J rv q=>⟨v,H',J.os,J.bare,J.base,J.hok,rv,q⟩
  cases fl with
  | ret u =>
    obtain ⟨v,σ',H',J,rv,q⟩:=hs
    exact fin J rv q
  | next =>
    obtain ⟨σ',H',J,q⟩:=hs
    exact fin (v:=V.non) (u:=Value.none) J rfl q
  | brk =>
    obtain ⟨_,_,_,q⟩:=hs
    exact False.elim q
  | cont =>
    obtain ⟨_,_,_,q⟩:=hs
    exact False.elim q
end L2
namespace L2
open PySem PySem.Spec PyProof.Rows
section
variable {X:Cx} {x:Str} {p pos:Pos} {e:Expr} {es:List Expr} {t:TA} {id T:String} {r:List V→Hp→VK→Prop}
def tCB (r:List V→Hp→VK→Prop) (t:TA):TE:=fun σ H Q=>t σ H fun vs H1=>r vs H1 Q
theorem pe_callB (hc:CallR X (.builtin id) r) (hg:Gl X x) (hm:X.mg x=none) (hv:bootBuiltins x=some (.builtin id)) (ha:PA X (e :: es) t) (hn:x ≠ "__name__":=by decide) (hdb:(x == ("__debug__":Str))=false:=by decide)
    (he:starEach (e :: es) X.env=(false,eval e X.env) :: starEach es X.env:=by rfl) (hpl:(backTo pos (starEach es X.env)).any (·.1)=false:=by rfl):PE X (.Call (.Name x p) (e :: es) [] pos) (tCB r t):=by
  intro pins s σ H Q I h
  refine wpAny_Call_Name_kw (ld_blt I hg hm hv ?_ hn hdb)
  exact PyProof.Rows.callWith_builtin1 (thn (ha pos pins s σ H _ I h) fun us s1 ⟨vs,H1,I1,r1,q1⟩=>hc pins s1 σ H1 vs us Q I1 r1 q1) he hpl
theorem pe_callTy (hc:CallR X (.type T) r) (hg:Gl X x) (hm:X.mg x=none) (hv:bootBuiltins x=some (.type T)) (ha:PA X (e :: es) t) (hn:x ≠ "__name__":=by decide) (hdb:(x == ("__debug__":Str))=false:=by decide)
    (he:starEach (e :: es) X.env=(false,eval e X.env) :: starEach es X.env:=by rfl) (hpl:(backTo pos (starEach es X.env)).any (·.1)=false:=by rfl):PE X (.Call (.Name x p) (e :: es) [] pos) (tCB r t):=by
  intro pins s σ H Q I h
  refine wpAny_Call_Name_kw (ld_blt I hg hm hv ?_ hn hdb)
  exact PyProof.Rows.callWith_type1 (thn (ha pos pins s σ H _ I h) fun us s1 ⟨vs,H1,I1,r1,q1⟩=>hc pins s1 σ H1 vs us Q I1 r1 q1) he hpl
end
end L2
namespace HT
open PySem PyProof.Rows
section
open PySem.SeqAt
open PySem.AutoSeq1 (wpAny_loadPart')
open PySem.MeetsSeq PySem.MeetsSeq2 PySem.MeetsSeq3
end
section
variable {prog:Program} {w:World} {A:Around} {E:Value→Shared→Prop} {s:Shared}
theorem cat_tup {t b:Addr} {vs ws:List Value} {Q:Value→Shared→Prop} (ht:IsTup s.heap t vs.toArray) (hb:IsTup s.heap b ws.toArray) (hv:vs ≠ [])
    (h1:ws=[]→Q (.ref t) s) (h2:ws ≠ []→Q (.ref s.heap.objs.size) { s with heap:=s.heap.push { cls:=.type "tuple",data:=.seq (vs ++ ws).toArray } })
    (hsz:vs.length + ws.length ≤ sizeLine):wpAny (model prog w) A (binaryOp .Add (.ref t) (.ref b)) Q E s:=by
  obtain ⟨⟨cls,dd,data,sl⟩,ho,hc,n,hd⟩:=id ht
  obtain ⟨⟨cls2,dd2,data2,sl2⟩,ho2,hc2,n2,hd2⟩:=id hb
  simp only at hc hd hc2 hd2
  subst hc hd hc2 hd2
  have e:vs.toArray ++ ws.toArray=(vs ++ ws).toArray:=by simp
  by_cases hw:ws=[]
  · exact concat_meets ⟨_,ho,rfl⟩ ⟨_,ho2,rfl⟩ noFill_tuple_add seq_tuple_add PySem.F.slot_tuple_add PySem.F.entry_tuple_add (PySem.F.args_tuple_add_2 _ _)
      (tuple_addW1 t b vs.toArray ws.toArray n n2 dd dd2 sl sl2 (by simpa using hv) (by simp [hw])) ⟨ho,ho2,h1 hw⟩
  · refine concat_meets ⟨_,ho,rfl⟩ ⟨_,ho2,rfl⟩ noFill_tuple_add seq_tuple_add PySem.F.slot_tuple_add PySem.F.entry_tuple_add (PySem.F.args_tuple_add_2 _ _)
      (tuple_addW2 t b vs.toArray ws.toArray n n2 dd dd2 sl sl2 (by simpa using hv) (by simpa using hw) (by rw [List.size_toArray,List.size_toArray]; exact hsz)) ⟨ho,ho2,?_⟩
    rw [e]
    exact h2 hw
def sIx (n d:Nat):Option Int→Nat
  | none=>d
  | some v=>if v < 0 then (v + (n:Int)).toNat else min v.toNat n
theorem sIx_none (n d:Nat):sIx n d none=d:=rfl
theorem sIx_nat (n d k:Nat):sIx n d (some (k:Int))=min k n:=by
  show (if (k:Int) < 0 then ((k:Int) + (n:Int)).toNat else min (k:Int).toNat n)=min k n
  rw [if_neg (by omega),Int.toNat_natCast]
theorem sIx_le (n d:Nat) (hd:d ≤ n) (o:Option Int):sIx n d o ≤ n:=by
  cases o with
  | none=>exact hd
  | some v =>
    show (if v < 0 then (v + (n:Int)).toNat else min v.toNat n) ≤ n
    by_cases hv:v < 0
    · rw [if_pos hv]; omega
    · rw [if_neg hv]; exact Nat.min_le_right _ _
theorem clip_eq (v:Int) (n d:Nat):(if v < 0 then max (v + (n:Int)) 0 else min v (n:Int))=((sIx n d (some v):Nat):Int):=by
  show (if v < 0 then max (v + (n:Int)) 0 else min v (n:Int))=(((if v < 0 then (v + (n:Int)).toNat else min v.toNat n):Nat):Int)
  by_cases hv:v < 0
  · simp only [if_pos hv]; omega
  · simp only [if_neg hv]; omega
theorem adjust_gen (lo hi:Option Int) (n:Nat):Builtin.Slice.sliceAdjust lo hi 1 (n:Int)=(((sIx n 0 lo:Nat):Int),((sIx n n hi:Nat):Int)):=by
  have h1:¬ ((1:Int) < 0):=by omega
  unfold Builtin.Slice.sliceAdjust
  simp only [h1,if_false]
  refine Prod.ext ?_ ?_
  · cases lo with
    | none=>rfl
    | some v=>exact clip_eq v n 0
  · cases hi with
    | none=>rfl
    | some v=>exact clip_eq v n n
theorem places_gen (i j:Nat):Builtin.Slice.slicePlaces (i:Int) (j:Int) 1=j - i:=by
  unfold Builtin.Slice.slicePlaces
  have h1:(1:Int) > 0:=by omega
  simp only [h1,if_true,Int.ediv_one]
  split <;> omega
theorem slicePart_ {v:Value} {o:Option Int} {Q:Option Int→Shared→Prop} (p:IsPart v o) (h:Q o s):wpAny (model prog w) A (Builtin.Slice.slicePartIndex v) Q E s:=by
  cases p with
  | none=>exact slicePart_none h
  | int i t=>exact slicePart_int h
theorem sliceApplied_gen {sl:Addr} {vl vu:Value} {lo hi:Option Int} {n:Nat} {Q:Int × Int × Nat→Shared→Prop} (hs:s.heap.IsSliceOf sl vl vu .none) (pl:IsPart vl lo) (pu:IsPart vu hi)
    (h:Q (((sIx n 0 lo:Nat):Int),1,sIx n n hi - sIx n 0 lo) s):wpAny (model prog w) A (Builtin.Slice.sliceApplied (.ref sl) (pure (n:Int))) Q E s:=by
  obtain ⟨os,hos,hcs,hds⟩:=id hs
  unfold Builtin.Slice.sliceApplied Builtin.Slice.sliceFields
  refine wpAny_bind (wpAny_bind (wpAny_field hos hds (x:=vl) rfl (wpAny_bind (wpAny_field hos hds (x:=vu) rfl (wpAny_bind (wpAny_field hos hds (x:=.none) rfl (wpAny_pure ?_)))))))
  refine wpAny_bind (slicePart_none ?_)
  show wpAny _ _ (if ((1:Int) == 0)=true then _ else _) _ _ s
  rw [if_neg (by decide)]
  refine wpAny_bind (slicePart_ pl (wpAny_bind (slicePart_ pu (wpAny_bind (wpAny_pure ?_)))))
  show wpAny _ _ (match Builtin.Slice.sliceAdjust lo hi 1 (n:Int) with | (lo,hi)=>pure (lo,(1:Int),Builtin.Slice.slicePlaces lo hi 1)) _ _ s
  rw [adjust_gen lo hi n]
  show wpAny _ _ (pure (((sIx n 0 lo:Nat):Int),(1:Int),Builtin.Slice.slicePlaces ((sIx n 0 lo:Nat):Int) ((sIx n n hi:Nat):Int) 1)) _ _ s
  rw [places_gen]
  exact wpAny_pure h
theorem pick_gen (xs:Array Value) (i k:Nat):((List.range k).filterMap fun (m:Nat)=>xs[((i:Int) + (m:Int) * 1).toNat]?).toArray=((xs.toList.drop i).take k).toArray:=by
  have e:(fun (m:Nat)=>xs[((i:Int) + (m:Int) * 1).toNat]?)=fun m=>xs[i + m]?:=by
    funext m
    have:((i:Int) + (m:Int) * 1).toNat=i + m:=by omega
    rw [this]
  rw [e]
  have:=pick_run xs i k
  rw [List.filterMap_map] at this
  have e2:((fun x=>xs[x]?) ∘ fun x=>i + x)=fun m=>xs[i + m]?:=rfl
  rw [e2] at this
  rw [this]
theorem getItem_tuple_cut {t sl:Addr} {items:Array Value} {vl vu:Value} {lo hi:Option Int} {Q:Value→Shared→Prop} (ht:IsTup s.heap t items) (hs:s.heap.IsSliceOf sl vl vu .none) (pl:IsPart vl lo) (pu:IsPart vu hi)
    (hw:¬ (sIx items.size 0 lo=0∧sIx items.size items.size hi=items.size))
    (h:Q (.ref s.heap.objs.size) { s with heap:=s.heap.push { cls:=.type "tuple",data:=.seq ((items.toList.drop (sIx items.size 0 lo)).take (sIx items.size items.size hi - sIx items.size 0 lo)).toArray } })
    (hsz:items.size ≤ sizeLine):wpAny (model prog w) A (getItem (.ref t) (.ref sl)) Q E s:=by
  have htake:sizeOk (.seq ((items.toList.drop (sIx items.size 0 lo)).take (sIx items.size items.size hi - sIx items.size 0 lo)).toArray):=by
    show ((items.toList.drop (sIx items.size 0 lo)).take (sIx items.size items.size hi - sIx items.size 0 lo)).toArray.size ≤ sizeLine
    rw [List.size_toArray,List.length_take,List.length_drop,Array.length_toList]
    omega
  have hj:sIx items.size items.size hi ≤ items.size:=sIx_le _ _ (Nat.le_refl _) hi
  obtain ⟨os,hos,hcs,hds⟩:=id hs
  have hTs:s.TypeIs (.ref sl) "slice":=⟨os,hos,hcs⟩
  unfold getItem
  try with_reducible refine wpAny_holding ?_
  first | refine wpAny_bind (wpAny_pure ?_) | skip
  refine wpAny_bind (wpAny_sequenceKey ht.typeIs (by decide) ?_)
  refine wpAny_bind (wpAny_callSpecial?_slot (name:=Str.ofString "__getitem__") ht.typeIs PyProof.Rows.slot_tuple_getitem
    (wpAny_call_entry PyProof.Rows.slot_tuple_getitem ht.typeIs entry_tuple_getitem ?_ (args_tuple_getitem _ _)))
  show wpAny _ _ (Builtin.Tuple.tupleItemsOf (.ref t) >>= _) _ _ s
  refine wpAny_bind (tupleItemsOf_ ht ?_)
  refine wpAny_bind (wpAny_typeOf hTs ?_)
  rw [if_pos (by decide)]
  refine wpAny_bind (sliceApplied_gen hs pl pu ?_)
  have hno:¬ ((((sIx items.size 0 lo:Nat):Int) == 0 && (1:Int) == 1 && (sIx items.size items.size hi - sIx items.size 0 lo) == items.size)=true):=by
    intro q
    rw [Bool.and_eq_true,Bool.and_eq_true] at q
    have q1:((sIx items.size 0 lo:Nat):Int)=0:=eq_of_beq q.1.1
    have q2:sIx items.size items.size hi - sIx items.size 0 lo=items.size:=eq_of_beq q.2
    exact hw ⟨by omega,by omega⟩
  show wpAny _ _ (if (((sIx items.size 0 lo:Nat):Int) == 0 && (1:Int) == 1 && (sIx items.size items.size hi - sIx items.size 0 lo) == items.size)=true then _ else _) _ _ s
  rw [if_neg hno,pick_gen]
  first
    | exact wpAny_bind (m:=Builtin.Tuple.tupleExact _) (wpAny_newObj_type (wpAny_pure ⟨_,rfl,wpAny_pure h⟩) htake)
    | exact wpAny_bind (m:=Builtin.Tuple.tupleExact _) (wpAny_newObj_type (wpAny_bind (wpAny_pure (wpAny_pure ⟨_,rfl,wpAny_pure h⟩))) htake)
    | exact wpAny_bind (wpAny_bind (m:=Builtin.Tuple.tupleExact _) (wpAny_newObj_type (wpAny_pure (wpAny_pure ⟨_,rfl,wpAny_pure h⟩)) htake))
    | exact wpAny_bind (wpAny_bind (m:=Builtin.Tuple.tupleExact _) (wpAny_newObj_type (wpAny_pure ⟨_,rfl,wpAny_pure h⟩) htake))
end
end HT
namespace L2
open PySem PySem.Spec PyProof.Rows
abbrev TO:=St→Hp→(Option Int→Hp→Prop)→Prop
def PO (X:Cx) (e:Option Expr) (t:TO):Prop :=
  ∀ (pins:List (Addr × Obj)) (s:Shared) (σ:St) (H:Hp) (Q:Option Int→Hp→Prop),Inv X pins σ H s→t σ H Q →
    wpAny (model X.prog X.w) X.A (evalPart e X.env) (fun u s'=>∃ o H',Inv X pins σ H' s'∧IsPart u o∧Q o H') X.xe s
def tNoPart:TO:=fun _ H Q=>Q none H
def tPart (t:TE):TO:=fun σ H Q=>t σ H fun x H1=>∃ i,x=.int i∧Q (some i) H1
theorem intsAre_of {ns:List Int}:∀ {us:List Value},Vals (ns.map V.int) us→IntsAre us ns:=by
  induction ns with
  | nil=>intro us r; rw [List.map_nil] at r; cases r; exact .nil
  | cons n ns ih =>
    intro us r
    rw [List.map_cons] at r
    cases r with
    | cons r1 r2 =>
      obtain ⟨t,e⟩:=r1
      subst e
      exact .cons n t (ih r2)
section
variable {X:Cx} {e:Expr} {te:TE} {lo hi:Option Expr} {tl th:TO} {pos p2:Pos}
theorem po_none:PO X none tNoPart:=by
  intro pins s σ H Q I h
  rw [evalPart_none]
  exact wpAny_pure ⟨none,H,I,.none,h⟩
theorem po_some (h:PE X e te):PO X (some e) (tPart te):=by
  intro pins s σ H Q I hw
  rw [evalPart_some]
  refine thn (h pins s σ H _ I hw) fun u s1 ⟨x,H1,I1,r1,q1⟩=>?_
  obtain ⟨i,rfl,q⟩:=q1
  obtain ⟨t,rfl⟩:=r1
  exact ⟨some i,H1,I1,.int i t,q⟩
def SlR (X:Cx) (r:V→Option Int→Option Int→Hp→VK→Prop):Prop :=
  ∀ (pins:List (Addr × Obj)) (s:Shared) (σ:St) (H:Hp) (x:V) (v vl vu:Value) (lo hi:Option Int) (sl:Addr) (Q:VK),Inv X pins σ H s→RelV x v→s.heap.IsSliceOf sl vl vu .none→IsPart vl lo→IsPart vu hi→r x lo hi H Q →
    ∃ T id,typeLookup (.type T) "__getitem__"=pure (some (.builtin id))∧s.TypeIs v T∧wpAny (model X.prog X.w) X.A (getItem v (.ref sl)) (EP X pins σ Q) X.xe s
def tSl (r:V→Option Int→Option Int→Hp→VK→Prop) (te:TE) (tl th:TO):TE:=fun σ H Q=>te σ H fun x H1=>tl σ H1 fun l H2=>th σ H2 fun u H3=>r x l u H3 Q
theorem pe_slice {r:V→Option Int→Option Int→Hp→VK→Prop} (hr:SlR X r) (he:PE X e te) (hl:PO X lo tl) (hu:PO X hi th):PE X (.Subscript e (.Slice lo hi none p2) pos) (tSl r te tl th):=by
  intro pins s σ H Q I h
  refine Subscript_ (thn (he pins s σ H _ I h) fun v s1 ⟨x,H1,I1,r1,q1⟩=>?_)
  refine wpAny_Slice (thn (hl pins s1 σ H1 _ I1 q1) fun vl s2 ⟨l,H2,I2,pl,q2⟩=>thn (hu pins s2 σ H2 _ I2 q2) fun vu s3 ⟨u,H3,I3,pu,q3⟩=>?_)
  rw [evalPart_none]
  refine wpAny_pure ?_
  have I4:Inv X pins σ H3 { s3 with heap:=s3.heap.push { cls:=.type "slice",data:=.fields #[vl,vu,.none] } }:=I3.kept (t':=s3.toks) fun b ob q=>Heap.get?_push_of_some _ q
  obtain ⟨T,id,hT,ht,hg⟩:=hr pins { s3 with heap:=s3.heap.push { cls:=.type "slice",data:=.fields #[vl,vu,.none] } } σ H3 x v vl vu l u s3.heap.objs.size Q I4 r1 (Heap.IsSliceOf.new ..) pl pu q3
  show wpAny (model X.prog X.w) X.A (subscriptTail e (.Slice lo hi none p2) v (.ref s3.heap.objs.size)) (EP X pins σ Q) X.xe { s3 with heap:=s3.heap.push { cls:=.type "slice",data:=.fields #[vl,vu,.none] } }
  exact tail_any (ops:=[.ref s3.heap.objs.size,v]) ht hT hg (by with_unfolding_all rfl)
def cutV (xs:List V) (lo hi:Option Int):List V:=(xs.drop (HT.sIx xs.length 0 lo)).take (HT.sIx xs.length xs.length hi - HT.sIx xs.length 0 lo)
theorem cutV_length (xs:List V) (lo hi:Option Int):(cutV xs lo hi).length ≤ xs.length:=by
  unfold cutV
  rw [List.length_take,List.length_drop]
  omega
def rSlT (K:PySem.W.Frag):V→Option Int→Option Int→Hp→VK→Prop:=fun x lo hi H Q=>∃ a xs,x=.ref a∧SqT K H a xs ∧
  ¬ (HT.sIx xs.length 0 lo=0∧HT.sIx xs.length xs.length hi=xs.length)∧∀ p,H p=none→Q (.ref p) (upd H p (.tup (cutV xs lo hi)))
theorem sl_tup:SlR X (rSlT X.K):=by
  intro pins s σ H x v vl vu lo hi sl Q I rx hs pl pu h
  obtain ⟨a,xs,rfl,hx,hw,q⟩:=h
  cases rx
  obtain ⟨its,r,ht,hz⟩:=I.tuple hx
  have hlen:its.toArray.size=xs.length:=by rw [List.size_toArray]; exact r.length.symm
  refine ⟨"tuple",_,PyProof.Rows.slot_tuple_getitem.lookup,ht.typeIs,?_⟩
  refine HT.getItem_tuple_cut ht hs pl pu (by rw [hlen]; exact hw) ?_ (by rw [hlen]; exact hz)
  rw [hlen]
  refine ⟨.ref s.heap.objs.size,_,I.laid (t':=s.toks) (o:=.tup (cutV xs lo hi)) (fun b ob q=>Heap.get?_push_of_some _ q) (Nat.le_refl _) ?_,rfl,q _ (I.hok.fresh (Nat.le_refl _))⟩
  exact ⟨Nat.le_trans (cutV_length xs lo hi) hz,_,(r.drop (HT.sIx xs.length 0 lo)).take (HT.sIx xs.length xs.length hi - HT.sIx xs.length 0 lo),IsTup.new _ _⟩
def rCatT (K:PySem.W.Frag):R2:=fun x y H Q=>∃ a b xs ys,x=.ref a∧y=.ref b∧SqT K H a xs∧SqT K H b ys∧xs ≠ []∧xs.length + ys.length ≤ sizeLine ∧
  (ys=[]→Q (.ref a) H)∧(ys ≠ []→∀ p,H p=none→Q (.ref p) (upd H p (.tup (xs ++ ys))))
theorem Vals.nil_iff {xs:List V} {us:List Value} (r:Vals xs us):us=[] ↔ xs=[]:=by
  cases r with
  | nil=>simp
  | cons _ _=>simp
theorem op_catT:OpR X (binaryOp .Add) (rCatT X.K):=by
  intro pins s σ H x y v u Q I rx ry h
  obtain ⟨a,b,xs,ys,rfl,rfl,ha,hb,hx,hz,q1,q2⟩:=h
  cases rx
  cases ry
  obtain ⟨its,r1,p1,_⟩:=I.tuple ha
  obtain ⟨its2,r2,p2,_⟩:=I.tuple hb
  refine HT.cat_tup p1 p2 (fun z=>hx (r1.nil_iff.mp z)) (fun z=>⟨.ref a,H,I,rfl,q1 (r2.nil_iff.mp z)⟩) (fun z=>?_) (by rw [← r1.length,← r2.length]; exact hz)
  refine ⟨.ref s.heap.objs.size,_,I.laid (t':=s.toks) (o:=.tup (xs ++ ys)) (fun b ob q=>Heap.get?_push_of_some _ q) (Nat.le_refl _) ?_,rfl,q2 (fun w=>z (r2.nil_iff.mpr w)) _ (I.hok.fresh (Nat.le_refl _))⟩
  exact ⟨by rw [List.length_append]; exact hz,_,r1.append r2,IsTup.new _ _⟩
end
end L2
namespace L2
open PySem PySem.Spec PyProof.Rows
def ixN (n:Nat) (i:Int):Option Nat:=if 0 ≤ i then (if i < n then some i.toNat else none) else if -(n:Int) ≤ i then some (i + n).toNat else none
def atI {α:Type} (xs:List α) (i:Int):Option α:=(ixN xs.length i).bind fun j=>xs[j]?
theorem ixN_seq {n:Nat} {i:Int} {j:Nat} (h:ixN n i=some j):seqIndex? i n=some j∧j < n∧-(n:Int) ≤ i∧i < n:=by
  unfold ixN at h
  by_cases h0:0 ≤ i
  · rw [if_pos h0] at h
    by_cases h1:i < n
    · rw [if_pos h1] at h
      have e:i.toNat=j:=Option.some.inj h
      exact ⟨by rw [seqIndex_of h0 h1,e],by omega,by omega,h1⟩
    · rw [if_neg h1] at h; cases h
  · rw [if_neg h0] at h
    by_cases h1:-(n:Int) ≤ i
    · rw [if_pos h1] at h
      have e:(i + n).toNat=j:=Option.some.inj h
      exact ⟨by rw [seqIndex_neg (by omega) h1,e],by omega,h1,by omega⟩
    · rw [if_neg h1] at h; cases h
theorem atI_get {α:Type} {xs:List α} {i:Int} {v:α} (h:atI xs i=some v):∃ j,seqIndex? i xs.length=some j∧xs[j]?=some v∧j < xs.length∧-(xs.length:Int) ≤ i∧i < xs.length:=by
  unfold atI at h
  cases e:ixN xs.length i with
  | none=>rw [e] at h; cases h
  | some j =>
    rw [e] at h
    obtain ⟨h1,h2,h3,h4⟩:=ixN_seq e
    exact ⟨j,h1,h,h2,h3,h4⟩
theorem atI_nat {α:Type} {xs:List α} {j:Nat} {v:α} (h:xs[j]?=some v):atI xs (j:Int)=some v:=by
  have hj:j < xs.length:=(List.getElem?_eq_some_iff.mp h).1
  have e:ixN xs.length (j:Int)=some j:=by
    unfold ixN
    rw [if_pos (by omega),if_pos (by omega)]; simp
  unfold atI; rw [e]; exact h
def PlainIx (b:Expr):Prop:=∀ o i,subscripted b false o i=operate [o,i] (getItem o i)
def IxR (X:Cx) (r:R2):Prop :=
  ∀ (value slice:Expr) (pins:List (Addr × Obj)) (s:Shared) (σ:St) (H:Hp) (x y:V) (v u:Value) (Q:VK),Inv X pins σ H s→RelV x v→RelV y u→r x y H Q →
    subscripted slice false v u=operate [v,u] (getItem v u)→wpAny (model X.prog X.w) X.A (subscriptTail value slice v u) (EP X pins σ Q) X.xe s
def MtR (X:Cx) (id:String) (r:V→List V→Hp→VK→Prop):Prop :=
  ∀ (pins:List (Addr × Obj)) (s:Shared) (σ:St) (H:Hp) (x:V) (xs:List V) (v:Value) (us:List Value) (Q:VK),Inv X pins σ H s→RelV x v→Vals xs us→r x xs H Q →
    wpAny (model X.prog X.w) X.A (call (.builtin id) (v :: us)) (EP X pins σ Q) X.xe s
section
variable {X:Cx} {a b:Expr} {ta tb:TE} {pos:Pos}
theorem pe_ix {r:R2} (hr:IxR X r) (ha:PE X a ta) (hb:PE X b tb) (hs:PlainIx b):PE X (.Subscript a b pos) (tOp r ta tb):=by
  intro pins s σ H Q I h
  exact Subscript_ (binT ha hb I h fun v u s2 x y H2 I2 rx ry q=>hr a b pins s2 σ H2 x y v u Q I2 rx ry q (hs _ _))
def rIxL (K:PySem.W.Frag):R2:=fun x y H Q=>∃ p xs i v,x=.ref p∧y=.int i∧SqL K H p xs∧atI xs i=some v∧Q v H
def rIxT (K:PySem.W.Frag):R2:=fun x y H Q=>∃ p xs i v,x=.ref p∧y=.int i∧SqT K H p xs∧atI xs i=some v∧Q v H
def rIxS:R2:=fun x y H Q=>∃ z i c,x=.str z∧y=.int i∧z.length ≤ sizeLine∧atI z.cps.toList i=some c∧Q (.str ⟨#[c]⟩) H
theorem ix_list:IxR X (rIxL X.K):=by
  intro value slice pins s σ H x y v u Q I rx ry h hs
  obtain ⟨p,xs,i,z,rfl,rfl,hq,he,q⟩:=h
  cases rx
  obtain ⟨t,rfl⟩:=ry
  obtain ⟨its,r,pl,hz⟩:=I.list hq
  obtain ⟨j,h1,h2,h3,h4,h5⟩:=atI_get he
  obtain ⟨w,ew,rw'⟩:=r.get h2
  have hl:=r.length
  have hn:=line63
  have fin:EP X pins σ Q w s:=⟨z,H,I,rw',q⟩
  by_cases h0:0 ≤ i
  · have hj:i.toNat=j:=by
      rw [seqIndex_of h0 h5] at h1
      exact Option.some.inj h1
    exact item_listR pl.isList h0 (by omega) (by rw [hj]; simpa using ew) fin hs
  · have hj:(i + (its.toArray.size:Int)).toNat=j:=by
      rw [seqIndex_neg (by omega) h4] at h1
      rw [List.size_toArray,← hl]
      exact Option.some.inj h1
    exact subscriptTail_builtinR (x:=w) pl.isList.typeIs slot_list_getitem.lookup
      (wpAny_getItem_list_neg (Q:=fun r s'=>r=w∧EP X pins σ Q r s') pl.isList (by omega) (by rw [List.size_toArray] <;> omega) (by omega) (by rw [hj]; simpa using ew) ⟨rfl,fin⟩) hs
theorem ix_tup:IxR X (rIxT X.K):=by
  intro value slice pins s σ H x y v u Q I rx ry h hs
  obtain ⟨p,xs,i,z,rfl,rfl,hq,he,q⟩:=h
  cases rx
  obtain ⟨t,rfl⟩:=ry
  obtain ⟨its,r,pl,hz⟩:=I.tuple hq
  obtain ⟨j,h1,h2,h3,h4,h5⟩:=atI_get he
  obtain ⟨w,ew,rw'⟩:=r.get h2
  have hl:=r.length
  have hn:=line63
  have fin:EP X pins σ Q w s:=⟨z,H,I,rw',q⟩
  exact subscriptTail_builtinR (x:=w) pl.typeIs slot_tuple_getitem.lookup
    (getItem_tuple (j:=j) (Q:=fun r s'=>r=w∧EP X pins σ Q r s') pl (by omega) (by omega) (by rw [List.size_toArray,← hl]; exact h1) (by simpa using ew) ⟨rfl,fin⟩) hs
theorem ix_str:IxR X rIxS:=by
  intro value slice pins s σ H x y v u Q I rx ry h hs
  obtain ⟨z,i,c,rfl,rfl,hz,he,q⟩:=h
  obtain ⟨t,rfl⟩:=rx
  obtain ⟨t',rfl⟩:=ry
  obtain ⟨j,h1,h2,h3,h4,h5⟩:=atI_get he
  have hl:z.cps.toList.length=z.length:=by simp [Str.length]
  rw [hl] at h1 h4 h5
  have hn:=line63
  exact tail_any (typeIs_str s z t) slot_str_getitem.lookup (getItem_str (c:=c) (by
    have e1:decide (i < -(2 ^ 63:Int))=false:=decide_eq_false (by omega)
    have e2:decide (i ≥ 2 ^ 63)=false:=decide_eq_false (by omega)
    rw [e1,e2,Bool.or_false]) (by rw [h1]; simpa using h2) ⟨.str ⟨#[c]⟩,H,I.tok _,⟨_,rfl⟩,q⟩) hs
theorem slice_bounds (lo hi:Option Int) (n:Nat):(sliceBounds lo hi none n).1=((HT.sIx n 0 lo:Nat):Int)∧(sliceBounds lo hi none n).2.1=((HT.sIx n n hi:Nat):Int)∧(sliceBounds lo hi none n).2.2=1:=by
  refine ⟨?_,?_,rfl⟩
  · cases lo with
    | none=>simp [sliceBounds,HT.sIx]
    | some i =>
      simp only [sliceBounds,HT.sIx,Option.getD_none,show (1:Int) > 0 by decide,if_true]
      by_cases h:i < 0
      · simp only [h,if_true] <;> omega
      · simp only [h,if_false] <;> omega
  · cases hi with
    | none=>simp [sliceBounds,HT.sIx]
    | some i =>
      simp only [sliceBounds,HT.sIx,Option.getD_none,show (1:Int) > 0 by decide,if_true]
      by_cases h:i < 0
      · simp only [h,if_true] <;> omega
      · simp only [h,if_false] <;> omega
theorem slicePick_cut (its:List Value) (lo hi:Option Int):slicePick its.toArray lo hi none=((its.drop (HT.sIx its.length 0 lo)).take (HT.sIx its.length its.length hi - HT.sIx its.length 0 lo)).toArray:=by
  obtain ⟨h1,h2,h3⟩:=slice_bounds lo hi its.toArray.size
  unfold slicePick
  rw [h1,h2,h3]
  simp only [sliceRange_one,pick_run,List.size_toArray] <;> rfl
def rSlL (K:PySem.W.Frag):V→Option Int→Option Int→Hp→VK→Prop:=fun x lo hi H Q=>∃ a xs,x=.ref a∧SqL K H a xs∧∀ p,H p=none→Q (.ref p) (upd H p (.lst (cutV xs lo hi)))
theorem sl_list:SlR X (rSlL X.K):=by
  intro pins s σ H x v vl vu lo hi sl Q I rx hs pl pu h
  obtain ⟨a,xs,rfl,hx,q⟩:=h
  cases rx
  obtain ⟨its,r,ht,hz⟩:=I.list hx
  have hlen:=r.length
  refine ⟨"list",_,slot_list_getitem.lookup,ht.isList.typeIs,?_⟩
  refine wpAny_getItem_list_slice ht.isList hs pl pu .none (by simp) ?_ (by rw [List.size_toArray] <;> omega)
  rw [slicePick_cut,← hlen]
  refine ⟨.ref s.heap.objs.size,_,I.laid (t':=s.toks) (o:=.lst (cutV xs lo hi)) (fun b ob q=>Heap.get?_push_of_some _ q) (Nat.le_refl _) ?_,rfl,q _ (I.hok.fresh (Nat.le_refl _))⟩
  exact ⟨Nat.le_trans (cutV_length xs lo hi) hz,_,0,(r.drop (HT.sIx xs.length 0 lo)).take (HT.sIx xs.length xs.length hi - HT.sIx xs.length 0 lo),Heap.get?_push_size _ rfl⟩
def flatV:V→Bool
  | .non=>true
  | .bl _=>true
  | .int _=>true
  | .str _=>true
  | _=>false
def eqV:V→V→Bool
  | .non,.non=>true
  | .bl a,.bl b=>a == b
  | .bl a,.int b=>(if a then 1 else 0) == b
  | .int a,.bl b=>a == (if b then 1 else 0)
  | .int a,.int b=>a == b
  | .str a,.str b=>a == b
  | _,_=>false
theorem eqAt_V {A:Around} {s:Shared} {y x:V} {u v:Value} (ry:RelV y u) (rx:RelV x v) (fy:flatV y=true) (fx:flatV x=true):SeqAt.EqAt A s u v (eqV y x):=by
  cases y with
  | non =>
    cases ry
    cases x with
    | non=>cases rx; exact SeqAt.EqAt.same _
    | bl b=>cases rx; exact SeqAt.EqAt.none_bool b
    | int b=>obtain ⟨t,rfl⟩:=rx; exact SeqAt.EqAt.none_int b t
    | str b=>obtain ⟨t,rfl⟩:=rx; exact SeqAt.EqAt.none_str b t
    | _=>exact absurd (show false=true from fx) Bool.false_ne_true
  | bl a =>
    cases ry
    cases x with
    | non=>cases rx; exact SeqAt.EqAt.bool_none a
    | bl b=>cases rx; exact SeqAt.EqAt.bool_bool a b
    | int b=>obtain ⟨t,rfl⟩:=rx; exact SeqAt.EqAt.bool_int a b t
    | str b=>obtain ⟨t,rfl⟩:=rx; exact SeqAt.EqAt.bool_str a b t
    | _=>exact absurd (show false=true from fx) Bool.false_ne_true
  | int a =>
    obtain ⟨t',rfl⟩:=ry
    cases x with
    | non=>cases rx; exact SeqAt.EqAt.int_none a t'
    | bl b=>cases rx; exact SeqAt.EqAt.int_bool a t' b
    | int b=>obtain ⟨t,rfl⟩:=rx; exact SeqAt.EqAt.int_int a t' b t
    | str b=>obtain ⟨t,rfl⟩:=rx; exact SeqAt.EqAt.int_str a t' b t
    | _=>exact absurd (show false=true from fx) Bool.false_ne_true
  | str a =>
    obtain ⟨t',rfl⟩:=ry
    cases x with
    | non=>cases rx; exact SeqAt.EqAt.str_none a t'
    | bl b=>cases rx; exact SeqAt.EqAt.str_bool a t' b
    | int b=>obtain ⟨t,rfl⟩:=rx; exact SeqAt.EqAt.str_int a t' b t
    | str b=>obtain ⟨t,rfl⟩:=rx; exact SeqAt.EqAt.str_str a t' b t
    | _=>exact absurd (show false=true from fx) Bool.false_ne_true
  | _=>exact absurd (show false=true from fy) Bool.false_ne_true
def eqU (x:V) (u:Value):Bool:=match u with
  | .none=>eqV .non x
  | .bool b=>eqV (.bl b) x
  | .int i _=>eqV (.int i) x
  | .str z _=>eqV (.str z) x
  | _=>false
theorem eqU_of {x y:V} {u:Value} (r:RelV y u) (f:flatV y=true):eqU x u=eqV y x:=by
  cases y with
  | non=>cases r; rfl
  | bl b=>cases r; rfl
  | int i=>obtain ⟨t,rfl⟩:=r; rfl
  | str z=>obtain ⟨t,rfl⟩:=r; rfl
  | _=>exact absurd (show false=true from f) Bool.false_ne_true
theorem any_eqU {x:V}:∀ {xs:List V} {us:List Value},Vals xs us→xs.all flatV=true→us.any (eqU x)=xs.any fun y=>eqV y x
  | _,_,.nil,_=>rfl
  | y :: xs,u :: us,.cons r t,f=>by
    rw [List.all_cons,Bool.and_eq_true] at f
    rw [List.any_cons,List.any_cons,eqU_of r f.1,any_eqU t f.2]
theorem mem_eqAt {A:Around} {s:Shared} {x:V} {v:Value} (rx:RelV x v) (fx:flatV x=true):∀ {xs:List V} {us:List Value},Vals xs us→xs.all flatV=true→∀ u ∈ us,SeqAt.EqAt A s u v (eqU x u)
  | _,_,.nil,_=>fun u hu=>by cases hu
  | y :: xs,u :: us,.cons r t,f=>fun u' hu=>by
    rw [List.all_cons,Bool.and_eq_true] at f
    rcases List.mem_cons.mp hu with rfl | hu
    · rw [eqU_of r f.1]; exact eqAt_V r rx f.1 fx
    · exact mem_eqAt rx fx t f.2 u' hu
def inV (x:V) (xs:List V):Bool:=xs.any fun y=>eqV y x
def rIn (K:PySem.W.Frag) (neg:Bool):R2:=fun x y H Q=>∃ p xs,y=.ref p∧(SqL K H p xs ∨ SqT K H p xs)∧flatV x=true∧xs.all flatV=true∧Q (.bl (if neg then !inV x xs else inV x xs)) H
theorem op_in_seq:OpR X (compareOp .In) (rIn X.K false):=by
  intro pins s σ H x y v u Q I rx ry h
  obtain ⟨p,xs,rfl,hq,fx,fs,q⟩:=h
  cases ry
  rcases hq with hq | hq
  · obtain ⟨its,r,pl,hz⟩:=I.list hq
    refine SeqAt.in_listAt (eqU x) pl.isList (fun w hw=>mem_eqAt rx fx r fs w (by simpa using hw)) ⟨.bl _,H,I,rfl,?_⟩
    rw [show its.toArray.any (eqU x)=its.any (eqU x) by simp,any_eqU r fs]
    exact q
  · obtain ⟨its,r,pl,hz⟩:=I.tuple hq
    refine SeqAt.in_tupleAt (eqU x) pl (fun w hw=>mem_eqAt rx fx r fs w (by simpa using hw)) ⟨.bl _,H,I,rfl,?_⟩
    rw [show its.toArray.any (eqU x)=its.any (eqU x) by simp,any_eqU r fs]
    exact q
theorem call_len_seq:CallR X (.builtin "len") (fun xs H Q=>∃ p ys,xs=[.ref p]∧(SqL X.K H p ys ∨ SqT X.K H p ys)∧Q (.int ys.length) H):=by
  intro pins s σ H xs us Q I r h
  obtain ⟨p,ys,rfl,hq,q⟩:=h
  obtain ⟨u,rfl,rx⟩:=vals1 r
  cases rx
  have hn:=line63
  rcases hq with hq | hq
  · obtain ⟨its,r',pl,hz⟩:=I.list hq
    have hlen:=r'.length
    exact Calls.call_len_list pl.isList (by simp only [List.size_toArray] <;> omega) ⟨.int ys.length,H,I.tok _,⟨s.toks + 1,by rw [List.size_toArray,hlen]⟩,q⟩
  · obtain ⟨its,r',pl,hz⟩:=I.tuple hq
    have hlen:=r'.length
    exact len_tuple pl (by simp only [List.size_toArray] <;> omega) ⟨.int ys.length,H,I.tok _,⟨s.toks + 1,by rw [List.size_toArray,hlen]⟩,q⟩
theorem call_len_str:CallR X (.builtin "len") (fun xs H Q=>∃ z,xs=[.str z]∧z.length ≤ sizeLine∧Q (.int z.length) H):=by
  intro pins s σ H xs us Q I r h
  obtain ⟨z,rfl,hz,q⟩:=h
  obtain ⟨u,rfl,t,rfl⟩:=vals1 r
  have hn:=line63
  exact len_str (by omega) ⟨.int z.length,H,I.tok _,⟨_,rfl⟩,q⟩
theorem call_list_of:CallR X (.type "list") (fun xs H Q=>∃ p ys,xs=[.ref p]∧(SqL X.K H p ys ∨ SqT X.K H p ys)∧∀ l,H l=none→Q (.ref l) (upd H l (.lst ys))):=by
  intro pins s σ H xs us Q I r h
  obtain ⟨p,ys,rfl,hq,q⟩:=h
  obtain ⟨u,rfl,rx⟩:=vals1 r
  cases rx
  have fin:∀ (its:List Value),Vals ys its→ys.length ≤ sizeLine→∀ (h':Heap) (c':Nat),(∀ b o',s.heap.get? b=some o'→h'.get? b=some o') →
      h'.get? s.heap.objs.size=some { cls:=.type "list",dict:=none,data:=.seq its.toArray c',slots:=#[] }→EP X pins σ Q (.ref s.heap.objs.size) { s with heap:=h' }:=fun its r' hz h' c' kp e =>
    ⟨.ref s.heap.objs.size,_,I.laid (t':=s.toks) kp (Nat.le_refl _) (show ObjOk X.prog X.w _ h' _ (.lst ys) from ⟨hz,its,c',r',e⟩),rfl,q _ (I.hok.fresh (Nat.le_refl _))⟩
  rcases hq with hq | hq
  · obtain ⟨its,r',pl,hz⟩:=I.list hq
    have hlen:=r'.length
    obtain ⟨o,ho,hc,n,hd⟩:=pl.isList
    exact call_list_seq p (.inl rfl) ho hc hd (fun h' c' kp e=>fin its r' hz h' c' kp e) (by simp only [List.size_toArray] <;> omega)
  · obtain ⟨its,r',pl,hz⟩:=I.tuple hq
    have hlen:=r'.length
    obtain ⟨o,ho,hc,n,hd⟩:=pl
    exact call_list_seq p (.inr rfl) ho hc hd (fun h' c' kp e=>fin its r' hz h' c' kp e) (by simp only [List.size_toArray] <;> omega)
theorem call_tuple_of:CallR X (.type "tuple") (fun xs H Q=>∃ p ys,xs=[.ref p]∧((SqL X.K H p ys∧∀ l,H l=none→Q (.ref l) (upd H l (.tup ys))) ∨ (SqT X.K H p ys∧Q (.ref p) H))):=by
  intro pins s σ H xs us Q I r h
  obtain ⟨p,ys,rfl,h⟩:=h
  obtain ⟨u,rfl,rx⟩:=vals1 r
  cases rx
  rcases h with ⟨hq,q⟩ | ⟨hq,q⟩
  · obtain ⟨its,r',pl,hz⟩:=I.list hq
    have hlen:=r'.length
    refine call_tuple_list pl.isList (fun h' kp=>?_) (by simp only [List.size_toArray] <;> omega)
    have I1:Inv X pins σ H { s with heap:=h' }:=I.kept (t':=s.toks) kp
    have I2:Inv X pins σ (upd H h'.objs.size (.tup ys)) { s with heap:=h'.push { cls:=.type "tuple",data:=.seq its.toArray } } :=
      I1.laid (t':=s.toks) (fun b o e=>Heap.get?_push_of_some _ e) (Nat.le_refl _) (show ObjOk X.prog X.w _ _ _ (.tup ys) from ⟨hz,its,r',IsTup.new _ _⟩)
    exact ⟨.ref h'.objs.size,_,I2,rfl,q _ (I1.hok.fresh (Nat.le_refl _))⟩
  · obtain ⟨its,r',pl,hz⟩:=I.tuple hq
    exact call_tuple_same pl ⟨.ref p,H,I,rfl,q⟩
def tyV (K:PySem.W.Frag) (T:String) (x:V) (H:Hp):Prop:=match x with
  | .str _=>T="str"
  | .int _=>T="int"
  | .ref p=>(T="list"∧∃ xs,SqL K H p xs) ∨ (T="tuple"∧∃ o,K.lookup p=some o∧o.cls=.type "tuple"∧o.dict=none) ∨
      (T="dict"∧((∃ kvs,H p=some (.dK kvs)) ∨ ∃ kvs,H p=some (.dT kvs))) ∨ (T="set"∧∃ S n,H p=some (.set S n))
  | _=>False
theorem tyV_is {pins:List (Addr × Obj)} {σ:St} {H:Hp} {s:Shared} {T:String} {x:V} {v:Value} (I:Inv X pins σ H s) (r:RelV x v) (ty:tyV X.K T x H) :
    s.TypeIs v T∧∀ a,v=.ref a→∃ ob,s.heap.get? a=some ob∧ob.dict=none:=by
  cases x with
  | str z =>
    obtain ⟨t,rfl⟩:=r
    cases (show T="str" from ty)
    exact ⟨typeIs_str s z t,fun _ e=>nomatch e⟩
  | int i =>
    obtain ⟨t,rfl⟩:=r
    cases (show T="int" from ty)
    exact ⟨typeIs_int s i t,fun _ e=>nomatch e⟩
  | ref p =>
    cases r
    rcases ty with ⟨rfl,xs,hq⟩ | ⟨rfl,o,hk,hc,hd⟩ | ⟨rfl,hk⟩ | ⟨rfl,S,n,hk⟩
    · obtain ⟨its,_,pl,_⟩:=I.list hq
      refine ⟨pl.isList.typeIs,fun a e=>?_⟩
      cases e
      obtain ⟨o,n,e,c,hd,_⟩:=pl
      exact ⟨o,e,hd⟩
    · refine ⟨⟨o,I.kIn p o hk,hc⟩,fun a e=>?_⟩
      cases e
      exact ⟨o,I.kIn _ o hk,hd⟩
    · have z:∃ o,s.heap.get? p=some o∧o.ExactDict:=by
        rcases hk with ⟨kvs,hk⟩ | ⟨kvs,hk⟩
        · obtain ⟨_,_,_,_,o,_,_,e,ex,_⟩:=I.hok p _ hk
          exact ⟨o,e,ex⟩
        · obtain ⟨_,_,_,_,o,_,_,e,ex,_⟩:=I.hok p _ hk
          exact ⟨o,e,ex⟩
      obtain ⟨o,e,ex⟩:=z
      refine ⟨⟨o,e,ex.1⟩,fun a e2=>?_⟩
      cases e2
      exact ⟨o,e,ex.2.1⟩
    · obtain ⟨o,_,_,_,e,ex,_⟩:=I.hok p _ hk
      refine ⟨⟨o,e,ex.1⟩,fun a e2=>?_⟩
      cases e2
      exact ⟨o,e,ex.2.1⟩
  | _=>exact False.elim ty
def tBM (K:PySem.W.Frag) (T:String) (r:V→List V→Hp→VK→Prop) (to:TE) (t:TA):TE:=fun σ H Q=>to σ H fun x H1=>tyV K T x H1∧t σ H1 fun xs H2=>r x xs H2 Q
variable {o e:Expr} {es:List Expr} {to:TE} {t:TA} {name:Str} {apos cpos:Pos} {T id:String} {r:V→List V→Hp→VK→Prop}
theorem pe_bm (pa:PlainAttrs T) (slot:Slot T name id) (hty:typeOf (.builtin id)=pure (.type "method_descriptor")) (hm:MtR X id r) (ho:PE X o to) (ha:PA X (e :: es) t)
    (hbase:attributeBase o name X.env (eval o X.env)=eval o X.env:=by rfl)
    (hfew:((backTo cpos (starEach (e :: es) X.env)).all (fun x=>!x.1) && (backToKw cpos (keywordEach [] X.env)).all (fun x=>x.1.isSome)
      && decide ((e :: es).length + ([]:List Keyword).length + (if ([]:List Keyword).isEmpty then 0 else 1) < 30))=true:=by rfl)
    (hline:(apos.endLine == cpos.line)=true:=by rfl) (hs:starEach (e :: es) X.env=(false,eval e X.env) :: starEach es X.env:=by rfl) (hplain:(backTo cpos (starEach es X.env)).any (·.1)=false:=by rfl) :
    PE X (.Call (.Attribute o name apos) (e :: es) [] cpos) (tBM X.K T r to t):=by
  intro pins s σ H Q I h
  refine wpAny_Call_method_late hbase hfew hline rfl (thn (ho pins s σ H _ I h) fun v s1 ⟨x,H1,I1,r1,ty,q1⟩=>?_)
  obtain ⟨h1,h2⟩:=tyV_is I1 r1 ty
  refine ⟨T,id,pa,slot,hty,h1,h2,?_⟩
  have hA:=ha cpos pins s1 σ H1 _ I1 q1
  rw [hs] at hA ⊢
  refine Calls.callWith_builtin (by show (false || (backTo cpos (starEach es X.env)).any (·.1))=false; rw [hplain] <;> rfl) (Calls.evalArgs_plain ?_)
  exact thn hA fun us s2 ⟨vs,H2,I2,r2,q2⟩=>hm pins s2 σ H2 x vs v us Q I2 r1 r2 q2
end
end L2
namespace L2
open PySem PySem.Spec PyProof.Rows
def MtM (X:Cx) (id:String) (r:V→List V→Hp→VK→Prop):Prop :=
  ∀ (pins:List (Addr × Obj)) (s:Shared) (σ:St) (H:Hp) (x:V) (xs:List V) (v:Value) (us:List Value) (Q:VK),Inv X pins σ H s→RelV x v→Vals xs us→r x xs H Q →
    wpAny (model X.prog X.w) X.A (call (.builtin id) (v :: us)) (EP X pins σ Q) X.xe s
theorem Vals.one:∀ {x:V} {us:List Value},Vals [x] us→∃ u,us=[u]∧RelV x u
  | _,_,.cons r .nil=>⟨_,rfl,r⟩
theorem Vals.eraseIdx:∀ {xs:List V} {us:List Value} (i:Nat),Vals xs us→Vals (xs.eraseIdx i) (us.eraseIdx i)
  | _,_,_,.nil=>.nil
  | _,_,0,.cons _ t=>t
  | _,_,i + 1,.cons r t=>.cons r (Vals.eraseIdx i t)
theorem len_erase {α:Type}:∀ (l:List α) (i:Nat),(l.eraseIdx i).length ≤ l.length
  | [],_=>Nat.le_refl _
  | _ :: _,0=>Nat.le_succ _
  | _ :: r,i + 1=>Nat.succ_le_succ (len_erase r i)
section
variable {X:Cx} {pins:List (Addr × Obj)} {σ:St} {H:Hp} {s:Shared} {l b:Addr} {xs ys zs:List V}
theorem Inv.lset {its its':List Value} {n:Nat} {f:Array Value→Array Value} {t':Nat} (I:Inv X pins σ H s) (hH:H l=some (.lst xs))
    (e:s.heap.get? l=some { cls:=.type "list",data:=.seq its.toArray n }) (hf:f its.toArray=its'.toArray) (hv:Vals ys its') (hz:ys.length ≤ sizeLine) :
    Inv X pins σ (upd H l (.lst ys)) { s with heap:=s.heap.update l (Obj.mapSeq f),toks:=t' }:=by
  have q:=PySem.IsL.update e f
  rw [hf] at q
  refine I.write (x:=l) (e:=l) (by rw [hH]; exact trivial) (.inl rfl) (fun b' u hb hu=>(Heap.get?_update_other s.heap (Obj.mapSeq f) (Ne.symm hb)).trans hu) ⟨_,q⟩ ?_
  exact ⟨hz,its',_,hv,q⟩
theorem Inv.lnew {its:List Value} {t':Nat} (I:Inv X pins σ H s) (hv:Vals ys its) (hz:ys.length ≤ sizeLine) :
    Inv X pins σ (upd H s.heap.objs.size (.lst ys)) { s with heap:=s.heap.push { cls:=.type "list",data:=.seq its.toArray },toks:=t' } :=
  I.laid (fun _ _ q=>Heap.get?_push_of_some _ q) (Nat.le_refl _) ⟨hz,its,0,hv,Heap.get?_push_size _ rfl⟩
theorem Inv.fresh (I:Inv X pins σ H s):H s.heap.objs.size=none:=I.hok.fresh (Nat.le_refl _)
theorem Inv.lstM (I:Inv X pins σ H s) (hH:H l=some (.lst xs)):xs.length ≤ sizeLine∧∃ (its:List Value) (n:Nat),Vals xs its∧xs.length=its.length∧s.heap.get? l=some { cls:=.type "list",data:=.seq its.toArray n }:=by
  obtain ⟨z,its,n,r,e⟩:=I.hok l _ hH
  exact ⟨z,its,n,r,r.length,e⟩
end
section
variable {X:Cx}
def rAppend:V→List V→Hp→VK→Prop:=fun x vs H Q=>∃ l xs y,x=.ref l∧vs=[y]∧H l=some (.lst xs)∧xs.length < sizeLine∧Q .non (upd H l (.lst (xs ++ [y])))
theorem mt_append:MtM X "list.append" rAppend:=by
  intro pins s σ H x vs v us Q I rx rv h
  obtain ⟨l,xs,y,rfl,rfl,hH,hz,q⟩:=h
  cases rx
  obtain ⟨u,rfl,ru⟩:=rv.one
  obtain ⟨z,its,n,r,hl,e⟩:=I.lstM hH
  refine call_meets F.slot_list_append ⟨_,e,rfl⟩ F.entry_list_append (F.args_list_append_2 _ _) (PySem.list_append l its.toArray n u (by rw [List.size_toArray]; omega)) ⟨e,?_⟩
  refine ⟨.non,_,I.lset (its':=its ++ [u]) hH e (by simp) (r.append (.cons ru .nil)) ?_,rfl,q⟩
  rw [List.length_append,List.length_singleton]
  omega
def rPopAt:V→List V→Hp→VK→Prop:=fun x vs H Q=>∃ l xs i k y,x=.ref l∧vs=[.int i]∧H l=some (.lst xs)∧-(2 ^ 63) ≤ i∧i < 2 ^ 63∧seqIndex? i xs.length=some k∧xs[k]?=some y∧Q y (upd H l (.lst (xs.eraseIdx k)))
theorem mt_popAt:MtM X "list.pop" rPopAt:=by
  intro pins s σ H x vs v us Q I rx rv h
  obtain ⟨l,xs,i,k,y,rfl,rfl,hH,h1,h2,hk,hy,q⟩:=h
  cases rx
  obtain ⟨u,rfl,ru⟩:=rv.one
  obtain ⟨t,rfl⟩:=ru
  obtain ⟨z,its,n,r,hl,e⟩:=I.lstM hH
  obtain ⟨w,hw,rw'⟩:=r.get hy
  refine call_meets F.slot_list_pop ⟨_,e,rfl⟩ F.entry_list_pop (F.args_list_pop_2 _ _)
    (MeetsSeq.list_pop_at l its.toArray n i t k w (fitsIndex_both h1 h2) (by rw [List.size_toArray,← hl]; exact hk) (by rw [← Array.getElem?_toList]; exact hw) (by rw [List.size_toArray]; omega)) ⟨e,?_⟩
  refine ⟨y,_,I.lset (its':=its.eraseIdx k) hH e ?_ (r.eraseIdx k) ?_,rw',q⟩
  · show its.toArray.eraseIdxIfInBounds k=(its.eraseIdx k).toArray
    rw [List.eraseIdxIfInBounds_toArray]
  · have:=len_erase xs k
    omega
def rCat:R2:=fun x y H Q=>∃ l b xs zs,x=.ref l∧y=.ref b∧H l=some (.lst xs)∧H b=some (.lst zs)∧xs.length + zs.length ≤ sizeLine∧∀ p,H p=none→Q (.ref p) (upd H p (.lst (xs ++ zs)))
theorem op_cat:OpR X (binaryOp .Add) rCat:=by
  intro pins s σ H x y v u Q I rx ry h
  obtain ⟨l,b,xs,zs,rfl,rfl,hH,hB,hz,q⟩:=h
  cases rx
  cases ry
  obtain ⟨z,its,n,r,hl,e⟩:=I.lstM hH
  obtain ⟨z2,its2,n2,r2,hl2,e2⟩:=I.lstM hB
  refine PySem.P.add_list e e2 ?_ (by rw [List.size_toArray,List.size_toArray]; omega)
  have ea:its.toArray ++ its2.toArray=(its ++ its2).toArray:=by simp
  rw [ea]
  exact ⟨.ref _,_,I.lnew (t':=s.toks) (r.append r2) (by rw [List.length_append]; omega),rfl,q _ I.fresh⟩
end
section
variable {prog:Program} {w:World} {A:Around} {E:Value→Shared→Prop} {s:Shared}
end
section
variable {X:Cx}
end
end L2
namespace Att
open PySem PySem.W PySem.Calls PyProof.Rows
theorem ints_of_wellAll {P:Params} {h:Heap}:∀ (ns:List Int) (vs:List Value),WellAll P h vs (ns.map WData.int)→IntsAre vs ns:=by
  intro ns
  induction ns with
  | nil =>
    intro vs w
    rw [List.map_nil] at w
    cases w
    exact .nil
  | cons n ns ih =>
    intro vs w
    rw [List.map_cons] at w
    cases w with
    | cons a b =>
      cases a
      exact .cons _ _ (ih _ b)
theorem script_of {l:OpenLaw} {n:Nat} (hn:l.most=some n) {P:Params} {h:Heap} {args:List WData} {vals:List Value}
    (hpre:l.row.toRowW.claim.pre args=true) (hwl:WellAll P h vals args) :
    ∃ a vs ns,vals=[Value.ref a]∧args=[WData.list (ns.map WData.int)]∧h.get? a=some { cls:=.type "list",data:=.seq vs.toArray }∧IntsAre vs ns∧ns.length ≤ n:=by
  have hsh:WShape.hasAll [] args [.list .int]=true:=(pre_splitW hpre).1
  have hc:l.pre.holds [] { args:=args }=true:=(pre_splitW hpre).2
  obtain ⟨d,r,rfl,h1,h2⟩:=hasAllW_cons hsh
  obtain rfl:=hasAllW_nil h2
  obtain ⟨xs,rfl,h3⟩:=hasW_list h1
  obtain ⟨ns,rfl⟩:=items_int h3
  have hlen:ns.length ≤ n:=by
    unfold OpenLaw.pre at hc
    have h4:(WTm.not (.lt (.lit (.int (n:Int))) (.len (.arg 0)))).holds [] { args:=[.list (ns.map .int)] }=true:=by
      have h4:=(holds_andW hc).1
      rw [hn] at h4
      exact h4
    have h5:=condW_of h4 (w_not (w_lt w_lit (w_len_list (w_arg rfl))))
    rw [List.length_map] at h5
    refine Nat.le_of_not_lt fun q=>?_
    have q':(n:Int) < ((ns.length:Nat):Int):=by omega
    first
      | (rw [decide_eq_true q'] at h5; exact absurd h5 (by decide))
      | (simp at h5; omega)
  cases hwl with
  | cons w1 w2 =>
    cases w2
    cases w1 with
    | list ho hall=>exact ⟨_,_,ns,rfl,rfl,ho,ints_of_wellAll ns _ hall,hlen⟩
theorem post_true (l:OpenLaw) (args:List WData):l.row.toRowW.claim.post args (.bool true) args=true :=
  postW_of (r:=l.row.toRowW) (X:=(true == true))
    (show WShape.has [] (.bool true) .bool=true by first | rfl | decide | simp [WShape.has,WShape.arms,WShape.armsAll])
    (show (WTm.eq .res (.lit (.bool true))).value [] { args:=args,res:=some (.bool true),after:=args }=some (.bool (true == true)) from w_eq_bool (w_res rfl) w_lit) rfl
theorem attach_call {l:OpenLaw} {n:Nat} {q:Program} {loose:List Str} {XP:(Str→Option Value)→Heap→Prop} {YP:World→Heap→Prop} {d:DefRec}
    (hn:l.most=some n) (hdf:d.params.defaults=[])
    (call:∀ (w:World) (s₀ s₁:Shared) (mg mb:Str→Option Value) (fa:Addr) (o:Obj) (pm cd doc:Value) (a:Addr) (vs:List Value) (ns:List Int),
      Ground q loose [] XP w s₀ mg mb s₁.heap→YP w s₁.heap →
      s₁.heap.get? fa=some o→o.data=.func (docDef d.name d.params d.body d.scope pm cd doc)→s₁.heap.CodeRec cd d.name→mg d.name=some (.ref fa) →
      s₁.heap.get? a=some { cls:=.type "list",data:=.seq vs.toArray }→IntsAre vs ns→ns.length ≤ n→s₁.gens=#[] →
      codeAny (model l.prog w) callerA (.call (.ref fa) ⟨[.ref a],[]⟩) (fun r s'=>r=.ok (.ret (.bool true))∧OldK s₁.heap s'.heap∧s'.os=s₁.os∧AllBare s'.gens) s₁) :
    WalkO q loose XP YP l.row.toRowW d [] (fun f vs=>PySem.call f vs):=by
  intro w s₀ s₁ mg mb G Y fa o pm cd doc dV kV ho hd hcd hD hmg hg args vals as hpre hlay hrd hwl hlo
  obtain rfl:dV=.none:=Dflts.none hD hdf
  obtain rfl:kV=.none:=Dflts.noKw hD
  obtain ⟨a,vs,ns,rfl,rfl,hobj,hints,hlen⟩:=script_of hn hpre hwl
  refine enter_call (codeAny_mono (call w s₀ s₁ mg mb fa o pm cd doc a vs ns G Y ho (fd_plain hd) hcd hmg hobj hints hlen hg) fun r s' hq=>?_)
  obtain ⟨rfl,h2,h3,h4⟩:=hq
  exact ⟨.inl ⟨.bool true,.bool true,[],rfl,fun _=>rfl,.bool true,post_true l _,fun _=>⟨List.Pairwise.nil,fun _ hm=>(nomatch hm)⟩⟩,h2,h3,h4⟩
section
variable {prog:Program} {w:World} {A:Around} {E:Value→Shared→Prop} {s:Shared} {K:Frag}
end
end Att
namespace L2
open PySem PySem.Spec PyProof.Rows
theorem vals_ints:∀ {vs:List Value} {ns:List Int},IntsAre vs ns→Vals (ns.map V.int) vs
  | _,_,.nil=>.nil
  | _,_,.cons n t h=>.cons ⟨t,rfl⟩ (vals_ints h)
def Only (H:Hp):Prop:=∀ b,H b=none ∨ ∃ o xs,H b=some (.frz o (.lst xs))
theorem law_call {P:Program} {w:World} {K:PySem.W.Frag} {mg mb:Str→Option Value} {CX:CXT} {k:Nat} {fa a:Addr} {fd:FuncData} {x:Str} {sp:Sp} {s₁:Shared} {vs:List Value} {ns:List Int}
    (KX:K.In s₁.heap) (hns:s₁.heap.Ns mainGlobals mg) (hb:s₁.heap.Ns builtinsNs mb) (hbb:∀ x:Str,x ≠ "__name__"→mb x=bootBuiltins x) (hlim:s₁.heap.NoLimit) (hg:s₁.gens=#[])
    (ha:s₁.heap.get? a=some { cls:=.type "list",data:=.seq vs.toArray }) (hi:IntsAre vs ns) (hl:ns.length ≤ sizeLine) (hr:Room k callerA)
    (F:∀ base:Heap,K.In base→base.Ns mainGlobals mg→FnOk P w K mg base CX k fa fd [x] sp) (hbind:∀ (s:Shared) (u:Value),BindsTo s fd ⟨[u],[]⟩ [(x,u)])
    (hsp:∀ H:Hp,Only H→SqL K H a (ns.map V.int)→sp [.ref a] H (fun v _=>v=.bl true) fun _ _ _=>False)
    (hCX:∀ H e s',CX [] H s₁ (fun _ _ _=>False) e s'→False) :
    codeAny (model P w) callerA (.call (.ref fa) ⟨[.ref a],[]⟩) (fun r s'=>r=.ok (.ret (.bool true))∧OldK s₁.heap s'.heap∧s'.os=s₁.os∧AllBare s'.gens) s₁:=by
  have rv:=vals_ints hi
  have lenV:=hi.length
  -- from an abstract heap in which nothing but the script may be tracked
  have core:∀ H:Hp,Only H→SqL K H a (ns.map V.int)→HOk P w H s₁.heap→(∀ b,H b ≠ none→b=a)→(H a ≠ none→K.lookup a=none) →
      codeAny (model P w) callerA (.call (.ref fa) ⟨[.ref a],[]⟩) (fun r s'=>r=.ok (.ret (.bool true))∧OldK s₁.heap s'.heap∧s'.os=s₁.os∧AllBare s'.gens) s₁:=by
    intro H hO hS hok hA hK
    have base_of:∀ {b:Addr} {o:Obj},s₁.heap.get? b=some o→H b=none→(hidT s₁.heap H).get? b=some o:=fun e n=>hidT_get e n
    have noA:∀ {b:Addr} {o:Obj} {es:Array DictEntry} {ep:Nat},s₁.heap.get? b=some o→o.data=.dict es ep→H b=none:=fun {b o es ep} e d=>by
      cases q:H b with
      | none=>rfl
      | some u =>
        have e':b=a:=hA b (by rw [q]; simp)
        subst e'
        rw [ha] at e; cases e
        have d':Data.seq vs.toArray _=Data.dict es ep:=d
        cases d'
    have nsK:∀ {b:Addr} {m:Str→Option Value},s₁.heap.Ns b m→(hidT s₁.heap H).Ns b m:=fun {b m} ⟨o,es,ep,e,d,r⟩=>⟨o,es,ep,base_of e (noA e d),d,r⟩
    have hKb:K.In (hidT s₁.heap H):=fun b o e=>base_of (KX b o e) (by
      cases q:H b with
      | none=>rfl
      | some u =>
        have e':b=a:=hA b (by rw [q]; simp)
        subst e'
        rw [hK (by rw [q]; simp)] at e; cases e)
    have hM:Mod K mg (hidT s₁.heap H):=⟨hKb,nsK hns,⟨mb,nsK hb,hbb⟩,let ⟨mc,h1,h2⟩:=hlim; ⟨mc,nsK h1,h2⟩⟩
    have e0:Env0 P w K mg (hidT s₁.heap H) callerA [] s₁ H:=⟨rfl,hM,fun b o e=>of_hidT e,Nat.le_of_eq (hidT_size _ _),trivial,fun b hb=>absurd (show b ∈ ([]:List Addr) from hb) (by simp),hok,.of_eq hg⟩
    refine codeAny_mono ((F _ hKb (nsK hns)).run callerA [] s₁ H ⟨[.ref a],[]⟩ [.ref a] [.ref a] _ _ hr e0 (hbind s₁ (.ref a)) (.cons rfl .nil) (hsp H hO hS)) fun r s' h=>?_
    cases r with
    | error e=>exact (hCX H e s' h).elim
    | ok fl =>
      cases fl with
      | next=>exact False.elim h
      | brk=>exact False.elim h
      | cont=>exact False.elim h
      | ret u =>
        obtain ⟨v,H',os,bare,un,hok',r',q⟩:=h
        have q':v=.bl true:=q
        subst q'
        obtain rfl:u=Value.bool true:=r'
        refine ⟨rfl,OldK.of_keep fun b o e=>?_,os,bare⟩
        cases q:H b with
        | none=>exact un.keep b o e q (by intro z; exact absurd (show b ∈ ([]:List Addr) from z) (by simp)) (by simp)
        | some u =>
          rcases hO b with z | ⟨ob,xs,z⟩
          · rw [q] at z; cases z
          · have z2:=un.frzs b ob _ z
            obtain ⟨e1,_⟩:=hok b _ z
            obtain ⟨e2,_⟩:=hok' b _ z2
            rw [e] at e1; cases e1
            exact e2
  cases hk:K.lookup a with
  | some o =>
    -- the script is one of the module's own objects
    have e:=KX a o hk
    rw [ha] at e
    cases e
    refine core (fun _=>none) (fun _=>.inl rfl) (.inr ⟨_,vs.toArray,_,hk,rfl,rfl,rfl,by rw [List.size_toArray,lenV]; exact hl,by simpa using rv⟩) (fun b u z=>by have z':(none:Option HO)=some u:=z; cases z') (fun b z=>absurd rfl z) fun z=>absurd rfl z
  | none =>
    refine core (fun b=>if b=a then some (.frz { cls:=.type "list",data:=.seq vs.toArray } (.lst (ns.map V.int))) else none) (fun b=>?_) (.inl (.inr ⟨{ cls:=.type "list",data:=.seq vs.toArray },if_pos rfl⟩)) (fun b u z=>?_) (fun b z=>?_) fun _=>hk
    · by_cases hb:b=a
      · exact .inr ⟨_,_,if_pos hb⟩
      · exact .inl (if_neg hb)
    · by_cases hb:b=a
      · have z':=(if_pos hb).symm.trans z
        cases z'
        subst hb
        exact ⟨ha,by rw [List.length_map]; exact hl,vs,_,rv,ha⟩
      · have z':=(if_neg hb).symm.trans z
        cases z'
    · by_cases hb:b=a
      · exact hb
      · exact absurd (if_neg hb) z
end L2
namespace L2
open PySem PySem.Spec PyProof.Rows
theorem walk_of {l:PySem.W.OpenLaw} {n k:Nat} {q:Program} {loose:List Str} {XP:(Str→Option Value)→Heap→Prop} {YP:World→Heap→Prop} {d:DefRec} {K:Params→PySem.W.Frag} {CX:World→CXT} {sp:World→Sp} {x:Str}
    (hn:l.most=some n) (hn2:n ≤ sizeLine) (hdf:d.params.defaults=[]) (hr:Room k callerA)
    (hY:∀ (w:World) (h:Heap),YP w h→(K w.params).In h)
    (F:∀ (w:World) (mg:Str→Option Value) (fa:Addr) (h:Heap),(K w.params).In h→h.Ns mainGlobals mg→mg d.name=some (.ref fa) →
      ∃ fd:FuncData,(∀ (s:Shared) (u:Value),BindsTo s fd ⟨[u],[]⟩ [(x,u)]) ∧
        ∀ base:Heap,(K w.params).In base→base.Ns mainGlobals mg→FnOk l.prog w (K w.params) mg base (CX w) k fa fd [x] (sp w))
    (hsp:∀ (w:World) (H:Hp) (a:Addr) (ns:List Int),ns.length ≤ n→Only H→SqL (K w.params) H a (ns.map V.int)→sp w [.ref a] H (fun v _=>v=.bl true) fun _ _ _=>False)
    (hCX:∀ (w:World) (H:Hp) (s:Shared) (e:Value) (s':Shared),CX w [] H s (fun _ _ _=>False) e s'→False) :
    PySem.W.WalkO q loose XP YP l.row.toRowW d [] (fun f vs=>PySem.call f vs):=by
  refine Att.attach_call hn hdf fun w s₀ s₁ mg mb fa o pm cd doc a vs ns G Y ho hd hcd hmg hobj hints hlen hg=>?_
  have KX:=hY w _ Y
  obtain ⟨fd,hb,hF⟩:=F w mg fa _ KX G.T.g hmg
  exact law_call KX G.T.g G.T.b G.T.builtins G.T.nolimit hg hobj hints (Nat.le_trans hlen hn2) hr hF hb (fun H hO hS=>hsp w H a ns hlen hO hS) fun H e s'=>hCX w H s₁ e s'
end L2
namespace L2
open PySem PySem.Spec PyProof.Rows
def inClass (s:Stmt) (j:Nat):Stmt:=match s with
  | .ClassDef _ _ _ body _ _ _ _ _ _ _=>body.getD j (.Pass ⟨0,0,0,0⟩)
  | _=>.Pass ⟨0,0,0,0⟩
def defArgs (s:Stmt):Arguments:=match s with
  | .FunctionDef _ a _ _ _ _ _ _ _ _=>a
  | _=>{ posonlyargs:=[],args:=[],vararg:=none,kwonlyargs:=[],kw_defaults:=[],kwarg:=none,defaults:=[] }
def defBody (s:Stmt):List Stmt:=match s with
  | .FunctionDef _ _ b _ _ _ _ _ _ _=>b
  | _=>[]
def defScope (s:Stmt):Scope:=match s with
  | .FunctionDef _ _ _ _ _ _ sc _ _ _=>sc
  | _=>{ kind:=.function,names:=[],isGenerator:=false,isCoroutine:=false }
abbrev CX0:CXT:=fun _ _ _ _ _ _=>False
abbrev E0:XK:=fun _ _ _=>False
theorem pass0 {X:Cx}:Passes CX0 X E0:=fun _ _ _ _ _ _ _ h=>h.elim
structure Fun (K:PySem.W.Frag) (x qual:Str) (st:Stmt) (f:Addr) (fd:FuncData):Prop where
  ex:∃ (oc:Value) (od:Option Addr) (kV doc pm:Value) (an:Option Addr) (cdv ct:Value) (osl:Array (Option Value)),
    fd=PySem.W.fnOf x qual (defArgs st) (defBody st) (defScope st) .none kV doc pm an cdv ct∧K.lookup f=some ⟨oc,od,.func fd,osl⟩∧PySem.W.codeIn K cdv qual=true
  kp:PySem.W.keepIn K (.ref f)=true
section
variable {P:Program} {w:World} {K:PySem.W.Frag} {mg:Str→Option Value} {base:Heap}
theorem Fun.ok {x qual:Str} {st:Stmt} {f:Addr} {fd:FuncData} {N ps:List Str} {k:Nat} {sp:Sp} (F:Fun K x qual st f fd) (S:FnScope N ps (defScope st)) (len:∀ vs H Q E,sp vs H Q E→vs.length=ps.length)
    (hbody:∀ (cdv:Value) (A:Around) (outer:List Env) (s:Shared) (H:Hp) (vs:List V) (Q:VK) (E:XK),Room k (A.deeper (envOfC qual (defScope st) s.heap.objs.size f cdv))→sp vs H Q E →
      ∃ t,PSs (cxOf CX0 P w K mg base N qual (defScope st) f cdv A outer s H E).nox (defBody st) t∧t { nx:=fun _ H'=>Q .non H',rt:=Q } (start N vs) H):FnOk P w K mg base CX0 (k + 1) f fd ps sp:=by
  obtain ⟨oc,od,kV,doc,pm,an,cdv,ct,osl,rfl,lk,hcd⟩:=F.ex
  refine fn_of lk hcd S len fun A outer s H vs Q E hr hsp=>?_
  obtain ⟨t,h,q⟩:=hbody cdv A outer s H vs Q E hr hsp
  exact ⟨t,h.nox,q⟩
theorem Fun.binds {x qual:Str} {st:Stmt} {f:Addr} {fd:FuncData} {ps:List Str} (F:Fun K x qual st f fd)
    (h:∀ (kV doc pm:Value) (an:Option Addr) (cdv ct:Value) (us:List Value),us.length=ps.length→bindArgs (PySem.W.fnOf x qual (defArgs st) (defBody st) (defScope st) .none kV doc pm an cdv ct) ⟨us,[]⟩=pure (ps.zip us)):Binds K fd ps []:=by
  obtain ⟨oc,od,kV,doc,pm,an,cdv,ct,osl,rfl,lk,hcd⟩:=F.ex
  exact .all (h kV doc pm an cdv ct)
theorem fun_mk {x qual:Str} {st:Stmt} {f:Addr} {oc:Value} {od an:Option Addr} {osl:Array (Option Value)} {kV doc pm cdv ct:Value} (l:K.lookup f=some ⟨oc,od,.func (PySem.W.fnOf x qual (defArgs st) (defBody st) (defScope st) .none kV doc pm an cdv ct),osl⟩)
    (c:PySem.W.codeIn K cdv qual=true) (k:PySem.W.keepIn K (.ref f)=true):Fun K x qual st f (PySem.W.fnOf x qual (defArgs st) (defBody st) (defScope st) .none kV doc pm an cdv ct):=⟨⟨oc,od,kV,doc,pm,an,cdv,ct,osl,rfl,l,c⟩,k⟩
end
section
variable {X:Cx}
theorem pv (i:Nat) {x:Str} {pos:Pos} (hN:X.N[i]?=some x:=by rfl) (hv:Vis X.env.scope x:=by first | exact Or.inl rfl | exact Or.inr (Or.inl rfl) | exact Or.inr (Or.inr rfl)) (hd:(x == ("__debug__":Str))=false:=by decide)
    (hcd:(x == ("__classdict__":Str))=false:=by decide):PE X (.Name x pos) (tVar i):=pe_var hN hv hd hcd
end
theorem iteF {A B:Prop} (h:B):if false=true then A else B:=by
  rw [if_neg Bool.false_ne_true]
  exact h
theorem iteT {A B:Prop} (h:A):if true=true then A else B:=by
  rw [if_pos rfl]
  exact h
theorem ite2 {c A B:Prop} [Decidable c] (h1:c→A) (h2:¬ c→B):if c then A else B:=by
  by_cases h:c
  · rw [if_pos h]
    exact h1 h
  · rw [if_neg h]
    exact h2 h
def Same (H H':Hp):Prop:=∀ b o,H b=some o→H' b=some o
theorem Same.refl (H:Hp):Same H H:=fun _ _ h=>h
theorem Same.trans {H H1 H2:Hp} (a:Same H H1) (b:Same H1 H2):Same H H2:=fun c o h=>b c o (a c o h)
theorem Same.free {H H':Hp} (e:Same H H') {l:Addr} (h:H' l=Option.none):H l=Option.none:=by
  cases q:H l with
  | none=>rfl
  | some o =>
    rw [e l o q] at h
    cases h
theorem Same.seq {K:PySem.W.Frag} {H H':Hp} {a:Addr} {xs:List V} (e:Same H H') (h:SqL K H a xs):SqL K H' a xs:=by
  rcases h with (h | ⟨o,h⟩) | h
  · exact .inl (.inl (e _ _ h))
  · exact .inl (.inr ⟨o,e _ _ h⟩)
  · exact .inr h
end L2
namespace L2
open PySem PySem.Spec PyProof.Rows
theorem rel_look {env:Env} {y:Str} {k:NameKind}:∀ {names:List (Str × NameKind)},
    (names.map fun (n,k)=>if (k == NameKind.free && env.scope.kind == .function && env.kindOf n == some .cell) then (n,NameKind.cell) else (n,k)).lookup y=some k →
      ∃ k0,names.lookup y=some k0∧(k=k0 ∨ (k0=.free∧k=.cell))
  | [],h=>by simp at h
  | (n,q) :: r,h=>by
    have ih:=@rel_look env y k r
    rw [List.map_cons] at h
    dsimp only at h
    cases hx:y == n with
    | true =>
      refine ⟨q,by simp [List.lookup_cons,hx],?_⟩
      by_cases hc:(q == NameKind.free && env.scope.kind == .function && env.kindOf n == some .cell)=true
      · rw [if_pos hc] at h
        simp only [List.lookup_cons,hx] at h
        cases h
        have hq:(q == NameKind.free)=true:=by
          cases e:q == NameKind.free with
          | true=>rfl
          | false=>rw [e] at hc; simp at hc
        exact .inr ⟨by simpa using hq,rfl⟩
      · rw [if_neg hc] at h
        simp only [List.lookup_cons,hx] at h
        cases h
        exact .inl rfl
    | false =>
      have h2:(r.map fun (n,k)=>if (k == NameKind.free && env.scope.kind == .function && env.kindOf n == some .cell) then (n,NameKind.cell) else (n,k)).lookup y=some k:=by
        by_cases hc:(q == NameKind.free && env.scope.kind == .function && env.kindOf n == some .cell)=true
        · rw [if_pos hc] at h
          simpa only [List.lookup_cons,hx] using h
        · rw [if_neg hc] at h
          simpa only [List.lookup_cons,hx] using h
      obtain ⟨k0,e,r'⟩:=ih h2
      exact ⟨k0,by simpa only [List.lookup_cons,hx] using e,r'⟩
theorem clos_go {env:Env}:∀ (names:List (Str × NameKind)) (acc:List (Str × Addr)),(∀ y ∈ names,y.2=.free→∃ c,env.cells.lookup y.1=some c)→(∀ y c,acc.lookup y=some c→env.cells.lookup y=some c) →
    ∃ cl,(forIn names acc fun (x:Str × NameKind) (r:List (Str × Addr))=>(if (x.2 == NameKind.free)=true then (do let c ← cellOf env x.1; pure (ForInStep.yield ((x.1,c) :: r))) else pure (ForInStep.yield r):Sem (ForInStep (List (Str × Addr)))))=(pure cl:Sem (List (Str × Addr))) ∧
      (∀ y c,cl.lookup y=some c→env.cells.lookup y=some c)∧(∀ y ∈ names,y.2=.free→∃ c,cl.lookup y.1=some c)∧∀ y c,acc.lookup y=some c→∃ c',cl.lookup y=some c'
  | [],acc,_,ha=>⟨acc,rfl,ha,(fun y hy=>absurd hy (by simp)),fun y c h=>⟨c,h⟩⟩
  | (n,k) :: r,acc,hn,ha=>by
    by_cases hk:k=NameKind.free
    · obtain ⟨c,hc⟩:=hn (n,k) List.mem_cons_self hk
      have hacc:∀ y d,((n,c) :: acc).lookup y=some d→env.cells.lookup y=some d:=fun y d e=>by
        cases hx:y == n with
        | true =>
          simp only [List.lookup_cons,hx] at e
          cases e
          have:y=n:=by simpa using hx
          rw [this]
          exact hc
        | false =>
          simp only [List.lookup_cons,hx] at e
          exact ha y d e
      obtain ⟨cl,e,h1,h2,h3⟩:=clos_go r ((n,c) :: acc) (fun y hy=>hn y (List.mem_cons_of_mem _ hy)) hacc
      have hn3:∃ c',cl.lookup n=some c':=h3 n c (by simp)
      refine ⟨cl,?_,h1,fun y hy hf=>?_,fun y d hd=>?_⟩
      · rw [List.forIn_cons]
        dsimp only
        rw [if_pos (by simp [hk])]
        have ec:cellOf env n=pure c:=by
          unfold cellOf
          rw [hc]
        rw [ec]
        simp only [pure_bind]
        exact e
      · rcases List.mem_cons.mp hy with z | z
        · subst z
          exact hn3
        · exact h2 y z hf
      · cases hx:y == n with
        | true =>
          have:y=n:=by simpa using hx
          rw [this]
          exact hn3
        | false=>exact h3 y d (by simpa only [List.lookup_cons,hx] using hd)
    · obtain ⟨cl,e,h1,h2,h3⟩:=clos_go r acc (fun y hy=>hn y (List.mem_cons_of_mem _ hy)) ha
      refine ⟨cl,?_,h1,fun y hy hf=>?_,h3⟩
      · rw [List.forIn_cons]
        dsimp only
        rw [if_neg (by simpa using hk),pure_bind]
        exact e
      · rcases List.mem_cons.mp hy with z | z
        · subst z
          exact absurd hf hk
        · exact h2 y z hf
theorem clos_ok {env:Env} {scope:Scope} (hn:∀ y ∈ scope.names,y.2=.free→∃ c,env.cells.lookup y.1=some c) :
    ∃ cl,closureFor scope env=pure cl∧(∀ y c,cl.lookup y=some c→env.cells.lookup y=some c)∧∀ y ∈ scope.names,y.2=.free→∃ c,cl.lookup y.1=some c:=by
  obtain ⟨cl,e,h1,h2,_⟩:=clos_go (env:=env) scope.names [] hn (fun y c h=>by simp at h)
  refine ⟨cl,?_,h1,h2⟩
  unfold closureFor
  dsimp only
  have e2:∀ (f g:Str × NameKind→List (Str × Addr)→Sem (ForInStep (List (Str × Addr)))),(∀ x r,f x r=g x r)→(forIn scope.names [] f:Sem (List (Str × Addr)))=forIn scope.names [] g:=fun f g h=>by
    have:f=g:=by funext x r; exact h x r
    rw [this]
  rw [e2 _ _ (fun x r=>?_),e]
  · rfl
  · obtain ⟨n,k⟩:=x
    dsimp only
theorem comp_loop_go {prog:Program} {w:World} {A:Around} {R:Result→Shared→Prop} {s:Shared} {elt target iter:Expr} {ifs:List Expr} {scope:Scope} {pos:Pos} {it acc:Value} {env:Env} (J:Nat→Shared→Prop)
    (turn:∀ n s,J n s→wpAny (model prog w) A (pyNext it) (fun r s1=>match r with
      | none=>R (.ok .next) s1
      | some v=>wpAny (model prog w) A (letOwnedTupleGo target it v) (fun _ s1'=>wpAny (model prog w) A (assign target env v) (fun _ s2 =>
          wpAny (model prog w) A (forIn ifs true fun c r=>if r=true then do let ok ← isTrue c env (eval c env); pure (ForInStep.yield ok) else pure (ForInStep.yield r)) (fun ok s3 =>
            if ok=true then wpAny (model prog w) A (eval elt env) (fun x s4 =>
              wpAny (model prog w) A (call (.builtin "list.append") [acc,x]) (fun _ s5=>∃ m,m < n∧J m s5) (fun _ _=>False) s4) (fun _ _=>False) s3
            else ∃ m,m < n∧J m s3) (fun _ _=>False) s2) (fun _ _=>False) s1') (fun _ _=>False) s1) (fun _ _=>False) s)
    (n:Nat) (h:J n s):codeAny (model prog w) A (.compLoop (.ListComp elt [⟨target,iter,ifs,0⟩] scope pos) 0 it acc env) R s:=by
  have no:∀ {E:Value→Shared→Prop} (e:Value) (s:Shared),(fun (_:Value) (_:Shared)=>False) e s→E e s:=fun _ _ f=>f.elim
  refine codeAny_loop rfl J (fun n s hJ=>?_) n h
  show wpAny _ A ((compTurn (.ListComp elt [⟨target,iter,ifs,0⟩] scope pos) 0 it acc env).onRaise _) _ _ s
  refine wpAny_noted ?_
  rw [compTurn_list]
  refine wpAny_bind (wpAny_standAt (wpAny_bind (wpAny_mono (turn n s hJ) (fun r s1 h1=>?_) no)))
  cases r with
  | none=>exact wpAny_pure h1
  | some v =>
    refine wpAny_bind (wpAny_mono h1 (fun _ s1' h1'=>wpAny_bind (wpAny_mono h1' (fun _ s2 h2=>wpAny_bind (wpAny_mono h2 (fun ok s3 h3=>?_) no)) no)) no)
    cases ok with
    | false=>exact wpAny_pure ⟨rfl,h3⟩
    | true=>exact wpAny_bind (wpAny_bind (wpAny_mono h3 (fun x s4 h4=>wpAny_bind (wpAny_mono h4 (fun _ s5 h5=>wpAny_pure (wpAny_pure ⟨rfl,h5⟩)) no)) no))
abbrev Cx.comp (X:Cx) (x:Str) (scope:Scope) (cl:List (Str × Addr)) (C:Addr) (fp:List Addr) (s:Shared) (H:Hp):Cx :=
  { X with N:=x :: X.N,s₀:=s,H₀:=H,env:=compEnvC scope cl C X.env,outer:=X.stack,ex:=fp,fn:=fun _=>false,pn:=[],xe:=fun _ _=>False }
def capOk (scope:Scope) (env:Env) (y:Str):Bool:=match scope.names.lookup y with
  | none=>true
  | some .free=>env.kindOf y == some .cell || env.kindOf y == some .free
  | some _=>false
structure CompSc (X:Cx) (x:Str) (scope:Scope):Prop where
  kind:scope.kind=.function
  cell:∀ y ∈ scope.names,y.2 ≠ .cell
  names:∀ y ∈ scope.names,y.2=.local→scope.names.lookup y.1=some .local
  hx:scope.names.lookup x=some .local
  free:∀ y ∈ scope.names,y.2=.free→X.env.kindOf y.1=some .cell ∨ X.env.kindOf y.1=some .free
  cap:∀ y ∈ X.N,capOk scope X.env y=true
  nd:(x :: X.N).Nodup
theorem free_mem {scope:Scope} {y:Str} (h:scope.names.lookup y=some .free):(y,NameKind.free) ∈ scope.names:=PySem.mem_of_lookup h
theorem comp_inv {X:Cx} {x:Str} {scope:Scope} {cl:List (Str × Addr)} {fp:List Addr} {pins:List (Addr × Obj)} {σ:St} {H:Hp} {s:Shared} {h':Heap} {tk:Nat} {m:Str→Option Value} (S:CompSc X x scope) (I:Inv X pins σ H s)
    (hns:h'.Ns s.heap.objs.size m) (hk:∀ b o,s.heap.get? b=some o→h'.get? b=some o) (hf:∀ b ∈ fp,FpOk X pins H b) (ho:∀ b ∈ fp,∃ o,s.heap.get? b=some o)
    (hsub:∀ y c,cl.lookup y=some c→X.env.cells.lookup y=some c) (hall:∀ y ∈ scope.names,y.2=.free→∃ c,cl.lookup y.1=some c) :
    Inv (X.comp x scope cl s.heap.objs.size fp s H) (X.pn ++ pins) (none :: σ) H { s with heap:=h',toks:=tk }:=by
  refine ⟨⟨I.ok.mod,S.kind,I.ok.glob,I.ok.blt,Nat.le_refl _,fun y z c h1 h2=>I.ok.inj y z c (hsub y c h1) (hsub z c h2),fun y hy=>?_,fun y c hfn=>absurd hfn Bool.false_ne_true,I.ok.hd,I.ok.frames,.inl rfl,fun b hb=>⟨?_,fun y c e=>(hf b hb).2.2.2.2.1 y c (hsub y c e)⟩,
    I.bs,Nat.le_trans I.ok.bsz I.sz,fun b o e hb=>?_,fun b hb hs=>?_,I.stack,I.stkFree⟩,rfl,I.bare,Un.kept hk,⟨m,hns,fun i y v e1 e2 e3=>?_⟩,fun y c e=>?_,I.fresh,fun y c e=>I.freeC y c (hsub y c e),fun p hp=>?_,I.hok.kept hk,?_⟩
  · have hy':∃ k,(k=NameKind.cell ∨ k=NameKind.free)∧(relabel scope X.env).names.lookup y=some k:=by
      rcases hy with z | z
      · exact ⟨_,.inl rfl,z⟩
      · exact ⟨_,.inr rfl,z⟩
    obtain ⟨k,hk',e⟩:=hy'
    obtain ⟨k0,e0,r⟩:=rel_look e
    have kf:k0=.free:=by
      rcases r with r | r
      · subst r
        rcases hk' with z | z
        · subst z
          exact absurd rfl (S.cell _ (PySem.mem_of_lookup e0))
        · exact z
      · exact r.1
    subst kf
    exact hall (y,.free) (free_mem e0) rfl
  · obtain ⟨o,e⟩:=ho b hb
    exact Nat.ne_of_lt (Heap.lt_size e)
  · rcases (hf b hb).2.2.2.1 with z | z
    · exact I.ok.noex b o e z
    · exact absurd (Nat.lt_of_lt_of_le (Heap.lt_size e) (Nat.le_trans I.ok.bsz z)) (Nat.lt_irrefl _)
  · rcases List.mem_cons.mp (I.stkSub b hs) with z | z
    · exact (hf b hb).2.1 z
    · exact (hf b hb).2.2.1 z
  · cases i with
    | zero=>simp at e2
    | succ i =>
      have e1':X.N[i]?=some y:=by simpa using e1
      have e2':σ[i]?=some (some v):=by simpa using e2
      have hc:=S.cap y (List.mem_of_getElem? e1')
      have hvis:∃ k,(relabel scope X.env).names.lookup y=some k:=by
        rcases e3 with z | z | z
        · exact ⟨_,z⟩
        · exact ⟨_,z⟩
        · exact ⟨_,z⟩
      obtain ⟨k,ek⟩:=hvis
      obtain ⟨k0,e0,r⟩:=rel_look ek
      unfold capOk at hc
      rw [e0] at hc
      have kf:k0=.free:=by cases k0 <;> simp_all
      subst kf
      have hkk:X.env.kindOf y=some .cell ∨ X.env.kindOf y=some .free:=by simpa using hc
      obtain ⟨m0,hn0,hl0⟩:=I.loc
      obtain ⟨u,ru,l⟩:=hl0 i y v e1' e2' (.inr hkk)
      refine ⟨u,ru,.inr ?_⟩
      obtain ⟨c',hc'⟩:=hall (y,.free) (free_mem e0) rfl
      rcases l with ⟨z,_⟩ | ⟨_,c,ec,⟨o,ho',hd'⟩⟩
      · rcases hkk with q | q <;> rw [z] at q <;> cases q
      · have e4:=hsub y c' hc'
        rw [ec] at e4
        have e5:c=c':=Option.some.inj e4
        subst e5
        refine ⟨?_,c,hc',o,hk _ _ ho',hd'⟩
        rcases r with r | r
        · subst r
          exact .inr ek
        · obtain ⟨_,r⟩:=r
          subst r
          exact .inl ek
  · obtain ⟨v,o,ho',hd'⟩:=I.cell y c (hsub y c e)
    exact ⟨v,o,hk _ _ ho',hd'⟩
  · have hp':p ∈ X.pn ++ pins:=by simpa using hp
    obtain ⟨e,n,ne,nf,d⟩:=I.pin p hp'
    refine ⟨hk _ _ e,n,Nat.ne_of_lt (Heap.lt_size e),fun z=>?_,d⟩
    rcases List.mem_cons.mp (I.stkSub p.1 z) with q | q
    · exact ne q
    · exact nf q
  · show σ.length + 1=X.N.length + 1
    rw [I.len]
def PTs (X:Cx) (ifs:List Expr) (t:TT):Prop :=
  ∀ (pins:List (Addr × Obj)) (s:Shared) (σ:St) (H:Hp) (Q:Bool→Hp→Prop),Inv X pins σ H s→t σ H Q →
    wpAny (model X.prog X.w) X.A (forIn ifs true fun c r=>if r=true then do let ok ← isTrue c X.env (eval c X.env); pure (ForInStep.yield ok) else pure (ForInStep.yield r)) (TP X pins σ Q) X.xe s
def ttAll:TT:=fun _ H Q=>Q true H
theorem pts_nil {X:Cx}:PTs X [] ttAll:=fun pins s σ H Q I h=>by
  rw [List.forIn_nil]
  exact wpAny_pure ⟨H,I,h⟩
def CompGo (J:It) (H1:Hp) (σ:St) (tt:TT) (te:TE) (Q:VK):Prop:=∀ D,H1 D=none→∃ W:Nat→Nat→Hp→Prop,(∃ m,W 0 m (upd H1 D (.lst [])))∧∀ i m H,W i m H →
  (J.stop i H∧Q (.ref D) H) ∨ (J.go i H∧∀ x H',J.yld i H x H'→tt (some x :: σ) H' fun b H2=>if b=true then te (some x :: σ) H2 fun y H3=>∃ ys,H3 D=some (.lst ys)∧ys.length < sizeLine∧∃ m',m' < m∧W (i + 1) m' (upd H3 D (.lst (ys ++ [y])))
    else ∃ m',m' < m∧W (i + 1) m' H2)
def tComp (wi:TI) (tt:TT) (te:TE):TE:=fun σ H Q=>wi σ H fun J H1=>CompGo J H1 σ tt te Q
section
variable {X:Cx} {x:Str} {px pos:Pos} {elt iter:Expr} {ifs:List Expr} {scope:Scope} {wi:TI} {tt:TT} {te:TE}
theorem comp_core {pins:List (Addr × Obj)} {σ:St} {H2:Hp} {s2:Shared} {it:Addr} {fp:List Addr} {tn:Nat→Heap→Prop} {J:It} {Q:VK} {cl:List (Str × Addr)} {E:Value→Shared→Prop} {RR:Value→Addr→Result→Shared→Prop}
    (S:CompSc X x scope) (hcal:X.calm=true) (hclos:(∀ y c,cl.lookup y=some c→X.env.cells.lookup y=some c)∧∀ y ∈ scope.names,y.2=.free→∃ c,cl.lookup y.1=some c)
    (ht:∀ cl C fp s H,PTs (X.comp x scope cl C fp s H) ifs tt) (he:∀ cl C fp s H,PE (X.comp x scope cl C fp s H) elt te)
    (I2:Inv X pins σ H2 s2) (T:Turn X.prog X.w X.K (.Name x px) J fp it tn) (st2:tn 0 s2.heap) (f2:∀ b ∈ fp,FpOk X pins H2 b)
    (q:CompGo J H2 σ tt te Q)
    (hRR:∀ D C s' H' m',Inv X pins σ H' s'→s'.heap.Ns C m'→FpOk X pins H' C→Q (.ref D) H'→RR (.ref D) C (.ok .next) s') :
    wpAny (model X.prog X.w) X.A (newList []) (fun acc s3=>wpAny (model X.prog X.w) X.A (newFunctionEnv scope X.env.globals cl [] X.env.qual none .none (some X.env)) (fun cenv s4 =>
      codeAny (model X.prog X.w) X.A (.compStart (.ListComp elt [⟨.Name x px,iter,ifs,0⟩] scope pos) 0 (.ref it) acc { cenv with scope:=relabel scope X.env }) (RR acc cenv.locals) s4) E s3) E s2:=by
  obtain ⟨hsub,hall⟩:=hclos
  refine wpAny_newObj_type (wpAny_newFunctionEnv S.cell (by intro y hy; simp at hy) (fun h1 hns hsb=>?_) S.kind)
  have I3:Inv X pins σ (upd H2 s2.heap.objs.size (.lst [])) { s2 with heap:=s2.heap.push { cls:=.type "list",data:=.seq ([]:List Value).toArray } }:=I2.lnew (t':=s2.toks) .nil (by simp)
  have hD:H2 s2.heap.objs.size=none:=I2.fresh
  obtain ⟨W,⟨m0,w0⟩,turn⟩:=q _ hD
  generalize hs3:({ s2 with heap:=s2.heap.push { cls:=.type "list",data:=.seq ([]:List Value).toArray } }:Shared)=s3 at I3
  have hs3':({ s2 with heap:=s2.heap.push { cls:=.type "list",dict:=none,data:=.seq ([]:List Value).toArray } }:Shared)=s3:=hs3
  dsimp only at hns hsb ⊢
  generalize hDD:s2.heap.objs.size=D at *
  have eh:s2.heap.push { cls:=.type "list",dict:=none,data:=.seq ([]:List Value).toArray }=s3.heap:=by rw [← hs3]
  rw [eh] at hns hsb
  have keep:∀ b o,s3.heap.get? b=some o→h1.get? b=some o:=fun b o e=>hsb.extBut b o (Nat.ne_of_lt (Heap.lt_size e)) (Heap.get?_push_of_some _ e)
  have objs:∀ b ∈ fp,∃ o,s3.heap.get? b=some o:=fun b hb=>by
    obtain ⟨o,e,_⟩:=T.obj _ _ st2 b hb
    rw [← eh]
    exact ⟨o,Heap.get?_push_of_some _ e⟩
  have f3:∀ b ∈ fp,FpOk X pins (upd H2 D (.lst [])) b:=fun b hb=>by
    obtain ⟨o,e,_⟩:=T.obj _ _ st2 b hb
    have ne:b ≠ D:=by rw [← hDD]; exact Nat.ne_of_lt (Heap.lt_size e)
    exact ⟨by rw [upd_ne ne]; exact (f2 b hb).1,(f2 b hb).2⟩
  have I4:Inv (X.comp x scope cl s3.heap.objs.size fp s3 (upd H2 D (.lst []))) (X.pn ++ pins) (none :: σ) (upd H2 D (.lst [])) { s3 with heap:=h1,toks:=s3.toks + ([]:List (Str × Value)).length }:=comp_inv S I3 hns keep f3 objs hsub hall
  have st4:tn 0 h1:=T.keep _ _ _ st2 fun b hb o e=>keep b o (by rw [← eh]; exact Heap.get?_push_of_some _ e)
  -- what stays true of the iterator's objects
  have stat:∀ {H':Hp},(∀ b ∈ fp,H' b=none)→∀ b ∈ fp,FpOk (X.comp x scope cl s3.heap.objs.size fp s3 (upd H2 D (.lst []))) (X.pn ++ pins) H' b:=fun hn b hb=>by
    refine ⟨hn b hb,(I4.ok.exf b hb).1,I4.ok.exfs b hb,.inl hb,(I4.ok.exf b hb).2,fun p hp=>(f3 b hb).2.2.2.2.2 p (by simpa using hp)⟩
  have loop:codeAny (model X.prog X.w) X.A (.compLoop (.ListComp elt [⟨.Name x px,iter,ifs,0⟩] scope pos) 0 (.ref it) (.ref D) (compEnvC scope cl s3.heap.objs.size X.env)) (RR (.ref D) s3.heap.objs.size) { s3 with heap:=h1,toks:=s3.toks + ([]:List (Str × Value)).length }:=by
    refine comp_loop_go (fun n s'=>∃ i o H',Inv (X.comp x scope cl s3.heap.objs.size fp s3 (upd H2 D (.lst []))) (X.pn ++ pins) (o :: σ) H' s'∧tn i s'.heap∧(∀ b ∈ fp,H' b=none)∧W i n H') ?_ m0
      ⟨0,none,_,I4,st4,fun b hb=>(f3 b hb).1,w0⟩
    rintro n s5 ⟨i,o,H5,I5,st5,fr5,w5⟩
    rcases turn i n H5 w5 with ⟨stop,qn⟩ | ⟨go,step⟩
    · refine thn (T.done (X.comp x scope cl s3.heap.objs.size fp s3 (upd H2 D (.lst []))) rfl rfl rfl hcal i _ s5 _ H5 _ I5 (stat fr5) st5 stop) fun r s6 ⟨hr,I6⟩=>?_
      subst hr
      obtain ⟨m6,hn6,_⟩:=I6.loc
      have I7:Inv X pins σ H5 s6:=I3.call' (ch:=fp) I6.os I6.base I6.hok I6.bare fun b hb=>⟨(f3 b hb).2.2.2.1,(f3 b hb).2.1,(f3 b hb).2.2.2.2.1,(f3 b hb).2.2.2.2.2⟩
      exact hRR D s3.heap.objs.size s6 H5 m6 I7 hn6 (I3.fpOk (Nat.le_refl _) I6.free) qn
    · refine thn (T.item (X.comp x scope cl s3.heap.objs.size fp s3 (upd H2 D (.lst []))) rfl rfl rfl hcal i _ s5 _ H5 _ I5 (stat fr5) st5 go) fun r s6 ⟨u,hr,h6⟩=>?_
      subst hr
      refine thn h6 fun _ s7 ⟨y,H7,I7,r7,y7,st7,fr7⟩=>?_
      have I7':=I7.pinned (stat fr7) (T.obj _ _ st7)
      have hxl:(relabel scope X.env).names.lookup x=some .local:=lookup_relabel_local S.hx
      refine thn (pg_name (X:=X.comp x scope cl s3.heap.objs.size fp s3 (upd H2 D (.lst []))) (i:=0) S.nd rfl (.inl hxl) (.inr hxl) _ s7 (o :: σ) H7 y u (fun σ' H'=>σ'=some y :: σ∧H'=H7) I7' r7 ⟨rfl,rfl⟩) fun _ s8 ⟨σ8,H8,I8,e8,e8'⟩=>?_
      subst e8 e8'
      refine thn (ht _ _ _ _ _ _ s8 _ H8 _ I8 (step y H8 y7)) fun ok s9 ⟨H9,I9,q9⟩=>?_
      have back:∀ {H':Hp} {s':Shared} {m':Nat},Inv (X.comp x scope cl s3.heap.objs.size fp s3 (upd H2 D (.lst []))) (X.pn ++ pins ++ pinsAt fp s7.heap) (some y :: σ) H' s'→m' < n→W (i + 1) m' H' →
          ∃ m,m < n∧∃ i o H',Inv (X.comp x scope cl s3.heap.objs.size fp s3 (upd H2 D (.lst []))) (X.pn ++ pins) (o :: σ) H' s'∧tn i s'.heap∧(∀ b ∈ fp,H' b=none)∧W i m H':=fun {H' s' m'} I' hm w'=>by
        have pin:∀ b o,b ∈ fp→s7.heap.get? b=some o→s'.heap.get? b=some o∧H' b=none:=fun b o hb e=>by
          have z:=I'.pin (b,o) (List.mem_append_right _ (List.mem_append_right _ (mem_pinsAt hb e)))
          exact ⟨z.1,z.2.1⟩
        refine ⟨m',hm,i + 1,some y,H',I'.unpinned,T.keep _ _ _ st7 fun b hb o e=>(pin b o hb e).1,fun b hb=>?_,w'⟩
        obtain ⟨o',e,_⟩:=T.obj _ _ st7 b hb
        exact (pin b o' hb e).2
      cases ok with
      | false =>
        rw [if_neg Bool.false_ne_true] at q9 ⊢
        obtain ⟨m',hm,w'⟩:=q9
        exact back I9 hm w'
      | true =>
        rw [if_pos rfl] at q9 ⊢
        refine thn (he _ _ _ _ _ _ s9 _ H9 _ I9 q9) fun v s10 ⟨z,H10,I10,r10,q10⟩=>?_
        obtain ⟨ys,e10,l10,m',hm,w'⟩:=q10
        refine thn (mt_append _ s10 _ H10 (.ref D) [z] (.ref D) [v] (fun _ H'=>H'=upd H10 D (.lst (ys ++ [z]))) I10 rfl (.cons r10 .nil) ⟨D,ys,z,rfl,rfl,e10,l10,rfl⟩) fun _ s11 ⟨_,H11,I11,_,e11⟩=>?_
        subst e11
        exact back I11 hm w'
  exact codeAny_compStart_list loop (T.self _ 0 _ _ _ st4 loop)
theorem pe_comp (S:CompSc X x scope) (hcal:X.calm=true) (hi:PI X (.Name x px) iter wi) (ht:∀ cl C fp s H,PTs (X.comp x scope cl C fp s H) ifs tt) (he:∀ cl C fp s H,PE (X.comp x scope cl C fp s H) elt te)
    (hs:∀ x,foldedSetIterable iter X.env x=pure x:=by intro _; rfl):PE X (.ListComp elt [⟨.Name x px,iter,ifs,0⟩] scope pos) (tComp wi tt te):=by
  intro pins s σ H Q I h
  obtain ⟨cl,hcl,hc⟩:=clos_ok (env:=X.env) (scope:=scope) fun y hy hf=>I.ok.has y.1 (S.free y hy hf)
  rw [eval_ListComp]
  refine wpAny_comprehension_free (use:=none) rfl hs hcl S.kind S.names (thn (hi pins s σ H _ I h) fun xv s1 h1=>thn h1 fun itv s2 h2=>?_)
  obtain ⟨it,fp,tn,J,H2,e,I2,T,st2,f2,q⟩:=h2
  subst e
  refine comp_core (RR:=fun acc C=>compPost (model X.prog X.w) X.A X.xe none (EP X pins σ Q) acc C) S hcal hc ht he I2 T st2 f2 q ?_
  intro D C s' H' m' I' hn F' hq
  exact ⟨m',hn,fun h' sb=>⟨.ref D,H',I'.turned (t':=s'.toks) (fun b o hb e=>(sb.2 b hb).trans e) F'.1 F'.2.1 F'.2.2.2.1 F'.2.2.2.2.1 F'.2.2.2.2.2,rfl,hq⟩⟩
end
end L2
namespace L2
open PySem PySem.Spec PyProof.Rows
open AutoSeq1 (wpAny_loadPart')
section
variable {prog:Program} {w:World} {A:Around} {E:Value→Shared→Prop} {s:Shared}
end
section
variable {prog:Program} {w:World} {A:Around} {E:Value→Shared→Prop} {s:Shared}
end
end L2
namespace L2
open PySem PySem.Spec PyProof.Rows
section
variable {prog:Program} {w:World} {A:Around} {E:Value→Shared→Prop} {s:Shared}
end
end L2
namespace L2
open PySem PySem.Spec PyProof.Rows
section
variable {X:Cx} {pins:List (Addr × Obj)} {σ:St} {H:Hp} {s:Shared} {h':Heap}
theorem Inv.turnedNew {t':Nat} {ch:List Addr} {a:Addr} {o:HO} (I:Inv X pins σ H s) (k:∀ b u,b ∉ ch→s.heap.get? b=some u→h'.get? b=some u) (hch:∀ b ∈ ch,FpOk X pins H b)
    (hp:s.heap.objs.size ≤ a) (new:ObjOk X.prog X.w (upd H a o) h' a o):Inv X pins σ (upd H a o) { s with heap:=h',toks:=t' }:=by
  have hn:H a=none:=I.hok.fresh hp
  have nch:∀ b u,H b=some u→b ∉ ch:=fun b u e z=>by rw [(hch b z).1] at e; cases e
  refine I.step (g':=s.gens) (d':=s.drawn) (ch:=ch) (fun b hb=>⟨(hch b hb).2.2.2.1,(hch b hb).2.1,(hch b hb).2.2.2.2.1,(hch b hb).2.2.2.2.2⟩) (fun b o _ _ hc e _=>k b o hc e) (fun b o _ _ hc e _=>⟨o.slots,k b o hc e⟩)
    (fun b u hc e n=>by rw [upd_ne (Nat.ne_of_lt (Nat.lt_of_lt_of_le (Heap.lt_size e) hp))]; exact n) (fun b o hc e=>⟨o,k b o hc e⟩) (fun b xs e=>by rw [upd_ne (ne_of_none e hn)]; exact e) (fun b u xs e=>by rw [upd_ne (ne_of_none e hn)]; exact e)
    (fun b ps e=>⟨#[],by rw [upd_ne (ne_of_none e hn),e]; simp⟩) (fun m hm=>?_) (fun b u e=>?_) I.bare
  · obtain ⟨ob,es,ep,ho,r⟩:=hm
    exact ⟨ob,es,ep,k _ ob (fun z=>(hch _ z).2.1 rfl) ho,r⟩
  · by_cases hb:b=a
    · subst hb
      rw [upd_same] at e
      cases e
      exact new
    · rw [upd_ne hb] at e
      refine (I.hok b u e).stay (fun c v hc q=>k c v ?_ q) (fun c q=>by rw [upd_ne (ne_of_none q hn)]; exact q) fun c xs q=>by rw [upd_ne (ne_of_none q hn)]; exact q
      rcases hc with z | z
      · rw [z]
        exact nch b u e
      · exact nch c _ z
end
section
variable {M:Model} {A:Around} {E:Value→Shared→Prop} {s:Shared} {env:Env}
end
section
variable {X:Cx} {es:List Expr} {kk:Nat} {pt:Pos}
end
end L2
namespace L2
open PySem PySem.Spec PyProof.Rows
open AutoSeq1 (wpAny_loadPart')
section
variable {X:Cx}
def rInst (K:PySem.W.Frag):List V→Hp→VK→Prop:=fun xs H Q=>∃ x n t b,xs=[x,.ty n]∧TyOf K H x t∧PySem.W.kitOne K t (.type n)=some b∧Q (.bl b) H
theorem call_isinst:CallR X (.builtin "isinstance") (rInst X.K):=by
  intro pins s σ H xs us Q I r h
  obtain ⟨x,n,t,b,e1,ty,e2,q⟩:=h
  subst e1
  obtain ⟨u,v,e3,r1,r2⟩:=vals2 r
  subst e3
  obtain rfl:v=Value.type n:=r2
  exact isinst_ok I r1 ty e2 fun tk=>⟨.bl b,H,I.tok tk,rfl,q⟩
end
end L2
namespace L2
open PySem PySem.Spec PyProof.Rows
def compChk (fs:Scope) (N:List Str) (x:Str) (scope:Scope):Bool :=
  decide (scope.kind=.function) && scope.names.all (fun y=>decide (y.2 ≠ .cell)) && scope.names.all (fun y=>decide (y.2=.local→scope.names.lookup y.1=some .local)) && decide (scope.names.lookup x=some .local) &&
  scope.names.all (fun y=>decide (y.2=.free→fs.names.lookup y.1=some .cell ∨ fs.names.lookup y.1=some .free)) &&
  N.all (fun y=>match scope.names.lookup y with
    | none=>true
    | some .free=>decide (fs.names.lookup y=some .cell ∨ fs.names.lookup y=some .free)
    | some _=>false) && decide ((x :: N).Nodup)
theorem compSc_mk {X:Cx} {x:Str} {scope fs:Scope} {N:List Str} (hs:X.env.scope=fs) (hN:X.N=N) (c:compChk fs N x scope=true):CompSc X x scope:=by
  subst hs hN
  unfold compChk at c
  simp only [Bool.and_eq_true,List.all_eq_true,decide_eq_true_eq] at c
  obtain ⟨⟨⟨⟨⟨⟨c1,c2⟩,c3⟩,c4⟩,c5⟩,c6⟩,c7⟩:=c
  refine ⟨c1,c2,c3,c4,c5,fun y hy=>?_,c7⟩
  have q:=c6 y hy
  unfold capOk
  cases e:scope.names.lookup y with
  | none=>rfl
  | some k =>
    rw [e] at q
    cases k with
    | free =>
      have q2:X.env.scope.names.lookup y=some .cell ∨ X.env.scope.names.lookup y=some .free:=by simpa using q
      show (X.env.kindOf y == some .cell || X.env.kindOf y == some .free)=true
      have e2:X.env.kindOf y=X.env.scope.names.lookup y:=rfl
      rw [e2]
      rcases q2 with z | z <;> rw [z] <;> rfl
    | _=>simp at q
end L2
namespace L2
open PySem PySem.Spec PyProof.Rows
section
variable {X:Cx}
end
section
variable {X:Cx} {K:PySem.W.Frag}
end
end L2
namespace L2
open PySem
section
variable {prog:Program} {w:World} {A:Around} {R:Result→Shared→Prop} {I Z:Addr} {fp wr:List Addr} {n:Nat} {P:Nat→Value→Prop} {St:Nat→Heap→Prop} {Ok:Heap→Prop}
end
section
variable {prog:Program} {w:World} {A:Around} {E:Value→Shared→Prop} {s:Shared}
end
end L2
namespace L2
open PySem PySem.Spec PyProof.Rows
theorem Vals.at {xs:List V} {us:List Value} {i:Nat} {u:Value} (r:Vals xs us) (h:us[i]?=some u):∃ x,xs[i]?=some x∧RelV x u:=by
  have hi:i < us.length:=(List.getElem?_eq_some_iff.mp h).1
  have hl:=r.length
  obtain ⟨w,q,p⟩:=r.get (i:=i) (x:=xs[i]) (by simp [show i < xs.length by omega])
  rw [h] at q
  cases q
  exact ⟨xs[i],by simp [show i < xs.length by omega],p⟩
theorem bl_at {bs:List Bool} {us:List Value} {i:Nat} {u:Value} (r:Vals (bs.map V.bl) us) (h:us[i]?=some u):∃ b,bs[i]?=some b∧u=.bool b:=by
  obtain ⟨x,hx,p⟩:=r.at h
  rw [List.getElem?_map] at hx
  cases e:bs[i]? with
  | none=>rw [e] at hx; cases hx
  | some b =>
    rw [e] at hx
    have q:V.bl b=x:=Option.some.inj hx
    subst q
    exact ⟨b,rfl,p⟩
theorem all_getD:∀ bs:List Bool,((List.range bs.length).all fun i=>(bs[i]?).getD true)=bs.all id
  | []=>rfl
  | b :: bs=>by
    have ih:=all_getD bs
    rw [List.length_cons,List.range_succ_eq_map,List.all_cons,List.all_map,List.all_cons,← ih]
    rfl
section
variable {X:Cx}
def rAllL (K:PySem.W.Frag):List V→Hp→VK→Prop:=fun xs H Q=>∃ (p:Addr) (bs:List Bool),xs=[.ref p]∧SqL K H p (bs.map V.bl)∧Q (.bl (bs.all id)) H
theorem call_allL (hc:X.calm=true):CallR X (.builtin "all") (rAllL X.K):=by
  intro pins s σ H xs us Q I r h
  obtain ⟨p,bs,e1,hS,q⟩:=h
  subst e1
  obtain ⟨u,e2,ru⟩:=vals1 r
  subst e2
  obtain rfl:u=Value.ref p:=ru
  obtain ⟨its,rv,pl,hz⟩:=I.list hS
  have hL:=pl.isList
  have lt:p < s.heap.objs.size:=by
    obtain ⟨_,e,_⟩:=hL
    exact Heap.lt_size e
  refine call_all_walk (wpAny_pyIter_list hL ?_)
  refine ⟨s.heap.objs.size,[s.heap.objs.size,p],[s.heap.objs.size],its.toArray.size,_,_,fun i=>(bs[i]?).getD true,rfl,Walks.list (A:=X.A.in1) (I.ok.hd hc) _ p (Nat.ne_of_lt lt) its.toArray,
    ⟨⟨_,Heap.get?_push_size _ rfl,rfl,rfl⟩,hL.push _⟩,fun i v s' Q' E' hP hQ=>?_,fun h' tk hk=>?_⟩
  · obtain ⟨b,e,e3⟩:=bl_at rv (by simpa using hP)
    subst e3
    simp only [e,Option.getD_some] at hQ
    exact wpAny_truthy_bool hQ
  · have e:((List.range its.toArray.size).all fun i=>(bs[i]?).getD true)=bs.all id:=by
      have hl:=rv.length
      rw [List.length_map] at hl
      rw [List.size_toArray,← hl,all_getD]
    rw [e]
    refine ⟨.bl _,H,I.kept (t':=tk) fun b o eb=>hk b o (fun hm=>?_) (Heap.get?_push_of_some _ eb),rfl,q⟩
    rw [List.mem_singleton.mp hm] at eb
    exact Nat.lt_irrefl _ (Heap.lt_size eb)
def rEqN (K:PySem.W.Frag) (neg:Bool):R2:=fun x y H Q=>∃ a b xs,x=.ref a∧y=.ref b∧SqL K H a xs∧SqL K H b []∧Q (.bl (if neg then !xs.isEmpty else xs.isEmpty)) H
theorem op_neN (hu:X.A.units < cLine):OpR X (compareOp .NotEq) (rEqN X.K true):=by
  intro pins s σ H x y v u Q I rx ry h
  obtain ⟨a,b,xs,e1,e2,hA,hB,q⟩:=h
  subst e1 e2
  obtain rfl:v=Value.ref a:=rx
  obtain rfl:u=Value.ref b:=ry
  obtain ⟨its,r,pl,hz⟩:=I.list hA
  obtain ⟨its2,r2,pl2,hz2⟩:=I.list hB
  have l1:=r.length
  have l2:=r2.length
  rw [List.length_nil] at l2
  cases xs with
  | nil =>
    rw [List.length_nil] at l1
    refine SeqAt.RcNeAt.lists (e:=fun _=>true) pl.isList pl2.isList (by rw [List.size_toArray,List.size_toArray]; omega) hu (fun j h1 h2=>by rw [List.size_toArray] at h1; omega) _ _ _ _ ⟨.bl false,H,I,?_,q⟩
    show Value.bool _=Value.bool false
    congr 1
    rw [show ((List.range its.toArray.size).all fun _=>true)=true from List.all_eq_true.mpr fun _ _=>rfl]
    rfl
  | cons x0 xs0 =>
    rw [List.length_cons] at l1
    refine SeqAt.RcNeAt.lists_lengths pl.isList pl2.isList ?_ hu _ _ _ _ ⟨.bl true,H,I,rfl,q⟩
    rw [List.size_toArray,List.size_toArray]
    simp
    omega
end
section
variable {X:Cx}
end
end L2
namespace L2
open PySem PySem.Spec PyProof.Rows
section
variable {κ:Type} [DecidableEq κ]
def valV (kvs:List (κ × V)) (k:κ):Option V:=(kvs.find? fun kv=>decide (kv.1=k)).map (·.2)
def putK (kvs:List (κ × V)) (k:κ) (v:V):List (κ × V) :=
  if (kvs.any fun kv=>decide (kv.1=k))=true then kvs.map (fun kv=>if kv.1=k then (kv.1,v) else kv) else kvs ++ [(k,v)]
theorem valV_pos {p:κ × V} {r:List (κ × V)} {k:κ} (e:p.1=k):valV (p :: r) k=some p.2:=by simp [valV,List.find?_cons,e]
theorem valV_neg {p:κ × V} {r:List (κ × V)} {k:κ} (e:¬ p.1=k):valV (p :: r) k=valV r k:=by simp [valV,List.find?_cons,e]
theorem valV_any (k:κ):∀ kvs:List (κ × V),(kvs.any fun kv=>decide (kv.1=k))=(valV kvs k).isSome
  | []=>rfl
  | p :: r=>by
    rw [List.any_cons]
    by_cases e:p.1=k
    · simp only [valV_pos e,decide_eq_true e,Bool.true_or,Option.isSome_some]
    · rw [valV_neg e,decide_eq_false e,Bool.false_or]; exact valV_any k r
theorem valV_map (k j:κ) (y:V):∀ kvs:List (κ × V),valV (kvs.map fun kv=>if kv.1=k then (kv.1,y) else kv) j=(valV kvs j).map fun x=>if j=k then y else x
  | []=>rfl
  | p :: r=>by
    have ih:=valV_map k j y r
    rw [List.map_cons]
    by_cases h:p.1=k
    · rw [if_pos h]
      by_cases e:p.1=j
      · rw [valV_pos (p:=(p.1,y)) e,valV_pos e,Option.map_some,if_pos (e.symm.trans h)]
      · rw [valV_neg (p:=(p.1,y)) e,valV_neg e,ih]
    · rw [if_neg h]
      by_cases e:p.1=j
      · rw [valV_pos (p:=p) e,valV_pos e,Option.map_some,if_neg (fun z=>h (e.trans z))]
      · rw [valV_neg (p:=p) e,valV_neg e,ih]
theorem valV_snoc (k j:κ) (y:V):∀ kvs:List (κ × V),valV kvs k=none→valV (kvs ++ [(k,y)]) j=if j=k then some y else valV kvs j
  | [],_=>by
    by_cases e:k=j
    · rw [if_pos e.symm]; exact valV_pos (p:=(k,y)) e
    · rw [if_neg (fun z=>e z.symm)]; exact valV_neg (p:=(k,y)) e
  | p :: r,hn=>by
    rw [List.cons_append]
    have hk:¬ p.1=k:=fun z=>by rw [valV_pos z] at hn; cases hn
    rw [valV_neg hk] at hn
    have ih:=valV_snoc k j y r hn
    by_cases e:p.1=j
    · rw [valV_pos e,valV_pos e,if_neg (fun z=>hk (e.trans z))]
    · rw [valV_neg e,valV_neg e,ih]
theorem valV_put (kvs:List (κ × V)) (k j:κ) (y:V):valV (putK kvs k y) j=if j=k then some y else valV kvs j:=by
  unfold putK
  by_cases a:(kvs.any fun kv=>decide (kv.1=k))=true
  · rw [if_pos a,valV_map]
    rw [valV_any] at a
    by_cases e:j=k
    · obtain ⟨x,hx⟩:=Option.isSome_iff_exists.mp a
      rw [if_pos e,e,hx,Option.map_some,if_pos rfl]
    · rw [if_neg e]
      cases valV kvs j with
      | none=>rfl
      | some x=>rw [Option.map_some,if_neg e]
  · rw [if_neg a]
    refine valV_snoc k j y kvs ?_
    rw [valV_any] at a
    cases q:valV kvs k with
    | none=>rfl
    | some x=>rw [q] at a; exact (a rfl).elim
theorem length_putK (kvs:List (κ × V)) (k:κ) (v:V):(putK kvs k v).length ≤ kvs.length + 1:=by
  unfold putK
  split
  · rw [List.length_map]; omega
  · rw [List.length_append,List.length_cons,List.length_nil]; omega
theorem putK_new {kvs:List (κ × V)} {k:κ} (v:V) (h:valV kvs k=none):putK kvs k v=kvs ++ [(k,v)]:=by
  unfold putK
  rw [valV_any,h]
  exact if_neg (by decide)
theorem RelO.isSome_eq {o:Option V} {u:Option Value} (r:RelO o u):o.isSome=u.isSome:=by
  cases o with
  | none=>cases u with
    | none=>rfl
    | some _=>exact (show False from r).elim
  | some _=>cases u with
    | none=>exact (show False from r).elim
    | some _=>rfl
theorem KV.val {kvs:List (κ × V)} {vs:List (κ × Value)} (r:KV kvs vs) (k:κ):RelO (valV kvs k) (valueAt vs k):=by
  unfold KV at r
  induction r with
  | nil=>exact True.intro
  | @cons p q ps qs h t ih =>
    obtain ⟨h1,h2⟩:=h
    by_cases e:p.1=k
    · have e':q.1=k:=h1.symm.trans e
      have b:valueAt (q :: qs) k=some q.2:=by simp [valueAt,List.find?_cons,e']
      rw [valV_pos e,b]; exact h2
    · have e':¬ q.1=k:=fun z=>e (h1.trans z)
      have b:valueAt (q :: qs) k=valueAt qs k:=by simp [valueAt,List.find?_cons,e']
      rw [valV_neg e,b]; exact ih
theorem KV.any {kvs:List (κ × V)} {vs:List (κ × Value)} (r:KV kvs vs) (k:κ):(kvs.any fun kv=>decide (kv.1=k))=vs.any fun kv=>decide (kv.1=k):=by
  unfold KV at r
  induction r with
  | nil=>rfl
  | cons h t ih=>rw [List.any_cons,List.any_cons,ih,h.1]
theorem KV.repl {kvs:List (κ × V)} {vs:List (κ × Value)} (r:KV kvs vs) (k:κ) {y:V} {u:Value} (ry:RelV y u) :
    KV (kvs.map fun kv=>if kv.1=k then (kv.1,y) else kv) (vs.map fun kv=>if kv.1=k then (kv.1,u) else kv):=by
  unfold KV at r ⊢
  induction r with
  | nil=>exact .nil
  | @cons p q ps qs h t ih =>
    rw [List.map_cons,List.map_cons]
    refine .cons ?_ ih
    obtain ⟨h1,h2⟩:=h
    by_cases e:p.1=k
    · rw [if_pos e,if_pos (h1.symm.trans e)]; exact ⟨h1,ry⟩
    · rw [if_neg e,if_neg (fun z=>e (h1.trans z))]; exact ⟨h1,h2⟩
theorem KV.put {kvs:List (κ × V)} {vs:List (κ × Value)} (r:KV kvs vs) (k:κ) {y:V} {u:Value} (ry:RelV y u):KV (putK kvs k y) (stored vs k u):=by
  unfold putK stored
  rw [r.any k]
  by_cases e:(vs.any fun kv=>decide (kv.1=k))=true
  · rw [if_pos e,if_pos e]; exact r.repl k ry
  · rw [if_neg e,if_neg e]; exact Paired.snoc r ⟨rfl,ry⟩
theorem KV.length {kvs:List (κ × V)} {vs:List (κ × Value)} (r:KV kvs vs):kvs.length=vs.length:=Paired.length r
end
theorem kV_is {P:Program} {w:World} {k:Key} {u:Value} (r:RelV (kV k) u):(mixKind P w).is k u=true:=by
  cases k with
  | inl i=>obtain ⟨t,e⟩:=(show ∃ t,u=Value.int i t from r); subst e; exact mixKind_int P w i t
  | inr x=>obtain ⟨t,e⟩:=(show ∃ t,u=Value.str x t from r); subst e; exact mixKind_str P w x t
theorem items_are {P:Program} {w:World}:∀ {ks:List Key} {us:List Value},Vals (ks.map kV) us→ItemsAre (mixKind P w) ks us
  | [],_,r=>by rw [List.map_nil] at r; cases r; exact .nil
  | k :: ks,_,r=>by
    rw [List.map_cons] at r
    cases r with
    | cons h t=>exact .cons (kV_is h) (items_are t)
abbrev KT (H:Hp):List (List Key × V)→List (List Key × Addr × Value)→Prop:=Paired fun p q=>p.1=q.1∧H q.2.1=some (.tup (p.1.map kV))∧RelV p.2 q.2.2
theorem KT.val {H:Hp} {kvs:List (List Key × V)} {xs:List (List Key × Addr × Value)} (r:KT H kvs xs) (k:List Key):RelO (valV kvs k) ((atKey xs k).map (·.2)):=by
  induction r with
  | nil=>exact True.intro
  | @cons p q ps qs h t ih =>
    obtain ⟨h1,_,h2⟩:=h
    by_cases e:p.1=k
    · have e':q.1=k:=h1.symm.trans e
      have b:atKey (q :: qs) k=some q.2:=by simp [atKey,List.find?_cons,e']
      rw [valV_pos e,b]; exact h2
    · have e':¬ q.1=k:=fun z=>e (h1.trans z)
      have b:atKey (q :: qs) k=atKey qs k:=by simp [atKey,List.find?_cons,e']
      rw [valV_neg e,b]; exact ih
theorem KT.repl {H:Hp} {kvs:List (List Key × V)} {xs:List (List Key × Addr × Value)} (r:KT H kvs xs) (k:List Key) {y:V} {u:Value} (ry:RelV y u) :
    KT H (kvs.map fun kv=>if kv.1=k then (kv.1,y) else kv) (xs.map (putAt k u)):=by
  induction r with
  | nil=>exact .nil
  | @cons p q ps qs h t ih =>
    rw [List.map_cons,List.map_cons]
    refine .cons ?_ ih
    obtain ⟨h1,h2,h3⟩:=h
    unfold putAt
    by_cases e:p.1=k
    · rw [if_pos e,if_pos (h1.symm.trans e)]; exact ⟨h1,h2,ry⟩
    · rw [if_neg e,if_neg (fun z=>e (h1.trans z))]; exact ⟨h1,h2,h3⟩
theorem KT.put {H:Hp} {kvs:List (List Key × V)} {xs:List (List Key × Addr × Value)} (r:KT H kvs xs) (k:List Key) {b:Addr} {y:V} {u:Value} (hb:H b=some (.tup (k.map kV))) (ry:RelV y u) :
    KT H (putK kvs k y) (storedH xs k b u):=by
  have e:(kvs.any fun kv=>decide (kv.1=k))=(atKey xs k).isSome:=by
    rw [valV_any,(r.val k).isSome_eq,Option.isSome_map]
  unfold putK storedH
  rw [e]
  by_cases q:(atKey xs k).isSome=true
  · rw [if_pos q,if_pos q]; exact r.repl k ry
  · rw [if_neg q,if_neg q]; exact Paired.snoc r ⟨rfl,hb,ry⟩
theorem KT.keeps {H H':Hp} {kvs:List (List Key × V)} {xs:List (List Key × Addr × Value)} (r:KT H kvs xs) (ht:∀ b ys,H b=some (.tup ys)→H' b=some (.tup ys)):KT H' kvs xs :=
  Paired.mapP r fun _ _ z=>⟨z.1,ht _ _ z.2.1,z.2.2⟩
section
variable {P:Program} {w:World} {H:Hp} {h:Heap} {a:Addr}
theorem rd_of {u:HO} (ok:HOk P w H h) (e:Rd H a u):ObjOk P w H h a u:=e.ok ok
theorem dk_rd {kvs:List (Key × V)} (ok:HOk P w H h) (e:Rd H a (.dK kvs)):kvs.length ≤ sizeLine∧(a == sysModules)=false∧∃ vs,KV kvs vs∧h.DictOf (mixKind P w) a vs :=
  show ObjOk P w H h a (.dK kvs) from rd_of ok e
theorem dk_of {kvs:List (Key × V)} (ok:HOk P w H h) (e:H a=some (.dK kvs)):kvs.length ≤ sizeLine∧(a == sysModules)=false∧∃ vs,KV kvs vs∧h.DictOf (mixKind P w) a vs:=dk_rd ok (.inl e)
theorem key_of {ks:List Key} (ok:HOk P w H h) (e:H a=some (.tup (ks.map kV))):(tupleKind (mixKind P w)).is h ks a:=by
  obtain ⟨_,its,r,o,h1,h2,n,h3⟩:=(show ObjOk P w H h a (.tup (ks.map kV)) from ok a _ e)
  exact ⟨o,its.toArray,n,h1,h2,h3,by simpa using items_are r⟩
theorem dt_rd {kvs:List (List Key × V)} (ok:HOk P w H h) (e:Rd H a (.dT kvs)):kvs.length ≤ sizeLine∧(a == sysModules)=false ∧
    ∃ xs,KT H kvs xs∧h.DictOfH (tupleKind (mixKind P w)) a xs:=by
  obtain ⟨z,y,xs,r,o,es,ep,h1,h2,h3,h4,h5⟩:=(show ObjOk P w H h a (.dT kvs) from rd_of ok e)
  refine ⟨z,y,xs,r,o,es,ep,h1,h2,h3,h4,fun x hx=>?_,h5⟩
  have all:∀ {l:List (List Key × V)} {m:List (List Key × Addr × Value)},KT H l m→∀ x ∈ m,(tupleKind (mixKind P w)).is h x.1 x.2.1:=by
    intro l m q
    induction q with
    | nil=>intro x hx; exact nomatch hx
    | @cons p q ps qs hq t ih =>
      intro x hx
      rcases List.mem_cons.mp hx with e | hx
      · subst e
        exact key_of ok (by rw [← hq.1]; exact hq.2.1)
      · exact ih x hx
  exact all r x hx
theorem dt_of {kvs:List (List Key × V)} (ok:HOk P w H h) (e:H a=some (.dT kvs)):kvs.length ≤ sizeLine∧(a == sysModules)=false ∧
    ∃ xs,KT H kvs xs∧h.DictOfH (tupleKind (mixKind P w)) a xs:=dt_rd ok (.inl e)
end
def DGet (H:Hp) (a:Addr) (y:V) (r:Option V):Prop :=
  (∃ kvs k,Rd H a (.dK kvs)∧y=kV k∧r=valV kvs k) ∨ ∃ kvs k b,Rd H a (.dT kvs)∧y=.ref b∧H b=some (.tup (k.map kV))∧r=valV kvs k
def DPut (H:Hp) (a:Addr) (y v:V) (H':Hp):Prop :=
  (∃ kvs k,H a=some (.dK kvs)∧y=kV k∧kvs.length < sizeLine∧H'=upd H a (.dK (putK kvs k v))) ∨
  ∃ kvs k b,H a=some (.dT kvs)∧y=.ref b∧H b=some (.tup (k.map kV))∧kvs.length < sizeLine∧H'=upd H a (.dT (putK kvs k v))
theorem DGet.t {H:Hp} {a b:Addr} {kvs:List (List Key × V)} {k:List Key} (e:H a=some (.dT kvs)) (eb:H b=some (.tup (k.map kV))):DGet H a (.ref b) (valV kvs k):=.inr ⟨kvs,k,b,.inl e,rfl,eb,rfl⟩
theorem DPut.k {H:Hp} {a:Addr} {kvs:List (Key × V)} {k:Key} {v:V} (e:H a=some (.dK kvs)) (hl:kvs.length < sizeLine):DPut H a (kV k) v (upd H a (.dK (putK kvs k v))):=.inl ⟨kvs,k,e,rfl,hl,rfl⟩
theorem DPut.t {H:Hp} {a b:Addr} {kvs:List (List Key × V)} {k:List Key} {v:V} (e:H a=some (.dT kvs)) (eb:H b=some (.tup (k.map kV))) (hl:kvs.length < sizeLine) :
    DPut H a (.ref b) v (upd H a (.dT (putK kvs k v))):=.inr ⟨kvs,k,b,e,rfl,eb,hl,rfl⟩
section
variable {X:Cx} {pins:List (Addr × Obj)} {σ:St} {H:Hp} {s:Shared} {a:Addr} {y v:V} {u r:Value} {o:Option V} {A:Around} {E:Value→Shared→Prop}
theorem Inv.big (I:Inv X pins σ H s):sysModules < s.heap.objs.size:=by
  have h:mainGlobals < s.heap.objs.size:=(I.mod.glob.keeps I.bk).lt
  exact Nat.lt_trans (by decide) h
theorem d_in {Q:Value→Shared→Prop} (hu:A.units + 1 < cLine) (I:Inv X pins σ H s) (g:DGet H a y o) (ry:RelV y u) (h:∀ s',Inv X pins σ H s'→Q (.bool o.isSome) s') :
    wpAny (model X.prog X.w) A (compareOp .In u (.ref a)) Q E s:=by
  rcases g with ⟨kvs,k,e,ey,l⟩ | ⟨kvs,k,b,e,ey,eb,l⟩
  · subst ey
    obtain ⟨z,hd,vs,rel,dd⟩:=dk_rd I.hok e
    refine wpAny_in_of (kV_is ry) hd dd.mapOf ?_
    rw [← (rel.val k).isSome_eq,← l]
    exact h _ (I.tok _)
  · subst ey
    cases (show u=Value.ref b from ry)
    obtain ⟨z,hd,xs,rel,dd⟩:=dt_rd I.hok e
    refine wpAny_in_heap (tupleKind_room_in1 hu) (key_of I.hok eb) hd dd ?_
    have q:=(rel.val k).isSome_eq
    rw [Option.isSome_map] at q
    rw [← q,← l]
    exact h _ (I.tok _)
theorem d_write {h':Heap} {t':Nat} {ob:HO} (I:Inv X pins σ H s) (mu:Mut (H a)) (hs:Heap.SameBut a s.heap h') (he:∃ q,h'.get? a=some q) (new:ObjOk X.prog X.w (upd H a ob) h' a ob) :
    Inv X pins σ (upd H a ob) { s with heap:=h',toks:=t' } :=
  I.write (x:=a) (e:=a) mu (.inl rfl) (fun b q hb z=>(hs.2 b hb).trans z) he new
theorem dk_new {P:Program} {w:World} {H':Hp} {h':Heap} {kvs:List (Key × V)} {vs:List (Key × Value)} (z:kvs.length ≤ sizeLine) (hd:(a == sysModules)=false) (rel:KV kvs vs) (dd:h'.DictOf (mixKind P w) a vs) :
    ObjOk P w H' h' a (.dK kvs):=⟨z,hd,vs,rel,dd⟩
theorem d_setItem {H':Hp} {Q:Unit→Shared→Prop} (hu:A.units + 1 < cLine) (I:Inv X pins σ H s) (g:DPut H a y v H') (ry:RelV y u) (rv:RelV v r) (h:∀ s',Inv X pins σ H' s'→Q () s') :
    wpAny (model X.prog X.w) A (setItem (.ref a) u r) Q E s:=by
  rcases g with ⟨kvs,k,e,ey,l,eH⟩ | ⟨kvs,k,b,e,ey,eb,l,eH⟩
  · subst ey eH
    obtain ⟨z,hd,vs,rel,dd⟩:=dk_of I.hok e
    have hz:vs.length ≤ sizeLine:=by rw [← rel.length]; exact z
    have hl:(putK kvs k v).length ≤ sizeLine:=by have:=length_putK kvs k v; omega
    refine wpAny_setItem_pairs (hsz:=hz) (kV_is ry) dd fun h' dd' hs=>h _ ?_
    have he:∃ q,h'.get? a=some q:=let ⟨q,_,_,hq,_⟩:=dd'; ⟨q,hq⟩
    exact d_write I (by rw [e]; exact True.intro) hs he (dk_new hl hd (rel.put k rv) dd')
  · subst ey eH
    cases (show u=Value.ref b from ry)
    obtain ⟨z,hd,xs,rel,dd⟩:=dt_of I.hok e
    have hz:xs.length ≤ sizeLine:=by rw [← Paired.length rel]; exact z
    have hl:(putK kvs k v).length ≤ sizeLine:=by have:=length_putK kvs k v; omega
    refine wpAny_setItem_heap (hsz:=hz) (tupleKind_room_in1 hu) (key_of I.hok eb) dd fun h' dd' hs=>h _ ?_
    obtain ⟨q,es,ep,hq,h2,h3,h4,_,h5⟩:=dd'
    refine d_write I (by rw [e]; exact True.intro) hs ⟨q,hq⟩ ⟨hl,hd,_,(rel.put k eb rv).keeps fun c ys ec=>?_,q,es,ep,hq,h2,h3,h4,h5⟩
    rw [upd_ne (ne_of ec e (fun z=>nomatch z))]
    exact ec
end
section
variable {X:Cx} {pins:List (Addr × Obj)} {σ:St} {H:Hp} {s:Shared} {a:Addr} {kvs:List (Key × V)} {k:Key} {u:Value} {A:Around} {E:Value→Shared→Prop}
end
def tDIn (ty td:TE):TE:=fun σ H Q=>ty σ H fun y H1=>td σ H1 fun x H2=>∃ a o,x=.ref a∧DGet H2 a y o∧Q (.bl o.isSome) H2
def sDPut (td ty tv:TE):TS:=fun D σ H=>tv σ H fun v H1=>td σ H1 fun x H2=>ty σ H2 fun y H3=>∃ a H4,x=.ref a∧DPut H3 a y v H4∧D.nx σ H4
section
variable {X:Cx} {o i e value:Expr} {pos pos' tpos:Pos} {td ty tv:TE}
theorem pc_din (hu:X.A.units + 1 < cLine) (hi:PE X i ty) (ho:PE X o td):PC X .In i o (tDIn ty td):=by
  intro pins s σ H Q I h
  refine thn (hi pins s σ H _ I h) fun iv s1 ⟨y,H1,I1,ry,q1⟩=>thn (ho pins s1 σ H1 _ I1 q1) fun u s2 ⟨x,H2,I2,rx,a,ov,ex,g,q2⟩=>?_
  subst ex
  obtain rfl:u=Value.ref a:=rx
  exact d_in hu I2 g ry fun s3 I3=>⟨.bl ov.isSome,H2,I3,rfl,q2⟩
theorem ps_dput (hu:X.A.units + 1 < cLine) (ho:PE X o td) (hi:PE X i ty) (hv:PE X value tv) (hs:swapsWith value (some (.Subscript o i pos')) pos.line X.env=pure false) :
    PS X (.Assign [.Subscript o i pos'] value pos) (sDPut td ty tv):=by
  intro pins s σ H D I h
  refine wpAny_Assign_Subscript (thn (hv pins s σ H _ I h) fun r s1 ⟨v,H1,I1,rv,q1⟩=>thn (ho pins s1 σ H1 _ I1 q1) fun u s2 ⟨x,H2,I2,rx,q2⟩=>thn (hi pins s2 σ H2 _ I2 q2) fun iv s3 ⟨y,H3,I3,ry,a,H4,ex,g,q3⟩=>?_) hs
  subst ex
  obtain rfl:u=Value.ref a:=rx
  exact d_setItem hu I3 g ry rv fun s4 I4=>⟨σ,H4,I4,q3⟩
end
theorem dk_empty {P:Program} {w:World} {H:Hp} (h:Heap) (hb:sysModules < h.objs.size):ObjOk P w H (h.push { cls:=.type "dict",data:=.dict #[] }) h.objs.size (.dK []) :=
  ⟨Nat.zero_le _,beq_eq_false_iff_ne.mpr (Ne.symm (Nat.ne_of_lt hb)),[],.nil,Heap.DictOf.new h⟩
theorem dt_empty {P:Program} {w:World} {H:Hp} (h:Heap) (hb:sysModules < h.objs.size):ObjOk P w H (h.push { cls:=.type "dict",data:=.dict #[] }) h.objs.size (.dT []) :=
  ⟨Nat.zero_le _,beq_eq_false_iff_ne.mpr (Ne.symm (Nat.ne_of_lt hb)),[],.nil,_,#[],0,Heap.get?_push_size _ rfl,⟨rfl,rfl,rfl⟩,rfl,rfl,List.nodup_nil⟩
def tDNewK:TE:=fun _ H Q=>∀ p,H p=none→Q (.ref p) (upd H p (.dK []))
def tDNewT:TE:=fun _ H Q=>∀ p,H p=none→Q (.ref p) (upd H p (.dT []))
section
variable {X:Cx} {pos:Pos}
theorem pe_dnewK:PE X (.Dict [] [] pos) tDNewK:=fun pins s σ H Q I h =>
  wpAny_Dict_empty ⟨.ref s.heap.objs.size,_,I.laid (a:=s.heap.objs.size) (o:=.dK []) (t':=s.toks) (fun _ _ q=>Heap.get?_push_of_some _ q) (Nat.le_refl _) (dk_empty s.heap I.big),rfl,h _ (I.hok.fresh (Nat.le_refl _))⟩
theorem pe_dnewT:PE X (.Dict [] [] pos) tDNewT:=fun pins s σ H Q I h =>
  wpAny_Dict_empty ⟨.ref s.heap.objs.size,_,I.laid (a:=s.heap.objs.size) (o:=.dT []) (t':=s.toks) (fun _ _ q=>Heap.get?_push_of_some _ q) (Nat.le_refl _) (dt_empty s.heap I.big),rfl,h _ (I.hok.fresh (Nat.le_refl _))⟩
end
section
variable {X:Cx} {pins:List (Addr × Obj)} {σ:St} {H:Hp} {s:Shared} {a:Addr} {y d:V} {u r:Value} {o:Option V} {A:Around} {E:Value→Shared→Prop}
end
section
variable {X:Cx} {o e f:Expr} {apos cpos:Pos} {td ty tx:TE}
end
section
variable {X:Cx} {pins:List (Addr × Obj)} {σ:St} {H:Hp} {s:Shared} {a:Addr} {kvs:List (Key × V)} {A:Around} {E:Value→Shared→Prop}
end
section
variable {X:Cx} {pins:List (Addr × Obj)} {σ:St} {H:Hp} {s:Shared} {a:Addr} {y:V} {u:Value} {A:Around} {E:Value→Shared→Prop}
end
end L2
namespace S2
open PySem L2
theorem Same.put {H H2:Hp} {l:Addr} {o:HO} (s:Same H H2) (hn:H l=none):Same H (upd H2 l o):=fun b u e=>by
  rw [upd_ne (ne_of_none e hn)]
  exact s b u e
theorem get_lt {α:Type} {l:List α} {i:Nat} {x:α} (h:l[i]?=some x):i < l.length:=(List.getElem?_eq_some_iff.mp h).1
theorem small {n:Nat} (h:n ≤ 100000):n < sizeLine:=Nat.lt_of_le_of_lt h (by decide)
theorem smallE {n:Nat} (h:n ≤ 100000):n ≤ sizeLine:=Nat.le_of_lt (small h)
theorem mod_nat {z:Int} {n:Nat} (h:0 < n):∃ i:Nat,z % (n:Int)=(i:Int)∧i < n:=by
  have h1:0 ≤ z % (n:Int):=Int.emod_nonneg _ (by omega)
  have h2:z % (n:Int) < (n:Int):=Int.emod_lt_of_pos _ (by omega)
  exact ⟨(z % (n:Int)).toNat,by omega,by omega⟩
def spCell (K:PySem.W.Frag):Sp:=fun vs H Q _=>∃ (a:Addr) (k:Nat) (ns:List Int),vs=[.ref a,.int k]∧SqL K H a (ns.map V.int)∧ns.length ≤ 63∧∀ z:Int,Q (.int z) H
theorem snoc_at {H:Hp} {l:Addr} {ns:List Int} {x:Int}:(upd H l (.lst (ns.map V.int ++ [V.int x]))) l=some (.lst ((ns ++ [x]).map V.int)):=by
  rw [upd_same,List.map_append]
  rfl
theorem snoc_len {α:Type} {ns:List α} {x:α}:(ns ++ [x]).length=ns.length + 1:=by rw [List.length_append]; rfl
theorem iteB {A B:Prop} {c:Bool} (h:c=true) (a:A):if c=true then A else B:=by rw [if_pos h]; exact a
theorem iteC {A B:Prop} {c:Bool} (h:c=false) (b:B):if c=true then A else B:=by rw [if_neg (by rw [h]; exact Bool.false_ne_true)]; exact b
theorem while_out {c:TT} {tb:TS} {D:Ends} {σ:St} {H:Hp} (W:Nat→St→Hp→Prop) {m0:Nat} (h0:W m0 σ H) (out:∀ m σ H,W m σ H→D.nx σ H)
    (turn:∀ R:St→Hp→Prop,(∀ m σ H,W m σ H→R σ H)→∀ m σ H,W m σ H→c σ H fun b H1=>if b=true then ∃ N:St→Hp→Prop,(∀ σ' H',N σ' H'→∃ m',m' < m∧W m' σ' H')∧tb { D with nx:=N,ct:=N,bk:=D.nx } σ H1 else R σ H1):tWhile c tb D σ H :=
  ⟨W,⟨m0,h0⟩,turn D.nx out⟩
theorem nat_of {z:Int} {n:Nat} (h0:0 ≤ z) (h1:z < (n:Int)):∃ i:Nat,z=(i:Int)∧i < n:=⟨z.toNat,by omega,by omega⟩
end S2
namespace L2
open PySem PySem.Spec PyProof.Rows
section
variable {X:Cx}
end
end L2
namespace L2
open PySem PySem.Spec PyProof.Rows
abbrev Cx.compN (X:Cx) (N':List Str) (scope:Scope) (cl:List (Str × Addr)) (C:Addr) (fp:List Addr) (s:Shared) (H:Hp):Cx :=
  { X with N:=N',s₀:=s,H₀:=H,env:=compEnvC scope cl C X.env,outer:=X.stack,ex:=fp,fn:=fun _=>false,pn:=[],xe:=fun _ _=>False }
structure CompScN (X:Cx) (k:Nat) (N':List Str) (scope:Scope):Prop where
  kind:scope.kind=.function
  cell:∀ y ∈ scope.names,y.2 ≠ .cell
  names:∀ y ∈ scope.names,y.2=.local→scope.names.lookup y.1=some .local
  free:∀ y ∈ scope.names,y.2=.free→X.env.kindOf y.1=some .cell ∨ X.env.kindOf y.1=some .free
  len:N'.length=k + X.N.length
  cap:∀ i y,N'[k + i]?=some y→(X.N[i]?=some y∧capOk scope X.env y=true) ∨ scope.names.lookup y=none
theorem compN_inv {X:Cx} {k:Nat} {N':List Str} {scope:Scope} {cl:List (Str × Addr)} {fp:List Addr} {pins:List (Addr × Obj)} {σ:St} {H:Hp} {s:Shared} {h':Heap} {tk:Nat} {m:Str→Option Value} (S:CompScN X k N' scope) (I:Inv X pins σ H s)
    (hns:h'.Ns s.heap.objs.size m) (hk:∀ b o,s.heap.get? b=some o→h'.get? b=some o) (hf:∀ b ∈ fp,FpOk X pins H b) (ho:∀ b ∈ fp,∃ o,s.heap.get? b=some o)
    (hsub:∀ y c,cl.lookup y=some c→X.env.cells.lookup y=some c) (hall:∀ y ∈ scope.names,y.2=.free→∃ c,cl.lookup y.1=some c) :
    Inv (X.compN N' scope cl s.heap.objs.size fp s H) (X.pn ++ pins) (List.replicate k none ++ σ) H { s with heap:=h',toks:=tk }:=by
  refine ⟨⟨I.ok.mod,S.kind,I.ok.glob,I.ok.blt,Nat.le_refl _,fun y z c h1 h2=>I.ok.inj y z c (hsub y c h1) (hsub z c h2),fun y hy=>?_,fun y c hfn=>absurd hfn Bool.false_ne_true,I.ok.hd,I.ok.frames,.inl rfl,fun b hb=>⟨?_,fun y c e=>(hf b hb).2.2.2.2.1 y c (hsub y c e)⟩,
    I.bs,Nat.le_trans I.ok.bsz I.sz,fun b o e hb=>?_,fun b hb hs=>?_,I.stack,I.stkFree⟩,rfl,I.bare,Un.kept hk,⟨m,hns,fun i y v e1 e2 e3=>?_⟩,fun y c e=>?_,I.fresh,fun y c e=>I.freeC y c (hsub y c e),fun p hp=>?_,I.hok.kept hk,?_⟩
  · have hy':∃ k,(k=NameKind.cell ∨ k=NameKind.free)∧(relabel scope X.env).names.lookup y=some k:=by
      rcases hy with z | z
      · exact ⟨_,.inl rfl,z⟩
      · exact ⟨_,.inr rfl,z⟩
    obtain ⟨k,hk',e⟩:=hy'
    obtain ⟨k0,e0,r⟩:=rel_look e
    have kf:k0=.free:=by
      rcases r with r | r
      · subst r
        rcases hk' with z | z
        · subst z
          exact absurd rfl (S.cell _ (PySem.mem_of_lookup e0))
        · exact z
      · exact r.1
    subst kf
    exact hall (y,.free) (free_mem e0) rfl
  · obtain ⟨o,e⟩:=ho b hb
    exact Nat.ne_of_lt (Heap.lt_size e)
  · rcases (hf b hb).2.2.2.1 with z | z
    · exact I.ok.noex b o e z
    · exact absurd (Nat.lt_of_lt_of_le (Heap.lt_size e) (Nat.le_trans I.ok.bsz z)) (Nat.lt_irrefl _)
  · rcases List.mem_cons.mp (I.stkSub b hs) with z | z
    · exact (hf b hb).2.1 z
    · exact (hf b hb).2.2.1 z
  · have e1q:N'[i]?=some y:=e1
    by_cases hik:i < k
    · rw [List.getElem?_append_left (by simpa using hik),List.getElem?_replicate] at e2
      rw [if_pos hik] at e2
      cases e2
    obtain ⟨i,rfl⟩:∃ d,i=k + d:=⟨i - k,by omega⟩
    have e2':σ[i]?=some (some v):=by
      rw [List.getElem?_append_right (by simp)] at e2
      simpa using e2
    have hvis:∃ k,(relabel scope X.env).names.lookup y=some k:=by
      rcases e3 with z | z | z
      · exact ⟨_,z⟩
      · exact ⟨_,z⟩
      · exact ⟨_,z⟩
    obtain ⟨k,ek⟩:=hvis
    obtain ⟨k0,e0,r⟩:=rel_look ek
    rcases S.cap i y e1q with ⟨e1',hc⟩ | z0
    case inr=>rw [z0] at e0; cases e0
    unfold capOk at hc
    rw [e0] at hc
    have kf:k0=.free:=by cases k0 <;> simp_all
    subst kf
    have hkk:X.env.kindOf y=some .cell ∨ X.env.kindOf y=some .free:=by simpa using hc
    obtain ⟨m0,hn0,hl0⟩:=I.loc
    obtain ⟨u,ru,l⟩:=hl0 i y v e1' e2' (.inr hkk)
    refine ⟨u,ru,.inr ?_⟩
    obtain ⟨c',hc'⟩:=hall (y,.free) (free_mem e0) rfl
    rcases l with ⟨z,_⟩ | ⟨_,c,ec,⟨o,ho',hd'⟩⟩
    · rcases hkk with q | q <;> rw [z] at q <;> cases q
    · have e4:=hsub y c' hc'
      rw [ec] at e4
      have e5:c=c':=Option.some.inj e4
      subst e5
      refine ⟨?_,c,hc',o,hk _ _ ho',hd'⟩
      rcases r with r | r
      · subst r
        exact .inr ek
      · obtain ⟨_,r⟩:=r
        subst r
        exact .inl ek
  · obtain ⟨v,o,ho',hd'⟩:=I.cell y c (hsub y c e)
    exact ⟨v,o,hk _ _ ho',hd'⟩
  · have hp':p ∈ X.pn ++ pins:=by simpa using hp
    obtain ⟨e,n,ne,nf,d⟩:=I.pin p hp'
    refine ⟨hk _ _ e,n,Nat.ne_of_lt (Heap.lt_size e),fun z=>?_,d⟩
    rcases List.mem_cons.mp (I.stkSub p.1 z) with q | q
    · exact ne q
    · exact nf q
  · show (List.replicate k none ++ σ).length=N'.length
    rw [S.len,List.length_append,List.length_replicate,I.len]
def CompGoN (J:It) (H1:Hp) (k:Nat) (σ:St) (g:TG) (tt:TT) (te:TE) (Q:VK):Prop:=∀ D,H1 D=none→∃ W:Nat→Nat→Hp→Prop,(∃ m,W 0 m (upd H1 D (.lst [])))∧∀ i m H,W i m H →
  (J.stop i H∧Q (.ref D) H) ∨ (J.go i H∧∀ x H' ρ,ρ.length=k→J.yld i H x H'→g x (ρ ++ σ) H' fun σ2 H2=>(∃ ρ2:St,ρ2.length=k∧σ2=ρ2 ++ σ)∧tt σ2 H2 fun b H3=>if b=true then te σ2 H3 fun y H4=>∃ ys,H4 D=some (.lst ys)∧ys.length < sizeLine∧∃ m',m' < m∧W (i + 1) m' (upd H4 D (.lst (ys ++ [y])))
    else ∃ m',m' < m∧W (i + 1) m' H3)
def tCompN (wi:TI) (k:Nat) (g:TG) (tt:TT) (te:TE):TE:=fun σ H Q=>wi σ H fun J H1=>CompGoN J H1 k σ g tt te Q
section
variable {X:Cx} {k:Nat} {N':List Str} {tg:Expr} {pos:Pos} {elt iter:Expr} {ifs:List Expr} {scope:Scope} {wi:TI} {g:TG} {tt:TT} {te:TE}
theorem compN_core {pins:List (Addr × Obj)} {σ:St} {H2:Hp} {s2:Shared} {it:Addr} {fp:List Addr} {tn:Nat→Heap→Prop} {J:It} {Q:VK} {cl:List (Str × Addr)} {E:Value→Shared→Prop} {RR:Value→Addr→Result→Shared→Prop}
    (S:CompScN X k N' scope) (hcal:X.calm=true) (hclos:(∀ y c,cl.lookup y=some c→X.env.cells.lookup y=some c)∧∀ y ∈ scope.names,y.2=.free→∃ c,cl.lookup y.1=some c)
    (hg:∀ cl C fp s H,PG (X.compN N' scope cl C fp s H) tg g) (ht:∀ cl C fp s H,PTs (X.compN N' scope cl C fp s H) ifs tt) (he:∀ cl C fp s H,PE (X.compN N' scope cl C fp s H) elt te)
    (I2:Inv X pins σ H2 s2) (T:Turn X.prog X.w X.K tg J fp it tn) (st2:tn 0 s2.heap) (f2:∀ b ∈ fp,FpOk X pins H2 b)
    (q:CompGoN J H2 k σ g tt te Q)
    (hRR:∀ D C s' H' m',Inv X pins σ H' s'→s'.heap.Ns C m'→FpOk X pins H' C→Q (.ref D) H'→RR (.ref D) C (.ok .next) s') :
    wpAny (model X.prog X.w) X.A (newList []) (fun acc s3=>wpAny (model X.prog X.w) X.A (newFunctionEnv scope X.env.globals cl [] X.env.qual none .none (some X.env)) (fun cenv s4 =>
      codeAny (model X.prog X.w) X.A (.compStart (.ListComp elt [⟨tg,iter,ifs,0⟩] scope pos) 0 (.ref it) acc { cenv with scope:=relabel scope X.env }) (RR acc cenv.locals) s4) E s3) E s2:=by
  obtain ⟨hsub,hall⟩:=hclos
  refine wpAny_newObj_type (wpAny_newFunctionEnv S.cell (by intro y hy; simp at hy) (fun h1 hns hsb=>?_) S.kind)
  have I3:Inv X pins σ (upd H2 s2.heap.objs.size (.lst [])) { s2 with heap:=s2.heap.push { cls:=.type "list",data:=.seq ([]:List Value).toArray } }:=I2.lnew (t':=s2.toks) .nil (by simp)
  have hD:H2 s2.heap.objs.size=none:=I2.fresh
  obtain ⟨W,⟨m0,w0⟩,turn⟩:=q _ hD
  generalize hs3:({ s2 with heap:=s2.heap.push { cls:=.type "list",data:=.seq ([]:List Value).toArray } }:Shared)=s3 at I3
  have hs3':({ s2 with heap:=s2.heap.push { cls:=.type "list",dict:=none,data:=.seq ([]:List Value).toArray } }:Shared)=s3:=hs3
  dsimp only at hns hsb ⊢
  generalize hDD:s2.heap.objs.size=D at *
  have eh:s2.heap.push { cls:=.type "list",dict:=none,data:=.seq ([]:List Value).toArray }=s3.heap:=by rw [← hs3]
  rw [eh] at hns hsb
  have keep:∀ b o,s3.heap.get? b=some o→h1.get? b=some o:=fun b o e=>hsb.extBut b o (Nat.ne_of_lt (Heap.lt_size e)) (Heap.get?_push_of_some _ e)
  have objs:∀ b ∈ fp,∃ o,s3.heap.get? b=some o:=fun b hb=>by
    obtain ⟨o,e,_⟩:=T.obj _ _ st2 b hb
    rw [← eh]
    exact ⟨o,Heap.get?_push_of_some _ e⟩
  have f3:∀ b ∈ fp,FpOk X pins (upd H2 D (.lst [])) b:=fun b hb=>by
    obtain ⟨o,e,_⟩:=T.obj _ _ st2 b hb
    have ne:b ≠ D:=by rw [← hDD]; exact Nat.ne_of_lt (Heap.lt_size e)
    exact ⟨by rw [upd_ne ne]; exact (f2 b hb).1,(f2 b hb).2⟩
  have I4:Inv (X.compN N' scope cl s3.heap.objs.size fp s3 (upd H2 D (.lst []))) (X.pn ++ pins) (List.replicate k none ++ σ) (upd H2 D (.lst [])) { s3 with heap:=h1,toks:=s3.toks + ([]:List (Str × Value)).length }:=compN_inv S I3 hns keep f3 objs hsub hall
  have st4:tn 0 h1:=T.keep _ _ _ st2 fun b hb o e=>keep b o (by rw [← eh]; exact Heap.get?_push_of_some _ e)
  -- what stays true of the iterator's objects
  have stat:∀ {H':Hp},(∀ b ∈ fp,H' b=none)→∀ b ∈ fp,FpOk (X.compN N' scope cl s3.heap.objs.size fp s3 (upd H2 D (.lst []))) (X.pn ++ pins) H' b:=fun hn b hb=>by
    refine ⟨hn b hb,(I4.ok.exf b hb).1,I4.ok.exfs b hb,.inl hb,(I4.ok.exf b hb).2,fun p hp=>(f3 b hb).2.2.2.2.2 p (by simpa using hp)⟩
  have loop:codeAny (model X.prog X.w) X.A (.compLoop (.ListComp elt [⟨tg,iter,ifs,0⟩] scope pos) 0 (.ref it) (.ref D) (compEnvC scope cl s3.heap.objs.size X.env)) (RR (.ref D) s3.heap.objs.size) { s3 with heap:=h1,toks:=s3.toks + ([]:List (Str × Value)).length }:=by
    refine comp_loop_go (fun n s'=>∃ i ρ H',Inv (X.compN N' scope cl s3.heap.objs.size fp s3 (upd H2 D (.lst []))) (X.pn ++ pins) (ρ ++ σ) H' s'∧ρ.length=k∧tn i s'.heap∧(∀ b ∈ fp,H' b=none)∧W i n H') ?_ m0
      ⟨0,_,_,I4,by simp,st4,fun b hb=>(f3 b hb).1,w0⟩
    rintro n s5 ⟨i,ρ,H5,I5,lρ,st5,fr5,w5⟩
    rcases turn i n H5 w5 with ⟨stop,qn⟩ | ⟨go,step⟩
    · refine thn (T.done (X.compN N' scope cl s3.heap.objs.size fp s3 (upd H2 D (.lst []))) rfl rfl rfl hcal i _ s5 _ H5 _ I5 (stat fr5) st5 stop) fun r s6 ⟨hr,I6⟩=>?_
      subst hr
      obtain ⟨m6,hn6,_⟩:=I6.loc
      have I7:Inv X pins σ H5 s6:=I3.call' (ch:=fp) I6.os I6.base I6.hok I6.bare fun b hb=>⟨(f3 b hb).2.2.2.1,(f3 b hb).2.1,(f3 b hb).2.2.2.2.1,(f3 b hb).2.2.2.2.2⟩
      exact hRR D s3.heap.objs.size s6 H5 m6 I7 hn6 (I3.fpOk (Nat.le_refl _) I6.free) qn
    · refine thn (T.item (X.compN N' scope cl s3.heap.objs.size fp s3 (upd H2 D (.lst []))) rfl rfl rfl hcal i _ s5 _ H5 _ I5 (stat fr5) st5 go) fun r s6 ⟨u,hr,h6⟩=>?_
      subst hr
      refine thn h6 fun _ s7 ⟨y,H7,I7,r7,y7,st7,fr7⟩=>?_
      have I7':=I7.pinned (stat fr7) (T.obj _ _ st7)
      refine thn (hg _ _ _ _ _ _ s7 (ρ ++ σ) H7 y u _ I7' r7 (step y H7 ρ lρ y7)) fun _ s8 ⟨σ8,H8,I8,⟨ρ2,l2,e8⟩,q8⟩=>?_
      subst e8
      refine thn (ht _ _ _ _ _ _ s8 _ H8 _ I8 q8) fun ok s9 ⟨H9,I9,q9⟩=>?_
      have back:∀ {H':Hp} {s':Shared} {m':Nat},Inv (X.compN N' scope cl s3.heap.objs.size fp s3 (upd H2 D (.lst []))) (X.pn ++ pins ++ pinsAt fp s7.heap) (ρ2 ++ σ) H' s'→m' < n→W (i + 1) m' H' →
          ∃ m,m < n∧∃ i ρ H',Inv (X.compN N' scope cl s3.heap.objs.size fp s3 (upd H2 D (.lst []))) (X.pn ++ pins) (ρ ++ σ) H' s'∧ρ.length=k∧tn i s'.heap∧(∀ b ∈ fp,H' b=none)∧W i m H':=fun {H' s' m'} I' hm w'=>by
        have pin:∀ b o,b ∈ fp→s7.heap.get? b=some o→s'.heap.get? b=some o∧H' b=none:=fun b o hb e=>by
          have z:=I'.pin (b,o) (List.mem_append_right _ (List.mem_append_right _ (mem_pinsAt hb e)))
          exact ⟨z.1,z.2.1⟩
        refine ⟨m',hm,i + 1,ρ2,H',I'.unpinned,l2,T.keep _ _ _ st7 fun b hb o e=>(pin b o hb e).1,fun b hb=>?_,w'⟩
        obtain ⟨o',e,_⟩:=T.obj _ _ st7 b hb
        exact (pin b o' hb e).2
      cases ok with
      | false =>
        rw [if_neg Bool.false_ne_true] at q9 ⊢
        obtain ⟨m',hm,w'⟩:=q9
        exact back I9 hm w'
      | true =>
        rw [if_pos rfl] at q9 ⊢
        refine thn (he _ _ _ _ _ _ s9 _ H9 _ I9 q9) fun v s10 ⟨z,H10,I10,r10,q10⟩=>?_
        obtain ⟨ys,e10,l10,m',hm,w'⟩:=q10
        refine thn (mt_append _ s10 _ H10 (.ref D) [z] (.ref D) [v] (fun _ H'=>H'=upd H10 D (.lst (ys ++ [z]))) I10 rfl (.cons r10 .nil) ⟨D,ys,z,rfl,rfl,e10,l10,rfl⟩) fun _ s11 ⟨_,H11,I11,_,e11⟩=>?_
        subst e11
        exact back I11 hm w'
  exact codeAny_compStart_list loop (T.self _ 0 _ _ _ st4 loop)
theorem pe_compN (S:CompScN X k N' scope) (hcal:X.calm=true) (hi:PI X tg iter wi) (hg:∀ cl C fp s H,PG (X.compN N' scope cl C fp s H) tg g) (ht:∀ cl C fp s H,PTs (X.compN N' scope cl C fp s H) ifs tt) (he:∀ cl C fp s H,PE (X.compN N' scope cl C fp s H) elt te)
    (hs:∀ x,foldedSetIterable iter X.env x=pure x:=by intro _; rfl):PE X (.ListComp elt [⟨tg,iter,ifs,0⟩] scope pos) (tCompN wi k g tt te):=by
  intro pins s σ H Q I h
  obtain ⟨cl,hcl,hc⟩:=clos_ok (env:=X.env) (scope:=scope) fun y hy hf=>I.ok.has y.1 (S.free y hy hf)
  rw [eval_ListComp]
  refine wpAny_comprehension_free (use:=none) rfl hs hcl S.kind S.names (thn (hi pins s σ H _ I h) fun xv s1 h1=>thn h1 fun itv s2 h2=>?_)
  obtain ⟨it,fp,tn,J,H2,e,I2,T,st2,f2,q⟩:=h2
  subst e
  refine compN_core (RR:=fun acc C=>compPost (model X.prog X.w) X.A X.xe none (EP X pins σ Q) acc C) S hcal hc hg ht he I2 T st2 f2 q ?_
  intro D C s' H' m' I' hn F' hq
  exact ⟨m',hn,fun h' sb=>⟨.ref D,H',I'.turned (t':=s'.toks) (fun b o hb e=>(sb.2 b hb).trans e) F'.1 F'.2.1 F'.2.2.2.1 F'.2.2.2.2.1 F'.2.2.2.2.2,rfl,hq⟩⟩
end
def compChkN (fs:Scope) (N:List Str) (k:Nat) (N':List Str) (scope:Scope):Bool :=
  decide (scope.kind=.function) && scope.names.all (fun y=>decide (y.2 ≠ .cell)) && scope.names.all (fun y=>decide (y.2=.local→scope.names.lookup y.1=some .local)) &&
  scope.names.all (fun y=>decide (y.2=.free→fs.names.lookup y.1=some .cell ∨ fs.names.lookup y.1=some .free)) && decide (N'.length=k + N.length) &&
  (List.range N.length).all (fun i=>match N'[k + i]?,N[i]? with
    | some y,some z=>(match scope.names.lookup y with
      | none=>true
      | some .free=>decide (y=z) && decide (fs.names.lookup y=some .cell ∨ fs.names.lookup y=some .free)
      | some _=>false)
    | _,_=>false)
theorem compScN_mk {X:Cx} {k:Nat} {N':List Str} {scope fs:Scope} {N:List Str} (hs:X.env.scope=fs) (hN:X.N=N) (c:compChkN fs N k N' scope=true):CompScN X k N' scope:=by
  subst hs hN
  unfold compChkN at c
  simp only [Bool.and_eq_true,List.all_eq_true,decide_eq_true_eq] at c
  obtain ⟨⟨⟨⟨⟨c1,c2⟩,c3⟩,c4⟩,c5⟩,c6⟩:=c
  refine ⟨c1,c2,c3,c4,c5,fun i y hy=>?_⟩
  have hi:k + i < N'.length:=(List.getElem?_eq_some_iff.mp hy).1
  have hi2:i < X.N.length:=by omega
  have q:=c6 i (List.mem_range.mpr hi2)
  rw [hy,List.getElem?_eq_getElem hi2] at q
  dsimp only at q
  unfold capOk
  cases e:scope.names.lookup y with
  | none=>exact .inr rfl
  | some kd =>
    rw [e] at q
    cases kd with
    | free =>
      have q2:y=X.N[i]∧(X.env.scope.names.lookup y=some .cell ∨ X.env.scope.names.lookup y=some .free):=by simpa using q
      refine .inl ⟨by rw [List.getElem?_eq_getElem hi2,q2.1],?_⟩
      show (X.env.kindOf y == some .cell || X.env.kindOf y == some .free)=true
      have e2:X.env.kindOf y=X.env.scope.names.lookup y:=rfl
      rw [e2]
      rcases q2.2 with z | z <;> rw [z] <;> rfl
    | _=>simp at q
end L2
namespace L2
open PySem PySem.Spec PyProof.Rows
section
variable {X:Cx} {pins:List (Addr × Obj)} {σ:St} {H:Hp} {s:Shared} {h':Heap}
theorem Inv.turnedL {t':Nat} {ch:List Addr} (I:Inv X pins σ H s) (k:∀ b u,b ∉ ch→s.heap.get? b=some u→h'.get? b=some u) (hch:∀ b ∈ ch,FpOk X pins H b):Inv X pins σ H { s with heap:=h',toks:=t' }:=by
  have nch:∀ b u,H b=some u→b ∉ ch:=fun b u e z=>by rw [(hch b z).1] at e; cases e
  refine I.step (g':=s.gens) (d':=s.drawn) (ch:=ch) (fun b hb=>⟨(hch b hb).2.2.2.1,(hch b hb).2.1,(hch b hb).2.2.2.2.1,(hch b hb).2.2.2.2.2⟩) (fun b o _ _ hc e _=>k b o hc e) (fun b o _ _ hc e _=>⟨o.slots,k b o hc e⟩)
    (fun _ _ _ _ n=>n) (fun b o hc e=>⟨o,k b o hc e⟩) (fun _ _ e=>e) (fun _ _ _ e=>e) (fun b ps e=>⟨#[],by rw [e]; simp⟩) (fun m hm=>?_) (fun b u e=>?_) I.bare
  · obtain ⟨ob,es,ep,ho,r⟩:=hm
    exact ⟨ob,es,ep,k _ ob (fun z=>(hch _ z).2.1 rfl) ho,r⟩
  · refine (I.hok b u e).stay (fun c v hc q=>k c v ?_ q) (fun c q=>q) fun c xs q=>q
    rcases hc with z | z
    · rw [z]
      exact nch b u e
    · exact nch c _ z
end
def Itz (K:PySem.W.Frag) (a b:Addr):It :=
  ⟨fun i H=>∃ xs ys x y,SqL K H a xs∧SqL K H b ys∧xs[i]?=some x∧ys[i]?=some y,fun i H x H'=>∃ p u v,x=.ref p∧H p=none∧H'=upd H p (.tup [u,v])∧(∀ xs,SqL K H a xs→xs[i]?=some u)∧∀ ys,SqL K H b ys→ys[i]?=some v,
    fun i H=>∃ xs ys,SqL K H a xs∧SqL K H b ys∧(xs.length ≤ i ∨ ys.length ≤ i)⟩
theorem turn_zip {P:Program} {w:World} {K:PySem.W.Frag} {es:List Expr} {kk:Nat} {pt:Pos} {z TI TO i1 i2 a b:Addr} (D:ZipApart z TI TO i1 i2 a b) :
    Turn P w K (.Tuple es kk pt) (Itz K a b) [z,TI,TO,i1,i2] z (fun i h=>IsZip h z TI TO .none∧IsPair h TI (.ref i1) (.ref i2)∧(∃ u v,IsPair h TO u v)∧h.IsListIter i1 a i∧h.IsListIter i2 b i) where
  mem:=by simp
  obj:=fun i h st c hc=>by
    obtain ⟨hz,hTI,⟨u,v,hTO⟩,⟨o1,h1,c1,d1⟩,⟨o2,h2,c2,d2⟩⟩:=st
    simp only [List.mem_cons,List.not_mem_nil,or_false] at hc
    rcases hc with q | q | q | q | q <;> subst q
    · exact ⟨_,hz,fun v q=>by cases q⟩
    · exact ⟨_,hTI,fun v q=>by cases q⟩
    · exact ⟨_,hTO,fun v q=>by cases q⟩
    · exact ⟨o1,h1,fun v q=>by rw [d1] at q; cases q⟩
    · exact ⟨o2,h2,fun v q=>by rw [d2] at q; cases q⟩
  keep:=fun i h h' st kk=>by
    obtain ⟨hz,hTI,⟨u,v,hTO⟩,⟨o1,h1,c1⟩,⟨o2,h2,c2⟩⟩:=st
    exact ⟨kk z (by simp) _ hz,kk TI (by simp) _ hTI,⟨u,v,kk TO (by simp) _ hTO⟩,⟨o1,kk i1 (by simp) _ h1,c1⟩,⟨o2,kk i2 (by simp) _ h2,c2⟩⟩
  item:=by
    intro X hP hw hK hc i pins s σ H E I hf st hg
    subst hP hw hK
    obtain ⟨xs,ys,x,y,hqa,hqb,hx,hy⟩:=hg
    obtain ⟨its,rv,p,hz1⟩:=I.list hqa
    obtain ⟨u,hu,ru⟩:=rv.get hx
    obtain ⟨its2,rv2,p2,hz2⟩:=I.list hqb
    obtain ⟨v,hv,rv'⟩:=rv2.get hy
    obtain ⟨hz,hTI,⟨u0,v0,hTO⟩,hi1,hi2⟩:=st
    refine wpAny_pyNext_zip_item D hz hTI hTO hi1 hi2 p.isList p2.isList (x:=u) (y:=v) (by simpa using hu) (by simpa using hv) fun h' a1 a2 a3 a4 a5 a6 kp=>⟨_,rfl,?_⟩
    refine wpAny_letOwnedTupleGo_zip a1 fun g2 hz2' sb=>?_
    have lz:z < s.heap.objs.size:=Heap.lt_size hz
    have lTI:TI < s.heap.objs.size:=Heap.lt_size hTI
    have lTO:TO < s.heap.objs.size:=Heap.lt_size hTO
    have l1:i1 < s.heap.objs.size:=by obtain ⟨o,ho,_⟩:=hi1; exact Heap.lt_size ho
    have l2:i2 < s.heap.objs.size:=by obtain ⟨o,ho,_⟩:=hi2; exact Heap.lt_size ho
    have nT:H s.heap.objs.size=none:=I.fresh
    have tt2:g2.get? s.heap.objs.size=some { cls:=.type "tuple",data:=.seq #[u,v] }:=(sb.2 _ (Nat.ne_of_gt lz)).trans a5
    have I1:Inv X pins σ (upd H s.heap.objs.size (.tup [x,y])) { s with heap:=g2,toks:=s.toks }:=by
      refine I.turnedNew (t':=s.toks) (ch:=[z,TI,TO,i1,i2]) (fun c o hb q=>?_) hf (Nat.le_refl _) ⟨?_,[u,v],.cons ru (.cons rv' .nil),⟨_,tt2,rfl,0,rfl⟩⟩
      · simp only [List.mem_cons,List.not_mem_nil,or_false,not_or] at hb
        exact (sb.2 c hb.1).trans (kp c o hb.1 hb.2.2.1 hb.2.2.2.1 hb.2.2.2.2 q)
      · show 2 ≤ sizeLine
        decide
    refine ⟨.ref s.heap.objs.size,_,I1,rfl,⟨_,x,y,rfl,nT,rfl,fun zs hy'=>?_,fun zs hy'=>?_⟩,⟨hz2',?_,⟨u,v,?_⟩,?_,?_⟩,fun c hb=>?_⟩
    · rw [I.list_inj hy' hqa]
      exact hx
    · rw [I.list_inj hy' hqb]
      exact hy
    · exact (sb.2 TI D.TIz).trans (kp TI _ D.TIz D.TITO D.TIi1 D.TIi2 hTI)
    · exact (sb.2 TO D.TOz).trans a2
    · obtain ⟨o,ho,r⟩:=a3
      exact ⟨o,(sb.2 i1 D.i1z).trans ho,r⟩
    · obtain ⟨o,ho,r⟩:=a4
      exact ⟨o,(sb.2 i2 D.i2z).trans ho,r⟩
    · have hb':=(hf c hb).1
      simp only [List.mem_cons,List.not_mem_nil,or_false] at hb
      rcases hb with q | q | q | q | q <;> subst q
      · rw [upd_ne (Nat.ne_of_lt lz)]; exact hb'
      · rw [upd_ne (Nat.ne_of_lt lTI)]; exact hb'
      · rw [upd_ne (Nat.ne_of_lt lTO)]; exact hb'
      · rw [upd_ne (Nat.ne_of_lt l1)]; exact hb'
      · rw [upd_ne (Nat.ne_of_lt l2)]; exact hb'
  done:=by
    intro X hP hw hK hc i pins s σ H E I hf st hg
    subst hP hw hK
    obtain ⟨xs,ys,hqa,hqb,hend⟩:=hg
    obtain ⟨its,rv,p,hz1⟩:=I.list hqa
    obtain ⟨its2,rv2,p2,hz2⟩:=I.list hqb
    obtain ⟨hz,hTI,⟨u0,v0,hTO⟩,hi1,hi2⟩:=st
    have l1:=rv.length
    have l2:=rv2.length
    refine wpAny_pyNext_zip_end (I.ok.hd hc) D hz hTI hTO hi1 hi2 p.isList p2.isList ?_ fun h' kp=>⟨rfl,I.turnedL (t':=s.toks) (ch:=[z,TI,TO,i1,i2]) (fun c o hb q=>?_) hf⟩
    · rcases hend with q | q
      · exact .inl (by simp; omega)
      · exact .inr (by simp; omega)
    · simp only [List.mem_cons,List.not_mem_nil,or_false,not_or] at hb
      exact kp c o hb.1 hb.2.2.1 hb.2.2.2.1 hb.2.2.2.2 q
  self:=fun _ _ _ _ _ st h=>wpAny_pyIter_zip st.1 h
section
variable {X:Cx} {es:List Expr} {kk:Nat} {pt:Pos}
def iZip (K:PySem.W.Frag) (ta:TA):TI:=fun σ H R=>ta σ H fun vs H1=>∃ a b,vs=[.ref a,.ref b]∧(∃ xs,SqL K H1 a xs)∧(∃ ys,SqL K H1 b ys)∧R (Itz K a b) H1
theorem pi_zip {l m:Expr} {ta:TA} {p pos:Pos} (hg:Gl X "zip") (hm:X.mg "zip"=none) (ha:PA X [l,m] ta) (hs:starEach [l,m] X.env=[(false,eval l X.env),(false,eval m X.env)]:=by rfl) (hs2:starEach [m] X.env=[(false,eval m X.env)]:=by rfl) :
    PI X (.Tuple es kk pt) (.Call (.Name "zip" p) [l,m] [] pos) (iZip X.K ta):=by
  intro pins s σ H R I h
  refine Call_ (ld_blt I hg hm PyProof.Rows.boot_zip (PyProof.Rows.callWith_type1 (thn (ha pos pins s σ H _ I h) fun us s1 ⟨vs,H1,I1,r1,q1⟩=>?_) (by rw [hs,hs2]) (by rw [hs2]; rfl)))
  obtain ⟨a,b,e1,⟨xs,hqa⟩,⟨ys,hqb⟩,q⟩:=q1
  subst e1
  obtain ⟨u,v,e1,r3,r4⟩:=vals2 r1
  subst e1
  obtain rfl:u=Value.ref a:=r3
  obtain rfl:v=Value.ref b:=r4
  obtain ⟨its,rv,pl,hz⟩:=I1.list hqa
  obtain ⟨its2,rv2,pl2,hz2⟩:=I1.list hqb
  have la:a < s1.heap.objs.size:=by obtain ⟨o,ho,_⟩:=pl.isList; exact Heap.lt_size ho
  have lb:b < s1.heap.objs.size:=by obtain ⟨o,ho,_⟩:=pl2.isList; exact Heap.lt_size ho
  refine call_zip_2 pl.isList pl2.isList fun h' hz hTI hTO hi1 hi2 hsz kp=>?_
  have I3:Inv X pins σ H1 { s1 with heap:=h' }:=I1.kept (t':=s1.toks) kp
  refine wpAny_pyIter_zip hz ⟨s1.heap.objs.size + 4,[s1.heap.objs.size + 4,s1.heap.objs.size + 2,s1.heap.objs.size + 3,s1.heap.objs.size,s1.heap.objs.size + 1],_,_,H1,rfl,I3,turn_zip (zipApart_new la lb),⟨hz,hTI,⟨_,_,hTO⟩,hi1,hi2⟩,fun c hb=>?_,q⟩
  have ge:s1.heap.objs.size ≤ c:=by
    simp only [List.mem_cons,List.not_mem_nil,or_false] at hb
    rcases hb with q | q | q | q | q <;> rw [q]
    · exact Nat.le_add_right _ _
    · exact Nat.le_add_right _ _
    · exact Nat.le_add_right _ _
    · exact Nat.le_refl _
    · exact Nat.le_add_right _ _
  exact I1.fpOk ge (I1.hok.fresh ge)
end
end L2
namespace L2
open PySem PySem.Spec PyProof.Rows
section
variable {M:Model} {A:Around} {E:Value→Shared→Prop} {s:Shared} {env:Env}
theorem callWith_bK {pos:Pos} {T:String} {e:Expr} {rest:List Expr} {kws:List Keyword} {Q:Value→Shared→Prop}
    (h:wpAny M A (spliced (backTo pos (starEach (e :: rest) env))) (fun vs s1=>wpAny M A (evalAll ((backToKw pos (keywordEach kws env)).map (·.2)))
      (fun kvs s2=>wpAny M A (call (.builtin T) vs (((backToKw pos (keywordEach kws env)).filterMap (·.1)).zip kvs)) Q E s2) E s1) E s)
    (he:backTo pos (starEach (e :: rest) env)=(false,eval e env) :: backTo pos (starEach rest env):=by rfl) (hpl:(backTo pos (starEach (e :: rest) env)).any (·.1)=false:=by rfl)
    (hall:(backToKw pos (keywordEach kws env)).all (·.1.isSome)=true:=by rfl) (hkw:(backToKw pos (keywordEach kws env)).any (·.1.isNone)=false:=by rfl) :
    wpAny M A (callWith pos (.builtin T) [] (backTo pos (starEach (e :: rest) env)) (backToKw pos (keywordEach kws env))) Q E s:=by
  have h2:wpAny M A (evalArgs (.builtin T) true (backTo pos (starEach (e :: rest) env)) (backToKw pos (keywordEach kws env))) (fun a s1=>wpAny M A (call (.builtin T) ([] ++ a.pos) a.kw) Q E s1) E s:=by
    rw [he] at h ⊢
    exact evalArgs_kwB hall h
  unfold callWith
  refine wpAny_bind (wpAny_holding (wpAny_mono h2 (fun a s1 h1=>wpAny_bind (wpAny_standAt ?_)) fun _ _ z=>z))
  simp only [hpl,hkw,Bool.or_false]
  exact wpAny_bind (wpAny_pure (wpAny_bind (wpAny_mono h1 (fun r s2 hr=>wpAny_bind (wpAny_holding (wpAny_point (wpAny_pure hr)))) fun _ _ z=>z)))
end
theorem same_none {H H':Hp} {b:Addr} (s:Same H H') (h:H' b=none):H b=none:=by
  cases e:H b with
  | none=>rfl
  | some u=>rw [s b u e] at h; cases h
section
variable {X:Cx} {pins:List (Addr × Obj)} {σ:St}
end
section
variable {X:Cx}
end
section
variable {X:Cx} {pins:List (Addr × Obj)} {σ:St}
end
section
variable {X:Cx}
end
end L2
namespace L2
open PySem PySem.Spec PyProof.Rows
abbrev gTwo (K:PySem.W.Frag):TG:=gTup K 2 (gCons (gName 0) (gCons (gName 1) gNil))
theorem Same.put1 {H H2:Hp} {l:Addr} {o:HO} (s:Same H H2) (hn:H l=none):Same H (upd H2 l o):=fun b u e=>by
  rw [upd_ne (ne_of_none e hn)]
  exact s b u e
theorem range_filter_succ {α:Type} (n:Nat) (c:Nat→Bool) (f:Nat→α):((List.range (n + 1)).filter c).map f=((List.range n).filter c).map f ++ (if c n=true then [f n] else []):=by
  rw [List.range_succ,List.filter_append,List.map_append]
  by_cases h:c n=true
  · rw [if_pos h,List.filter_cons_of_pos h]; rfl
  · rw [if_neg h,List.filter_cons_of_neg h]; rfl
theorem comp_zipP {K:PySem.W.Frag} {a b:Addr} {xs ys:List V} {tt:TT} {te:TE} {σ:St} {H:Hp} {Q:VK} (c:Nat→Bool) (f:Nat→V) (hA:SqL K H a xs) (hB:SqL K H b ys) (hn:min xs.length ys.length < sizeLine)
    (ht:∀ (i:Nat) (x y:V) (H':Hp) (Q':Bool→Hp→Prop),xs[i]?=some x→ys[i]?=some y→Same H H'→(∀ H'',Same H' H''→Q' (c i) H'')→tt (some x :: some y :: σ) H' Q')
    (he:∀ (i:Nat) (x y:V) (H':Hp) (Q':VK),c i=true→xs[i]?=some x→ys[i]?=some y→Same H H'→(∀ H'',Same H' H''→Q' (f i) H'')→te (some x :: some y :: σ) H' Q')
    (hd:∀ D H',H D=none→Same H H'→H' D=some (.lst (((List.range (min xs.length ys.length)).filter c).map f))→Q (.ref D) H'):CompGoN (Itz K a b) H 2 σ (gTwo K) tt te Q:=by
  intro D hD
  refine ⟨fun i m H'=>m=min xs.length ys.length - i∧i ≤ min xs.length ys.length∧Same H H'∧H' D=some (.lst (((List.range i).filter c).map f)),⟨_,rfl,Nat.zero_le _,Same.put1 (Same.refl H) hD,upd_same⟩,?_⟩
  rintro i m H' ⟨rfl,hi,s1,hl⟩
  have qa:=s1.seq hA
  have qb:=s1.seq hB
  by_cases hlt:i < min xs.length ys.length
  · have hx:i < xs.length:=by omega
    have hy:i < ys.length:=by omega
    refine .inr ⟨⟨xs,ys,xs[i],ys[i],qa,qb,by simp [hx],by simp [hy]⟩,fun x H2 ρ lρ y=>?_⟩
    obtain ⟨p,u,v,rfl,hp,rfl,yu,yv⟩:=y
    have eu:=yu xs qa
    have ev:=yv ys qb
    match ρ,lρ with
    | [r0,r1],_ =>
      have s2:Same H' (upd H' p (.tup [u,v])):=Same.put1 (Same.refl _) hp
      refine ⟨p,_,rfl,SqT.of upd_same,rfl,_,_,rfl,_,_,rfl,rfl,⟨[some u,some v],rfl,rfl⟩,?_⟩
      have s12:=Same.trans s1 s2
      have hl2:=s2 _ _ hl
      refine ht i u v _ _ eu ev s12 fun H3 s3=>?_
      have hl3:=s3 _ _ hl2
      have s13:=Same.trans s12 s3
      cases hc:c i with
      | true =>
        refine iteT (he i u v _ _ hc eu ev s13 fun H4 s4=>⟨_,s4 _ _ hl3,?_,_,Nat.sub_succ_lt_self _ _ hlt,rfl,hlt,Same.put1 (Same.trans s13 s4) hD,?_⟩)
        · rw [List.length_map]
          exact Nat.lt_of_le_of_lt (Nat.le_trans (List.length_filter_le _ _) (by rw [List.length_range]; omega)) hn
        · rw [upd_same,range_filter_succ,if_pos hc]
      | false =>
        refine iteF ⟨_,Nat.sub_succ_lt_self _ _ hlt,rfl,hlt,s13,?_⟩
        rw [hl3,range_filter_succ,if_neg (by rw [hc]; exact Bool.false_ne_true),List.append_nil]
  · have e:i=min xs.length ys.length:=by omega
    refine .inl ⟨⟨xs,ys,qa,qb,by omega⟩,?_⟩
    rw [e] at hl
    exact hd D H' hD s1 hl
end L2
namespace S2
open PySem L2
def RowsOf (H:Hp) (as:List Addr) (rows:List (List V)):Prop:=as.length=rows.length∧∀ (i:Nat) (p:Addr) (r:List V),as[i]?=some p→rows[i]?=some r→H p=some (.tup r)
theorem RowsOf.same {H H2:Hp} {as:List Addr} {rows:List (List V)} (h:RowsOf H as rows) (s:Same H H2):RowsOf H2 as rows:=⟨h.1,fun i p r e1 e2=>s _ _ (h.2 i p r e1 e2)⟩
theorem RowsOf.nil {H:Hp}:RowsOf H [] []:=⟨rfl,fun i p r e=>by simp at e⟩
theorem RowsOf.snoc {H H2:Hp} {as:List Addr} {rows:List (List V)} {p:Addr} {r:List V} (h:RowsOf H as rows) (s:Same H H2) (hp:H2 p=some (.tup r)):RowsOf H2 (as ++ [p]) (rows ++ [r]):=by
  refine ⟨by rw [List.length_append,List.length_append,h.1]; rfl,fun i q x e1 e2=>?_⟩
  by_cases hi:i < as.length
  · rw [List.getElem?_append_left hi] at e1
    rw [List.getElem?_append_left (by rw [← h.1]; exact hi)] at e2
    exact s _ _ (h.2 i q x e1 e2)
  · rw [List.getElem?_append_right (by omega)] at e1
    rw [List.getElem?_append_right (by rw [← h.1]; omega),← h.1] at e2
    cases e:i - as.length with
    | zero =>
      rw [e] at e1 e2
      cases e1
      cases e2
      exact hp
    | succ d=>rw [e] at e1; simp at e1
theorem RowsOf.get {H:Hp} {as:List Addr} {rows:List (List V)} (h:RowsOf H as rows) {i:Nat} {x:V} (e:(as.map V.ref)[i]?=some x):∃ p r,x=.ref p∧as[i]?=some p∧rows[i]?=some r∧H p=some (.tup r):=by
  rw [List.getElem?_map] at e
  cases e1:as[i]? with
  | none=>rw [e1] at e; cases e
  | some p =>
    rw [e1] at e
    have hi:i < rows.length:=by rw [← h.1]; exact get_lt e1
    exact ⟨p,rows[i],(Option.some.inj e).symm,rfl,by simp [hi],h.2 i p rows[i] e1 (by simp [hi])⟩
end S2
namespace L2
open PySem PySem.Spec PyProof.Rows
def Its (x:Str):It:=⟨fun i _=>i < x.cps.size,fun i H v H'=>H'=H∧∃ c,x.cps[i]?=some c∧v=.str ⟨#[c]⟩,fun i _=>x.cps.size ≤ i⟩
theorem turn_str {P:Program} {w:World} {K:PySem.W.Frag} {tg:Expr} {T:String} (hT:T="str_ascii_iterator" ∨ T="str_iterator") (it:Addr) (x:Str) (t:Tok):Turn P w K tg (Its x) [it] it (fun i h=>h.IsStrIter it T x t i∧i ≤ x.cps.size) where
  mem:=by simp
  obj:=fun i h st b hb=>by
    have e:b=it:=by simpa using hb
    subst e
    obtain ⟨⟨o,e,c,d⟩,_⟩:=st
    exact ⟨o,e,fun v z=>by rw [d] at z; cases z⟩
  keep:=fun i h h' st k=>by
    obtain ⟨⟨o,e,r⟩,hi⟩:=st
    exact ⟨⟨o,k it (by simp) o e,r⟩,hi⟩
  item:=by
    intro X hP hw hK hc i pins s σ H E I hf st hg
    subst hP hw hK
    obtain ⟨f0,f1,f2,f3,f4,f5⟩:=hf it (by simp)
    have W:Walks X.prog X.w X.A it [it] [it] x.cps.size (SignAt x) (fun i h=>h.IsStrIter it T x t i):=by
      rcases hT with rfl | rfl
      · exact Walks.strAscii (I.ok.hd hc) it x t
      · exact Walks.strWide (I.ok.hd hc) it x t
    have hg:i < x.cps.size:=hg
    refine W.item i s _ _ hg st.1 fun v h' tk hv st' kk=>?_
    obtain ⟨c,u,hcx,rfl⟩:=hv
    have I1:Inv X pins σ H { s with heap:=h',toks:=tk }:=I.turned (fun b o hb e=>kk b o (by simpa using hb) e) f0 f1 f3 f4 f5
    obtain ⟨o,e,cc,d⟩:=id st'
    exact ⟨_,rfl,go_of (s:={ s with heap:=h',toks:=tk }) e cc d (by rcases hT with rfl | rfl <;> decide) ⟨.str ⟨#[c]⟩,H,I1,⟨u,rfl⟩,⟨rfl,c,hcx,rfl⟩,⟨st',hg⟩,fun b hb=>(hf b hb).1⟩⟩
  done:=by
    intro X hP hw hK hc i pins s σ H E I hf st hg
    subst hP hw hK
    obtain ⟨f0,f1,f2,f3,f4,f5⟩:=hf it (by simp)
    have W:Walks X.prog X.w X.A it [it] [it] x.cps.size (SignAt x) (fun i h=>h.IsStrIter it T x t i):=by
      rcases hT with rfl | rfl
      · exact Walks.strAscii (I.ok.hd hc) it x t
      · exact Walks.strWide (I.ok.hd hc) it x t
    have hi:i=x.cps.size:=Nat.le_antisymm st.2 hg
    subst hi
    exact W.done s _ _ st.1 fun h' tk kk=>⟨rfl,I.turned (fun b o hb e=>kk b o (by simpa using hb) e) f0 f1 f3 f4 f5⟩
  self:=fun _ _ _ _ _ st h=>by
    rcases hT with rfl | rfl
    · exact wpAny_pyIter_striter_ascii st.1 h
    · exact wpAny_pyIter_striter_wide st.1 h
section
variable {X:Cx} {tg:Expr}
def iStr (tl:TE):TI:=fun σ H R=>tl σ H fun v H1=>∃ x,v=.str x∧R (Its x) H1
theorem pi_str {l:Expr} {tl:TE} (hl:PE X l tl):PI X tg l (iStr tl):=by
  intro pins s σ H R I h
  refine thn (hl pins s σ H _ I h) fun v s1 ⟨y,H1,I1,r1,q1⟩=>?_
  obtain ⟨x,e,q⟩:=q1
  subst e
  obtain ⟨t,rfl⟩:=r1
  cases ha:x.cps.all (· < 128)
  · refine wpAny_pyIter_wide ha ?_
    refine ⟨s1.heap.objs.size,[s1.heap.objs.size],_,_,H1,rfl,I1.kept (t':=s1.toks) fun b o e=>Heap.get?_push_of_some _ e,turn_str (.inr rfl) _ x t,⟨⟨_,Heap.get?_push_size _ rfl,rfl,rfl⟩,Nat.zero_le _⟩,fun b hb=>?_,q⟩
    have e:b=s1.heap.objs.size:=by simpa using hb
    subst e
    exact I1.fpOk (Nat.le_refl _) (I1.hok.fresh (Nat.le_refl _))
  · refine wpAny_pyIter_ascii ha ?_
    refine ⟨s1.heap.objs.size,[s1.heap.objs.size],_,_,H1,rfl,I1.kept (t':=s1.toks) fun b o e=>Heap.get?_push_of_some _ e,turn_str (.inl rfl) _ x t,⟨⟨_,Heap.get?_push_size _ rfl,rfl,rfl⟩,Nat.zero_le _⟩,fun b hb=>?_,q⟩
    have e:b=s1.heap.objs.size:=by simpa using hb
    subst e
    exact I1.fpOk (Nat.le_refl _) (I1.hok.fresh (Nat.le_refl _))
end
end L2
namespace L2
open PySem PySem.Spec PyProof.Rows
section
variable {X:Cx}
def rLeS:R2:=fun a b H Q=>∃ x y:Str,a=.str x∧b=.str y∧Q (.bl (!decide (y.cps.toList < x.cps.toList))) H
theorem op_leS:OpR X (compareOp .LtE) rLeS:=by
  intro pins s σ H x y v u Q I rx ry h
  obtain ⟨a,b,e1,e2,q⟩:=h
  subst e1 e2
  obtain ⟨t,rfl⟩:=rx
  obtain ⟨t',rfl⟩:=ry
  exact PySem.P.le_str ⟨.bl _,H,I,rfl,q⟩
end
end L2
namespace DW
open PySem
end DW
namespace L2
open PySem PySem.Spec PyProof.Rows
section
variable {X:Cx}
variable {o e:Expr} {es:List Expr} {to:TE} {t:TA} {name:Str} {apos cpos:Pos} {T id:String} {r:V→List V→Hp→VK→Prop}
end
end L2
namespace L2
open PySem PySem.Spec PyProof.Rows S2
theorem seq_abs {t u:TS} {D:Ends} {σ:St} {H:Hp} (h:∀ N:St→Hp→Prop,(∀ σ H,u D σ H→N σ H)→t { D with nx:=N } σ H):tSeq t u D σ H:=h _ fun _ _ x=>x
end L2
namespace L2
open PySem PySem.Spec PySem.W PyProof.Rows
section
variable {X:Cx} {o:Expr} {apos cpos p pos:Pos} {td:TE}
end
end L2
namespace L2
open PySem PySem.Spec PySem.W PyProof.Rows
section
variable {X:Cx} {o:Expr} {es:List Expr} {kk:Nat} {pt:Pos} {apos cpos:Pos} {td:TE}
end
end L2
namespace L2
open PySem PySem.Spec PySem.W PyProof.Rows
section
variable {X:Cx}
end
end L2
namespace DV
open PySem PySem.W PyProof.Rows
section
variable (r:Nat→Int)
end
end DV
namespace DV
open PySem PySem.W PyProof.Rows
section
variable {n:Nat} (hn:0 < n)
end
end DV
namespace DV
open PySem PySem.W PyProof.Rows
section
variable {prog:Program} {w:World} {A:Around} {E:Value→Shared→Prop} {s:Shared}
end
end DV
namespace DV
open PySem PySem.W PyProof.Rows
section
variable {prog:Program} {w:World} {A:Around} {E:Value→Shared→Prop} {s:Shared}
end
end DV
namespace L2
open PySem PySem.Spec PySem.W PyProof.Rows
section
variable {X:Cx} {pins:List (Addr × Obj)} {σ:St} {E:Value→Shared→Prop}
end
end L2
namespace L2
open PySem PySem.Spec PySem.W PyProof.Rows
section
variable {X:Cx} {pins:List (Addr × Obj)} {σ:St} {H:Hp} {s:Shared} {h':Heap}
end
section
variable {X:Cx} {pins:List (Addr × Obj)} {σ:St} {E:Value→Shared→Prop}
end
end L2
namespace L2
open PySem PySem.Spec PySem.W PyProof.Rows
section
variable (p1 p2 p3 p4 p5 p6 p7:Pos) (k0:Nat)
end
end L2
namespace L2
open PySem PySem.Spec PySem.W PyProof.Rows
section
variable {X:Cx} {pins:List (Addr × Obj)} {σ:St} {H:Hp} {s:Shared} {h':Heap}
end
end L2
namespace L2
open PySem PySem.Spec PySem.W PyProof.Rows
theorem Rd.keep {H H':Hp} {a:Addr} {u:HO} (r:Rd H a u) (k:∀ o,H a=some o→H' a=some o):Rd H' a u:=by
  rcases r with r | ⟨o,r⟩
  · exact .inl (k _ r)
  · exact .inr ⟨o,k _ r⟩
section
variable {X:Cx} {l:Expr} {tl:TE} {p pos kpos lpos p1 p2 p3 p4 p5 p6 p7:Pos} {k0:Nat} {scope:Scope} {c0 P:Addr} {i:Nat}
end
end L2
namespace L2
open PySem PySem.Spec PySem.W PyProof.Rows
end L2
namespace L2
open PySem PySem.Spec PySem.W PyProof.Rows
section
variable {X:Cx} {o tg:Expr} {apos cpos:Pos} {td:TE}
end
end L2
namespace L2
open PySem PySem.Spec PySem.W PyProof.Rows
section
variable {X:Cx} {pins:List (Addr × Obj)} {σ:St} {H:Hp} {s:Shared}
end
end L2
namespace L2
open PySem PySem.Spec PySem.W PyProof.Rows
end L2
namespace DV
open PySem PySem.W PyProof.Rows
end DV
namespace L2
open PySem PySem.Spec PyProof.Rows S2
theorem any_getD:∀ bs:List Bool,((List.range bs.length).any fun i=>(bs[i]?).getD false)=bs.any id
  | []=>rfl
  | b :: bs=>by
    have ih:=any_getD bs
    rw [List.length_cons,List.range_succ_eq_map,List.any_cons,List.any_map,List.any_cons,← ih]
    rfl
section
variable {X:Cx}
def rAnyL (K:PySem.W.Frag):List V→Hp→VK→Prop:=fun xs H Q=>∃ (p:Addr) (bs:List Bool),xs=[.ref p]∧SqL K H p (bs.map V.bl)∧Q (.bl (bs.any id)) H
theorem call_anyL (hc:X.calm=true):CallR X (.builtin "any") (rAnyL X.K):=by
  intro pins s σ H xs us Q I r h
  obtain ⟨p,bs,e1,hS,q⟩:=h
  subst e1
  obtain ⟨u,e2,ru⟩:=vals1 r
  subst e2
  obtain rfl:u=Value.ref p:=ru
  obtain ⟨its,rv,pl,hz⟩:=I.list hS
  have hL:=pl.isList
  have lt:p < s.heap.objs.size:=by
    obtain ⟨_,e,_⟩:=hL
    exact Heap.lt_size e
  refine call_any_walk (wpAny_pyIter_list hL ?_)
  refine ⟨s.heap.objs.size,[s.heap.objs.size,p],[s.heap.objs.size],its.toArray.size,_,_,fun i=>(bs[i]?).getD false,rfl,Walks.list (A:=X.A.in1) (I.ok.hd hc) _ p (Nat.ne_of_lt lt) its.toArray,
    ⟨⟨_,Heap.get?_push_size _ rfl,rfl,rfl⟩,hL.push _⟩,fun i v s' Q' E' hP hQ=>?_,fun h' tk hk=>?_⟩
  · obtain ⟨b,e,e3⟩:=bl_at rv (by simpa using hP)
    subst e3
    simp only [e,Option.getD_some] at hQ
    exact wpAny_truthy_bool hQ
  · have e:((List.range its.toArray.size).any fun i=>(bs[i]?).getD false)=bs.any id:=by
      have hl:=rv.length
      rw [List.length_map] at hl
      rw [List.size_toArray,← hl,any_getD]
    rw [e]
    refine ⟨.bl _,H,I.kept (t':=tk) fun b o eb=>hk b o (fun hm=>?_) (Heap.get?_push_of_some _ eb),rfl,q⟩
    rw [List.mem_singleton.mp hm] at eb
    exact Nat.lt_irrefl _ (Heap.lt_size eb)
end
end L2
namespace L2
open PySem PySem.Spec PySem.W PyProof.Rows S2
section
variable {X:Cx} {o tg:Expr} {td:TE}
end
def IsIt (J:It) (H:Hp) (xs:List V):Prop :=
  (∀ i H',Same H H'→i < xs.length→J.go i H')∧(∀ H',Same H H'→J.stop xs.length H')∧∀ i x H' H'',Same H H'→J.yld i H' x H''→H''=H'∧xs[i]?=some x
theorem IsIt.list {K:PySem.W.Frag} {a:Addr} {H:Hp} {xs:List V} (h:SqL K H a xs):IsIt (Itl K a) H xs :=
  ⟨fun i H' s hi=>⟨xs,xs[i],s.seq h,by simp [hi]⟩,fun H' s=>⟨xs,s.seq h,Nat.le_refl _⟩,fun i x H' H'' s y=>by
    obtain ⟨e,y⟩:=y
    exact ⟨e,y xs (s.seq h)⟩⟩
theorem take_filter {α:Type} {l:List α} {c:α→Bool} {i:Nat} {x:α} (h:l[i]?=some x):(l.take (i + 1)).filter c=(l.take i).filter c ++ if c x=true then [x] else []:=by
  rw [List.take_succ,h,List.filter_append]
  congr 1
  cases hc:c x <;> simp [hc]
theorem comp_of {α:Type} {J:It} {l:List α} {tt:TT} {te:TE} {σ:St} {H:Hp} {Q:VK} (inj:α→V) (c:α→Bool) (f:α→V) (hJ:IsIt J H (l.map inj)) (hn:l.length < sizeLine)
    (ht:∀ (x:α) (H':Hp) (Q':Bool→Hp→Prop),x ∈ l→Same H H'→(∀ H'',Same H' H''→Q' (c x) H'')→tt (some (inj x) :: σ) H' Q')
    (he:∀ (x:α) (H':Hp) (Q':VK),c x=true→x ∈ l→Same H H'→(∀ H'',Same H' H''→Q' (f x) H'')→te (some (inj x) :: σ) H' Q')
    (hd:∀ D H',H D=none→Same H H'→H' D=some (.lst ((l.filter c).map f))→Q (.ref D) H'):CompGo J H σ tt te Q:=by
  intro D hD
  refine ⟨fun i m H'=>m=l.length - i∧i ≤ l.length∧Same H H'∧H' D=some (.lst (((l.take i).filter c).map f)),⟨_,rfl,Nat.zero_le _,Same.put1 (Same.refl H) hD,upd_same⟩,?_⟩
  rintro i m H' ⟨rfl,hi,s1,hl⟩
  by_cases hlt:i < l.length
  · refine .inr ⟨hJ.1 i H' s1 (by rw [List.length_map]; exact hlt),fun x H2 y=>?_⟩
    obtain ⟨e,eu⟩:=hJ.2.2 i x H' H2 s1 y
    subst e
    have ex:l[i]?=some l[i]:=List.getElem?_eq_getElem hlt
    rw [List.getElem?_map,ex] at eu
    cases eu
    have hm:=List.mem_of_getElem? ex
    generalize l[i]=x at *
    refine ht x _ _ hm s1 fun H3 s3=>?_
    have hl3:=s3 _ _ hl
    have s13:=Same.trans s1 s3
    cases hc:c x with
    | true =>
      refine iteT (he x _ _ hc hm s13 fun H4 s4=>⟨_,s4 _ _ hl3,?_,_,Nat.sub_succ_lt_self _ _ hlt,rfl,hlt,Same.put1 (Same.trans s13 s4) hD,?_⟩)
      · rw [List.length_map]
        exact Nat.lt_of_le_of_lt (Nat.le_trans (List.length_filter_le _ _) (by rw [List.length_take]; omega)) hn
      · rw [upd_same,take_filter ex,if_pos hc,List.map_append]
        rfl
    | false =>
      refine iteF ⟨_,Nat.sub_succ_lt_self _ _ hlt,rfl,hlt,s13,?_⟩
      rw [hl3,take_filter ex,if_neg (by rw [hc]; exact Bool.false_ne_true),List.append_nil]
  · have e:i=l.length:=by omega
    have:=hJ.2.1 H' s1
    rw [List.length_map] at this
    rw [e]
    refine .inl ⟨this,?_⟩
    rw [e,List.take_length] at hl
    exact hd D H' hD s1 hl
end L2
namespace B06
open PySem L2 S2
def top (i:Nat):Stmt:=PySem.Challenge.pw_boxgalley_k06_what_is_a_tree.main.body.getD i (.Pass ⟨0,0,0,0⟩)
abbrev sIsWhole:Stmt:=top 1
abbrev sIsBetween:Stmt:=top 2
abbrev sIsTupleOf:Stmt:=top 3
abbrev sIsOverWhat:Stmt:=top 11
abbrev sIsSide:Stmt:=top 23
abbrev sIsWordsWhat:Stmt:=top 29
abbrev sIsFlowWhat:Stmt:=top 31
abbrev sKindOf:Stmt:=top 45
abbrev sNameOf:Stmt:=top 46
abbrev sOwnOf:Stmt:=top 47
abbrev sWhatOf:Stmt:=top 48
abbrev sPartsOf:Stmt:=top 49
abbrev sAlikeOf:Stmt:=top 50
abbrev sIsName:Stmt:=top 51
abbrev sIsSize:Stmt:=top 52
abbrev sIsBounds:Stmt:=top 53
abbrev sIsOwn:Stmt:=top 54
abbrev sIsLeafWhat:Stmt:=top 55
abbrev sIsGap:Stmt:=top 56
abbrev sIsAlign:Stmt:=top 57
abbrev sIsLinedWhat:Stmt:=top 58
abbrev sIsSpan:Stmt:=top 59
abbrev sIsTableWhat:Stmt:=top 60
abbrev sIsWhat:Stmt:=top 61
abbrev sIsBox:Stmt:=top 62
abbrev sBadboxInit:Stmt:=inClass (top 65) 0
abbrev sIsFree:Stmt:=top 81
abbrev sFirstPlace:Stmt:=top 82
abbrev sTake:Stmt:=top 83
abbrev sPutCells:Stmt:=top 84
abbrev sRowsTaken:Stmt:=top 85
abbrev sSpansOf:Stmt:=top 87
abbrev sCellsOf:Stmt:=top 88
abbrev sTableRows:Stmt:=top 89
abbrev sNameTold:Stmt:=top 95
abbrev sMayBeAlike:Stmt:=top 96
abbrev sIsAmiss:Stmt:=top 97
abbrev sLookThrough:Stmt:=top 98
abbrev sCheckTree:Stmt:=top 99
abbrev sLawAt:Stmt:=top 101
abbrev sLawMixed:Stmt:=top 102
abbrev sLawDraws:Stmt:=top 103
abbrev sLawLabel:Stmt:=top 105
abbrev sLawSpan:Stmt:=top 106
abbrev sLawOwn:Stmt:=top 107
abbrev sLawLeaf:Stmt:=top 108
abbrev sLawWithin:Stmt:=top 109
abbrev sLawStep:Stmt:=top 110
abbrev sLawTree:Stmt:=top 111
abbrev sLawBoxes:Stmt:=top 112
abbrev sLawNamed:Stmt:=top 113
abbrev sLawBentOwn:Stmt:=top 114
abbrev sLawBent:Stmt:=top 115
abbrev sLawKept:Stmt:=top 116
abbrev sLawRefused:Stmt:=top 117
abbrev sLaw:Stmt:=top 118
structure Names (mg:Str→Option Value):Prop where
  len:mg "len"=none
  max:mg "max"=none
  list:mg "list"=none
  int:mg "int"=none
  inst:mg "isinstance"=none
  range:mg "range"=none
  all:mg "all"=none
  bool:mg "bool"=none
  sum:mg "sum"=none
  zip:mg "zip"=none
  str:mg "str"=none
  tuple:mg "tuple"=none
  ord:mg "ord"=none
  enum:mg "enumerate"=none
  any:mg "any"=none
structure Cst (K:PySem.W.Frag) (mg:Str→Option Value) (tk:Nat→Tok) (ad:Nat→Addr):Prop where
  cANCHOR_FARTHEST:mg "ANCHOR_FARTHEST"=some (.int 1000000 (tk 0))
  cOVER_PARTS:mg "OVER_PARTS"=some (.int 12 (tk 1))
  cJOINT_MOST:mg "JOINT_MOST"=some (.int 999 (tk 2))
  cPIECE_LONGEST:mg "PIECE_LONGEST"=some (.int 12 (tk 3))
  cWORD_PIECES:mg "WORD_PIECES"=some (.int 6 (tk 4))
  cWORDS_PIECES:mg "WORDS_PIECES"=some (.int 60 (tk 5))
  cFLOW_PARTS:mg "FLOW_PARTS"=some (.int 12 (tk 6))
  cFIRST_SIGN:mg "FIRST_SIGN"=some (.int 33 (tk 7))
  cLAST_SIGN:mg "LAST_SIGN"=some (.int 126 (tk 8))
  cPERCENT_SIGN:mg "PERCENT_SIGN"=some (.int 37 (tk 9))
  cBAR_SIGN:mg "BAR_SIGN"=some (.int 124 (tk 10))
  cNAME_LONGEST:mg "NAME_LONGEST"=some (.int 8 (tk 11))
  cSIZE_MOST:mg "SIZE_MOST"=some (.int 1000000 (tk 12))
  cWEIGHT_MOST:mg "WEIGHT_MOST"=some (.int 99 (tk 13))
  cRANK_MOST:mg "RANK_MOST"=some (.int 9 (tk 14))
  cALIKE_MOST:mg "ALIKE_MOST"=some (.int 9 (tk 15))
  cLINED_PARTS:mg "LINED_PARTS"=some (.int 20 (tk 16))
  cGAP_MOST:mg "GAP_MOST"=some (.int 1000 (tk 17))
  cTABLE_PARTS:mg "TABLE_PARTS"=some (.int 40 (tk 18))
  cTABLE_COLUMNS:mg "TABLE_COLUMNS"=some (.int 12 (tk 19))
  cSPAN_MOST:mg "SPAN_MOST"=some (.int 12 (tk 20))
  cBOXES_MOST:mg "BOXES_MOST"=some (.int 60 (tk 21))
  cDEEPEST:mg "DEEPEST"=some (.int 8 (tk 22))
  cTABLE_ROWS:mg "TABLE_ROWS"=some (.int 60 (tk 23))
  tANCHOR_WORDS:mg "ANCHOR_WORDS"=some (.ref (ad 0))
  sANCHOR_WORDS:∀ H:Hp,SqT K H (ad 0) [.str "start",.str "mid",.str "mid2",.str "end"]
  tSIDES:mg "SIDES"=some (.ref (ad 1))
  sSIDES:∀ H:Hp,SqT K H (ad 1) [.str "left",.str "right"]
  tLINED:mg "LINED"=some (.ref (ad 2))
  sLINED:∀ H:Hp,SqT K H (ad 2) [.str "row",.str "column",.str "wrap"]
  tALIGNS:mg "ALIGNS"=some (.ref (ad 3))
  sALIGNS:∀ H:Hp,SqT K H (ad 3) [.str "start",.str "end",.str "mid",.str "mid2"]
  tALIKE_KINDS:mg "ALIKE_KINDS"=some (.ref (ad 4))
  sALIKE_KINDS:∀ H:Hp,SqT K H (ad 4) [.str "leaf",.str "row",.str "column",.str "wrap"]
inductive D where
  | non
  | bl (b:Bool)
  | int (i:Int)
  | str (s:Str)
  | tup (l:List D)
  | oth
inductive At (K:PySem.W.Frag) (H:Hp):V→D→Prop
  | non:At K H .non .non
  | bl (b:Bool):At K H (.bl b) (.bl b)
  | int (i:Int):At K H (.int i) (.int i)
  | str (s:Str) (h:s.length ≤ sizeLine):At K H (.str s) (.str s)
  | tup {a:Addr} {xs:List V} {l:List D} (h:H a=some (.tup xs)) (hl:xs.length=l.length) (he:∀ (j:Nat) (x:V) (d:D),xs[j]?=some x→l[j]?=some d→At K H x d):At K H (.ref a) (.tup l)
  | oth {a:Addr} {es:List V} (h:H a=some (.lst es)):At K H (.ref a) .oth
theorem At.same {K:PySem.W.Frag} {H H':Hp} (s:Same H H') {v:V} {d:D} (h:At K H v d):At K H' v d:=by
  induction h with
  | non=>exact .non
  | bl b=>exact .bl b
  | int i=>exact .int i
  | str x h=>exact .str x h
  | tup h hl _ ih=>exact .tup (s _ _ h) hl ih
  | oth h=>exact .oth (s _ _ h)
def D.isInt:D→Bool
  | .int _=>true
  | .bl _=>true
  | _=>false
def D.isBool:D→Bool
  | .bl _=>true
  | _=>false
def D.isStr:D→Bool
  | .str _=>true
  | _=>false
def D.isTup:D→Bool
  | .tup _=>true
  | _=>false
theorem At.asInt {K:PySem.W.Frag} {H:Hp} {v:V} {d:D} (h:At K H v d):∃ T,TyOf K H v (.type T)∧PySem.W.kitOne K (.type T) (.type "int")=some d.isInt:=by
  cases h with
  | non=>exact ⟨_,.non,by rfl⟩
  | bl b=>exact ⟨_,.bl b,by rfl⟩
  | int i=>exact ⟨_,.int i,by rfl⟩
  | str x _=>exact ⟨_,.str x,by rfl⟩
  | tup h hl he=>exact ⟨_,.tup h,by rfl⟩
  | oth h=>exact ⟨_,.lst h,by rfl⟩
theorem At.asBool {K:PySem.W.Frag} {H:Hp} {v:V} {d:D} (h:At K H v d):∃ T,TyOf K H v (.type T)∧PySem.W.kitOne K (.type T) (.type "bool")=some d.isBool:=by
  cases h with
  | non=>exact ⟨_,.non,by rfl⟩
  | bl b=>exact ⟨_,.bl b,by rfl⟩
  | int i=>exact ⟨_,.int i,by rfl⟩
  | str x _=>exact ⟨_,.str x,by rfl⟩
  | tup h hl he=>exact ⟨_,.tup h,by rfl⟩
  | oth h=>exact ⟨_,.lst h,by rfl⟩
theorem At.asStr {K:PySem.W.Frag} {H:Hp} {v:V} {d:D} (h:At K H v d):∃ T,TyOf K H v (.type T)∧PySem.W.kitOne K (.type T) (.type "str")=some d.isStr:=by
  cases h with
  | non=>exact ⟨_,.non,by rfl⟩
  | bl b=>exact ⟨_,.bl b,by rfl⟩
  | int i=>exact ⟨_,.int i,by rfl⟩
  | str x _=>exact ⟨_,.str x,by rfl⟩
  | tup h hl he=>exact ⟨_,.tup h,by rfl⟩
  | oth h=>exact ⟨_,.lst h,by rfl⟩
theorem At.asTup {K:PySem.W.Frag} {H:Hp} {v:V} {d:D} (h:At K H v d):∃ T,TyOf K H v (.type T)∧PySem.W.kitOne K (.type T) (.type "tuple")=some d.isTup:=by
  cases h with
  | non=>exact ⟨_,.non,by rfl⟩
  | bl b=>exact ⟨_,.bl b,by rfl⟩
  | int i=>exact ⟨_,.int i,by rfl⟩
  | str x _=>exact ⟨_,.str x,by rfl⟩
  | tup h hl he=>exact ⟨_,.tup h,by rfl⟩
  | oth h=>exact ⟨_,.lst h,by rfl⟩
def D.between (d:D) (a b:Int):Bool:=match d with
  | .int i=>decide (a ≤ i) && decide (i ≤ b)
  | _=>false
def D.tupOf (d:D) (n:Int):Bool:=match d with
  | .tup l=>decide ((l.length:Int)=n)
  | _=>false
def spAsk1 (K:PySem.W.Frag) (f:D→Bool):Sp:=fun vs H Q _=>∃ (v:V) (d:D),vs=[v]∧At K H v d∧∀ H':Hp,Same H H'→Q (.bl (f d)) H'
def spAsk2 (K:PySem.W.Frag) (f:D→Int→Bool):Sp:=fun vs H Q _=>∃ (v:V) (d:D) (n:Int),vs=[v,.int n]∧At K H v d∧∀ H':Hp,Same H H'→Q (.bl (f d n)) H'
def spAsk3 (K:PySem.W.Frag) (f:D→Int→Int→Bool):Sp:=fun vs H Q _=>∃ (v:V) (d:D) (m n:Int),vs=[v,.int m,.int n]∧At K H v d∧∀ H':Hp,Same H H'→Q (.bl (f d m n)) H'
section
variable {P:Program} {w:World} {K:PySem.W.Frag} {mg:Str→Option Value} {base:Heap}
abbrev nIsWhole:List Str:=["thing"]
theorem scIsWhole:FnScope nIsWhole ["thing"] (defScope sIsWhole):=⟨rfl,rfl,rfl,by decide +kernel,rfl,by decide +kernel,by decide +kernel⟩
set_option maxHeartbeats 16000000 in
theorem ok_isWhole {f:Addr} {fd:FuncData} (F:Fun K "is_whole" "is_whole" sIsWhole f fd) (N:Names mg):FnOk P w K mg base CX0 1 f fd ["thing"] (spAsk1 K fun d=>d.isInt && !d.isBool):=by
  refine F.ok scIsWhole (fun vs H Q E h=>?_) (fun cdv A outer s H vs Q E hr h=>?_)
  · obtain ⟨v,d,e,_⟩:=h
    rw [e]
    rfl
  · obtain ⟨v,d,e,hv,k⟩:=h
    subst e
    refine ⟨_,pss_one (ps_ret (pe_and (pe_callB call_isinst (by rfl) N.inst PyProof.Rows.boot_isinstance (pa_cons (pv 0) (pa_cons (pe_bltn (v:=.ty "int") (by rfl) N.int PyProof.Rows.boot_int rfl (by decide)) pa_nil))) (pe_one (pe_not (pe_callB call_isinst (by rfl) N.inst PyProof.Rows.boot_isinstance (pa_cons (pv 0) (pa_cons (pe_bltn (v:=.ty "bool") (by rfl) N.bool PyProof.Rows.boot_bool rfl (by decide)) pa_nil))))))),?_⟩
    try rw [show (cxOf CX0 P w K mg base nIsWhole "is_whole" (defScope sIsWhole) f cdv A outer s H E).nox.K=K from rfl]
    obtain ⟨T,t1,t2⟩:=hv.asInt
    obtain ⟨T',u1,u2⟩:=hv.asBool
    refine ⟨_,rfl,_,"int",_,_,rfl,t1,t2,_,rfl,ite2 (fun h=>?_) (fun h=>?_)⟩
    · refine ⟨_,rfl,_,"bool",_,_,rfl,u1,u2,_,rfl,?_⟩
      have z:Q (.bl (d.isInt && !d.isBool)) H:=k H (Same.refl _)
      rw [h,Bool.true_and] at z
      exact z
    · have z:Q (.bl (d.isInt && !d.isBool)) H:=k H (Same.refl _)
      rw [Bool.eq_false_iff.mpr h,Bool.false_and] at z
      exact z
abbrev nIsBetween:List Str:=["thing","least","most"]
theorem scIsBetween:FnScope nIsBetween ["thing","least","most"] (defScope sIsBetween):=⟨rfl,rfl,rfl,by decide +kernel,rfl,by decide +kernel,by decide +kernel⟩
set_option maxHeartbeats 16000000 in
theorem ok_isBetween {f f1:Addr} {fd d1:FuncData} (F:Fun K "is_between" "is_between" sIsBetween f fd) (N:Names mg)
    (G1:FnOk P w K mg base CX0 1 f1 d1 ["thing"] (spAsk1 K fun d=>d.isInt && !d.isBool)) (b1:Binds K d1 ["thing"] []) (m1:mg "is_whole"=some (.ref f1)) (k1:PySem.W.keepIn K (.ref f1)=true):FnOk P w K mg base CX0 2 f fd ["thing","least","most"] (spAsk3 K D.between):=by
  refine F.ok scIsBetween (fun vs H Q E h=>?_) (fun cdv A outer s H vs Q E hr h=>?_)
  · obtain ⟨v,d,m,n,e,_⟩:=h
    rw [e]
    rfl
  · obtain ⟨v,d,m,n,e,hv,k⟩:=h
    subst e
    have hr1:=hr.mono (j:=1) (by decide)
    refine ⟨_,pss_one (ps_ret (pe_and (pe_call G1 hr1 (by rfl) m1 k1 b1 .nil pass0 (pa_cons (pv 0) pa_nil)) (pe_one (pe_chain op_le op_le (pv 1) (pv 0) (pv 2))))),?_⟩
    try rw [show (cxOf CX0 P w K mg base nIsBetween "is_between" (defScope sIsBetween) f cdv A outer s H E).nox.K=K from rfl]
    refine ⟨_,rfl,v,d,rfl,hv,fun H1 s1=>⟨_,rfl,ite2 (fun h=>?_) (fun h=>?_)⟩⟩
    · cases hv with
      | int i =>
        refine ⟨_,rfl,_,rfl,_,_,rfl,rfl,_,rfl,ite2 (fun q=>?_) (fun q=>?_)⟩
        · refine ⟨_,rfl,_,_,rfl,rfl,?_⟩
          have z:Q (.bl (decide (m ≤ i) && decide (i ≤ n))) H1:=k H1 s1
          rw [q,Bool.true_and] at z
          exact z
        · have z:Q (.bl (decide (m ≤ i) && decide (i ≤ n))) H1:=k H1 s1
          rw [Bool.eq_false_iff.mpr q,Bool.false_and] at z
          exact z
      | non=>cases h
      | bl b=>cases h
      | str x _=>cases h
      | tup _ _ _=>cases h
      | oth _=>cases h
    · have z:=k H1 s1
      have e:d.between m n=false:=by
        cases d <;> first | rfl | exact absurd rfl h
      rw [e] at z
      exact z
abbrev nIsTupleOf:List Str:=["thing","many"]
theorem scIsTupleOf:FnScope nIsTupleOf ["thing","many"] (defScope sIsTupleOf):=⟨rfl,rfl,rfl,by decide +kernel,rfl,by decide +kernel,by decide +kernel⟩
set_option maxHeartbeats 16000000 in
theorem ok_isTupleOf {f:Addr} {fd:FuncData} (F:Fun K "is_tuple_of" "is_tuple_of" sIsTupleOf f fd) (N:Names mg):FnOk P w K mg base CX0 1 f fd ["thing","many"] (spAsk2 K D.tupOf):=by
  refine F.ok scIsTupleOf (fun vs H Q E h=>?_) (fun cdv A outer s H vs Q E hr h=>?_)
  · obtain ⟨v,d,n,e,_⟩:=h
    rw [e]
    rfl
  · obtain ⟨v,d,n,e,hv,k⟩:=h
    subst e
    refine ⟨_,pss_one (ps_ret (pe_and (pe_callB call_isinst (by rfl) N.inst PyProof.Rows.boot_isinstance (pa_cons (pv 0) (pa_cons (pe_bltn (v:=.ty "tuple") (by rfl) N.tuple PyProof.Rows.boot_tuple rfl (by decide)) pa_nil))) (pe_one (pe_cmpR op_eq (pe_callB call_len_seq (by rfl) N.len PySem.boot_len (pa_cons (pv 0) pa_nil)) (pv 1) (nomark _))))),?_⟩
    try rw [show (cxOf CX0 P w K mg base nIsTupleOf "is_tuple_of" (defScope sIsTupleOf) f cdv A outer s H E).nox.K=K from rfl]
    obtain ⟨T,t1,t2⟩:=hv.asTup
    refine ⟨_,rfl,_,"tuple",_,_,rfl,t1,t2,_,rfl,ite2 (fun h=>?_) (fun h=>?_)⟩
    · cases hv with
      | @tup a xs l e hl he =>
        refine ⟨_,rfl,_,_,rfl,.inr (SqT.of e),_,rfl,rfl,?_⟩
        have z:Q (.bl (decide ((l.length:Int)=n))) H:=k H (Same.refl _)
        rw [← hl] at z
        have e9:decide (V.int (xs.length:Int)=V.int n)=decide ((xs.length:Int)=n):=decide_eq_decide.mpr ⟨fun y=>by injection y,fun y=>by rw [y]⟩
        rw [e9]
        exact z
      | non=>cases h
      | bl b=>cases h
      | int i=>cases h
      | str x _=>cases h
      | oth _=>cases h
    · have z:=k H (Same.refl _)
      have e:d.tupOf n=false:=by
        cases d <;> first | rfl | exact absurd rfl h
      rw [e] at z
      exact z
end
end B06
namespace B06
open PySem L2 S2
def spPart (K:PySem.W.Frag) (j:Nat):Sp:=fun vs H Q _=>∃ (v:V) (l:List D) (d:D),vs=[v]∧At K H v (.tup l)∧l[j]?=some d∧∀ x:V,At K H x d→Q x H
theorem At.part {K:PySem.W.Frag} {H:Hp} {v:V} {l:List D} (h:At K H v (.tup l)) {j:Nat} {d:D} (e:l[j]?=some d):∃ (a:Addr) (xs:List V) (x:V),v=.ref a∧SqT K H a xs∧atI xs (j:Int)=some x∧At K H x d:=by
  cases h with
  | @tup a xs l h hl he =>
    have hj:j < xs.length:=by rw [hl]; exact get_lt e
    have ex:=List.getElem?_eq_getElem hj
    exact ⟨a,xs,xs[j],rfl,SqT.of h,atI_nat ex,he j _ d ex e⟩
section
variable {P:Program} {w:World} {K:PySem.W.Frag} {mg:Str→Option Value} {base:Heap}
abbrev nKindOf:List Str:=["box"]
theorem scKindOf:FnScope nKindOf ["box"] (defScope sKindOf):=⟨rfl,rfl,rfl,by decide +kernel,rfl,by decide +kernel,by decide +kernel⟩
set_option maxHeartbeats 16000000 in
theorem ok_kindOf {f:Addr} {fd:FuncData} (F:Fun K "kind_of" "kind_of" sKindOf f fd) (N:Names mg):FnOk P w K mg base CX0 1 f fd ["box"] (spPart K 0):=by
  refine F.ok scKindOf (fun vs H Q E h=>?_) (fun cdv A outer s H vs Q E hr h=>?_)
  · obtain ⟨v,l,d,e,_⟩:=h
    rw [e]
    rfl
  · obtain ⟨v,l,d,e,hv,e0,k⟩:=h
    subst e
    refine ⟨_,pss_one (ps_ret (pe_ix ix_tup (pv 0) pe_int (fun _ _=>rfl))),?_⟩
    try rw [show (cxOf CX0 P w K mg base nKindOf "kind_of" (defScope sKindOf) f cdv A outer s H E).nox.K=K from rfl]
    obtain ⟨a,xs,x,rfl,h1,h2,h3⟩:=hv.part e0
    exact ⟨_,rfl,a,_,_,_,rfl,rfl,h1,h2,k x h3⟩
abbrev nNameOf:List Str:=["box"]
theorem scNameOf:FnScope nNameOf ["box"] (defScope sNameOf):=⟨rfl,rfl,rfl,by decide +kernel,rfl,by decide +kernel,by decide +kernel⟩
set_option maxHeartbeats 16000000 in
theorem ok_nameOf {f:Addr} {fd:FuncData} (F:Fun K "name_of" "name_of" sNameOf f fd) (N:Names mg):FnOk P w K mg base CX0 1 f fd ["box"] (spPart K 1):=by
  refine F.ok scNameOf (fun vs H Q E h=>?_) (fun cdv A outer s H vs Q E hr h=>?_)
  · obtain ⟨v,l,d,e,_⟩:=h
    rw [e]
    rfl
  · obtain ⟨v,l,d,e,hv,e0,k⟩:=h
    subst e
    refine ⟨_,pss_one (ps_ret (pe_ix ix_tup (pv 0) pe_int (fun _ _=>rfl))),?_⟩
    try rw [show (cxOf CX0 P w K mg base nNameOf "name_of" (defScope sNameOf) f cdv A outer s H E).nox.K=K from rfl]
    obtain ⟨a,xs,x,rfl,h1,h2,h3⟩:=hv.part e0
    exact ⟨_,rfl,a,_,_,_,rfl,rfl,h1,h2,k x h3⟩
abbrev nOwnOf:List Str:=["box"]
theorem scOwnOf:FnScope nOwnOf ["box"] (defScope sOwnOf):=⟨rfl,rfl,rfl,by decide +kernel,rfl,by decide +kernel,by decide +kernel⟩
set_option maxHeartbeats 16000000 in
theorem ok_ownOf {f:Addr} {fd:FuncData} (F:Fun K "own_of" "own_of" sOwnOf f fd) (N:Names mg):FnOk P w K mg base CX0 1 f fd ["box"] (spPart K 2):=by
  refine F.ok scOwnOf (fun vs H Q E h=>?_) (fun cdv A outer s H vs Q E hr h=>?_)
  · obtain ⟨v,l,d,e,_⟩:=h
    rw [e]
    rfl
  · obtain ⟨v,l,d,e,hv,e0,k⟩:=h
    subst e
    refine ⟨_,pss_one (ps_ret (pe_ix ix_tup (pv 0) pe_int (fun _ _=>rfl))),?_⟩
    try rw [show (cxOf CX0 P w K mg base nOwnOf "own_of" (defScope sOwnOf) f cdv A outer s H E).nox.K=K from rfl]
    obtain ⟨a,xs,x,rfl,h1,h2,h3⟩:=hv.part e0
    exact ⟨_,rfl,a,_,_,_,rfl,rfl,h1,h2,k x h3⟩
abbrev nWhatOf:List Str:=["box"]
theorem scWhatOf:FnScope nWhatOf ["box"] (defScope sWhatOf):=⟨rfl,rfl,rfl,by decide +kernel,rfl,by decide +kernel,by decide +kernel⟩
set_option maxHeartbeats 16000000 in
theorem ok_whatOf {f:Addr} {fd:FuncData} (F:Fun K "what_of" "what_of" sWhatOf f fd) (N:Names mg):FnOk P w K mg base CX0 1 f fd ["box"] (spPart K 3):=by
  refine F.ok scWhatOf (fun vs H Q E h=>?_) (fun cdv A outer s H vs Q E hr h=>?_)
  · obtain ⟨v,l,d,e,_⟩:=h
    rw [e]
    rfl
  · obtain ⟨v,l,d,e,hv,e0,k⟩:=h
    subst e
    refine ⟨_,pss_one (ps_ret (pe_ix ix_tup (pv 0) pe_int (fun _ _=>rfl))),?_⟩
    try rw [show (cxOf CX0 P w K mg base nWhatOf "what_of" (defScope sWhatOf) f cdv A outer s H E).nox.K=K from rfl]
    obtain ⟨a,xs,x,rfl,h1,h2,h3⟩:=hv.part e0
    exact ⟨_,rfl,a,_,_,_,rfl,rfl,h1,h2,k x h3⟩
abbrev nPartsOf:List Str:=["box"]
theorem scPartsOf:FnScope nPartsOf ["box"] (defScope sPartsOf):=⟨rfl,rfl,rfl,by decide +kernel,rfl,by decide +kernel,by decide +kernel⟩
set_option maxHeartbeats 16000000 in
theorem ok_partsOf {f:Addr} {fd:FuncData} (F:Fun K "parts_of" "parts_of" sPartsOf f fd) (N:Names mg):FnOk P w K mg base CX0 1 f fd ["box"] (spPart K 4):=by
  refine F.ok scPartsOf (fun vs H Q E h=>?_) (fun cdv A outer s H vs Q E hr h=>?_)
  · obtain ⟨v,l,d,e,_⟩:=h
    rw [e]
    rfl
  · obtain ⟨v,l,d,e,hv,e0,k⟩:=h
    subst e
    refine ⟨_,pss_one (ps_ret (pe_ix ix_tup (pv 0) pe_int (fun _ _=>rfl))),?_⟩
    try rw [show (cxOf CX0 P w K mg base nPartsOf "parts_of" (defScope sPartsOf) f cdv A outer s H E).nox.K=K from rfl]
    obtain ⟨a,xs,x,rfl,h1,h2,h3⟩:=hv.part e0
    exact ⟨_,rfl,a,_,_,_,rfl,rfl,h1,h2,k x h3⟩
end
def D.size (d:D):Bool:=d.between 0 1000000
def D.gap (d:D):Bool:=d.between 0 1000
def leD (a b:D):Bool:=match a,b with
  | .int i,.int j=>decide (i ≤ j)
  | _,_=>false
def D.bounds (d:D):Bool:=match d with
  | .tup [a,b]=>a.size && (b.size && leD a b)
  | _=>false
theorem tupOf_len {d:D} {n:Nat} (h:d.tupOf n=true):∃ l,d=.tup l∧l.length=n:=by
  cases d with
  | tup l =>
    have:=of_decide_eq_true (p:=(l.length:Int)=n) h
    exact ⟨l,rfl,by omega⟩
  | _=>cases h
theorem tup2 {d:D} (h:d.tupOf 2=true):∃ a b,d=.tup [a,b]:=by
  obtain ⟨l,rfl,e⟩:=tupOf_len (n:=2) h
  match l,e with
  | [a,b],_=>exact ⟨a,b,rfl⟩
theorem tup6 {d:D} (h:d.tupOf 6=true):∃ a b c e f g,d=.tup [a,b,c,e,f,g]:=by
  obtain ⟨l,rfl,e⟩:=tupOf_len (n:=6) h
  match l,e with
  | [a,b,c,e,f,g],_=>exact ⟨a,b,c,e,f,g,rfl⟩
theorem between_int {d:D} {m n:Int} (h:d.between m n=true):∃ i,d=.int i:=by
  cases d with
  | int i=>exact ⟨i,rfl⟩
  | _=>cases h
theorem bounds_no {d:D} (h:¬ d.tupOf 2=true):d.bounds=false:=by
  unfold D.bounds
  split
  · exact absurd rfl h
  · rfl
def D.own (d:D):Bool:=match d with
  | .tup [a,b,c,e,f,g]=>a.bounds && b.bounds && (c.between 0 99 && e.between 0 99) && (f.between 0 9 && g.between 0 9)
  | _=>false
theorem own_no {a b c e f g:D} (h:(a.bounds && b.bounds && (c.between 0 99 && e.between 0 99) && (f.between 0 9 && g.between 0 9))=false):D.own (.tup [a,b,c,e,f,g])=false:=h
theorem own_yes {a b c e f g:D} (h1:a.bounds=true) (h2:b.bounds=true) (h3:c.between 0 99=true) (h4:e.between 0 99=true) (h5:f.between 0 9=true):D.own (.tup [a,b,c,e,f,g])=g.between 0 9:=by
  show (a.bounds && b.bounds && (c.between 0 99 && e.between 0 99) && (f.between 0 9 && g.between 0 9))=_
  rw [h1,h2,h3,h4,h5]
  rfl
theorem own_no6 {d:D} (h:¬ d.tupOf 6=true):d.own=false:=by
  unfold D.own
  split
  · exact absurd rfl h
  · rfl
section
variable {P:Program} {w:World} {K:PySem.W.Frag} {mg:Str→Option Value} {base:Heap} {tk:Nat→Tok} {ad:Nat→Addr}
abbrev nIsSize:List Str:=["thing"]
theorem scIsSize:FnScope nIsSize ["thing"] (defScope sIsSize):=⟨rfl,rfl,rfl,by decide +kernel,rfl,by decide +kernel,by decide +kernel⟩
set_option maxHeartbeats 16000000 in
theorem ok_isSize {f f1:Addr} {fd d1:FuncData} (CC:Cst K mg tk ad) (F:Fun K "is_size" "is_size" sIsSize f fd) (N:Names mg)
    (G1:FnOk P w K mg base CX0 2 f1 d1 ["thing","least","most"] (spAsk3 K D.between)) (b1:Binds K d1 ["thing","least","most"] []) (m1:mg "is_between"=some (.ref f1)) (k1:PySem.W.keepIn K (.ref f1)=true):FnOk P w K mg base CX0 3 f fd ["thing"] (spAsk1 K D.size):=by
  refine F.ok scIsSize (fun vs H Q E h=>?_) (fun cdv A outer s H vs Q E hr h=>?_)
  · obtain ⟨v,d,e,_⟩:=h
    rw [e]
    rfl
  · obtain ⟨v,d,e,hv,k⟩:=h
    subst e
    have hr2:=hr.mono (j:=2) (by decide)
    refine ⟨_,pss_one (ps_ret (pe_call G1 hr2 (by rfl) m1 k1 b1 .nil pass0 (pa_cons (pv 0) (pa_cons pe_int (pa_cons (pe_glob (v:=.int 1000000) (by rfl) CC.cSIZE_MOST ⟨_,rfl⟩) pa_nil))))),?_⟩
    try rw [show (cxOf CX0 P w K mg base nIsSize "is_size" (defScope sIsSize) f cdv A outer s H E).nox.K=K from rfl]
    exact ⟨_,rfl,v,d,_,_,rfl,hv,k⟩
abbrev nIsGap:List Str:=["thing"]
theorem scIsGap:FnScope nIsGap ["thing"] (defScope sIsGap):=⟨rfl,rfl,rfl,by decide +kernel,rfl,by decide +kernel,by decide +kernel⟩
set_option maxHeartbeats 16000000 in
theorem ok_isGap {f f1:Addr} {fd d1:FuncData} (CC:Cst K mg tk ad) (F:Fun K "is_gap" "is_gap" sIsGap f fd) (N:Names mg)
    (G1:FnOk P w K mg base CX0 2 f1 d1 ["thing","least","most"] (spAsk3 K D.between)) (b1:Binds K d1 ["thing","least","most"] []) (m1:mg "is_between"=some (.ref f1)) (k1:PySem.W.keepIn K (.ref f1)=true):FnOk P w K mg base CX0 3 f fd ["thing"] (spAsk1 K D.gap):=by
  refine F.ok scIsGap (fun vs H Q E h=>?_) (fun cdv A outer s H vs Q E hr h=>?_)
  · obtain ⟨v,d,e,_⟩:=h
    rw [e]
    rfl
  · obtain ⟨v,d,e,hv,k⟩:=h
    subst e
    have hr2:=hr.mono (j:=2) (by decide)
    refine ⟨_,pss_one (ps_ret (pe_call G1 hr2 (by rfl) m1 k1 b1 .nil pass0 (pa_cons (pv 0) (pa_cons pe_int (pa_cons (pe_glob (v:=.int 1000) (by rfl) CC.cGAP_MOST ⟨_,rfl⟩) pa_nil))))),?_⟩
    try rw [show (cxOf CX0 P w K mg base nIsGap "is_gap" (defScope sIsGap) f cdv A outer s H E).nox.K=K from rfl]
    exact ⟨_,rfl,v,d,_,_,rfl,hv,k⟩
abbrev nIsBounds:List Str:=["thing"]
theorem scIsBounds:FnScope nIsBounds ["thing"] (defScope sIsBounds):=⟨rfl,rfl,rfl,by decide +kernel,rfl,by decide +kernel,by decide +kernel⟩
set_option maxHeartbeats 16000000 in
theorem ok_isBounds {f f1 f2:Addr} {fd d1 d2:FuncData} (F:Fun K "is_bounds" "is_bounds" sIsBounds f fd) (N:Names mg)
    (G1:FnOk P w K mg base CX0 1 f1 d1 ["thing","many"] (spAsk2 K D.tupOf)) (b1:Binds K d1 ["thing","many"] []) (m1:mg "is_tuple_of"=some (.ref f1)) (k1:PySem.W.keepIn K (.ref f1)=true)
    (G2:FnOk P w K mg base CX0 3 f2 d2 ["thing"] (spAsk1 K D.size)) (b2:Binds K d2 ["thing"] []) (m2:mg "is_size"=some (.ref f2)) (k2:PySem.W.keepIn K (.ref f2)=true):FnOk P w K mg base CX0 4 f fd ["thing"] (spAsk1 K D.bounds):=by
  refine F.ok scIsBounds (fun vs H Q E h=>?_) (fun cdv A outer s H vs Q E hr h=>?_)
  · obtain ⟨v,d,e,_⟩:=h
    rw [e]
    rfl
  · obtain ⟨v,d,e,hv,k⟩:=h
    subst e
    have hr1:=hr.mono (j:=1) (by decide)
    have hr3:=hr.mono (j:=3) (by decide)
    refine ⟨_,pss_one (ps_ret (pe_and (pe_call G1 hr1 (by rfl) m1 k1 b1 .nil pass0 (pa_cons (pv 0) (pa_cons pe_int pa_nil))) (pe_and (pe_call G2 hr3 (by rfl) m2 k2 b2 .nil pass0 (pa_cons (pe_ix ix_tup (pv 0) pe_int (fun _ _=>rfl)) pa_nil)) (pe_and (pe_call G2 hr3 (by rfl) m2 k2 b2 .nil pass0 (pa_cons (pe_ix ix_tup (pv 0) pe_int (fun _ _=>rfl)) pa_nil)) (pe_one (pe_cmpR op_le (pe_ix ix_tup (pv 0) pe_int (fun _ _=>rfl)) (pe_ix ix_tup (pv 0) pe_int (fun _ _=>rfl)) (nomark _))))))),?_⟩
    try rw [show (cxOf CX0 P w K mg base nIsBounds "is_bounds" (defScope sIsBounds) f cdv A outer s H E).nox.K=K from rfl]
    refine ⟨_,rfl,v,d,_,rfl,hv,fun H1 s1=>⟨_,rfl,ite2 (fun h=>?_) (fun h=>?_)⟩⟩
    · obtain ⟨a,b,rfl⟩:=tup2 h
      have hv1:=hv.same s1
      obtain ⟨p,xs,x,rfl,e1,e2,e3⟩:=hv1.part (j:=0) rfl
      refine ⟨_,rfl,p,_,_,_,rfl,rfl,e1,e2,x,a,rfl,e3,fun H2 s2=>⟨_,rfl,ite2 (fun q=>?_) (fun q=>?_)⟩⟩
      · obtain ⟨p',xs',y,ep,f1,f2,f3⟩:=(hv1.same s2).part (j:=1) rfl
        cases ep
        refine ⟨_,rfl,p,_,_,_,rfl,rfl,f1,f2,y,b,rfl,f3,fun H3 s3=>⟨_,rfl,ite2 (fun q'=>?_) (fun q'=>?_)⟩⟩
        · obtain ⟨i,rfl⟩:=between_int q
          obtain ⟨j,rfl⟩:=between_int q'
          have hv3:=(hv1.same s2).same s3
          obtain ⟨_,_,_,ep,g1,g2,g3⟩:=hv3.part (j:=0) rfl
          cases ep
          cases g3
          obtain ⟨_,_,_,ep,g4,g5,g6⟩:=hv3.part (j:=1) rfl
          cases ep
          cases g6
          have z:Q (.bl ((D.int i).size && ((D.int j).size && decide (i ≤ j)))) H3:=k H3 (Same.trans s1 (Same.trans s2 s3))
          rw [show (D.int i).size=true from q,show (D.int j).size=true from q',Bool.true_and,Bool.true_and] at z
          exact ⟨_,rfl,p,_,_,_,rfl,rfl,g1,g2,_,rfl,p,_,_,_,rfl,rfl,g4,g5,_,_,rfl,rfl,z⟩
        · have z:Q (.bl (a.size && (b.size && leD a b))) H3:=k H3 (Same.trans s1 (Same.trans s2 s3))
          rw [show b.size=false from Bool.eq_false_iff.mpr q',Bool.false_and,Bool.and_false] at z
          exact z
      · have z:Q (.bl (a.size && (b.size && leD a b))) H2:=k H2 (Same.trans s1 s2)
        rw [show a.size=false from Bool.eq_false_iff.mpr q,Bool.false_and] at z
        exact z
    · have z:=k H1 s1
      rw [bounds_no h] at z
      exact z
abbrev nIsOwn:List Str:=["thing"]
theorem scIsOwn:FnScope nIsOwn ["thing"] (defScope sIsOwn):=⟨rfl,rfl,rfl,by decide +kernel,rfl,by decide +kernel,by decide +kernel⟩
set_option maxHeartbeats 16000000 in
theorem ok_isOwn {f f1 f2 f3:Addr} {fd d1 d2 d3:FuncData} (CC:Cst K mg tk ad) (F:Fun K "is_own" "is_own" sIsOwn f fd) (N:Names mg)
    (G1:FnOk P w K mg base CX0 1 f1 d1 ["thing","many"] (spAsk2 K D.tupOf)) (b1:Binds K d1 ["thing","many"] []) (m1:mg "is_tuple_of"=some (.ref f1)) (k1:PySem.W.keepIn K (.ref f1)=true)
    (G2:FnOk P w K mg base CX0 4 f2 d2 ["thing"] (spAsk1 K D.bounds)) (b2:Binds K d2 ["thing"] []) (m2:mg "is_bounds"=some (.ref f2)) (k2:PySem.W.keepIn K (.ref f2)=true)
    (G3:FnOk P w K mg base CX0 2 f3 d3 ["thing","least","most"] (spAsk3 K D.between)) (b3:Binds K d3 ["thing","least","most"] []) (m3:mg "is_between"=some (.ref f3)) (k3:PySem.W.keepIn K (.ref f3)=true):FnOk P w K mg base CX0 5 f fd ["thing"] (spAsk1 K D.own):=by
  refine F.ok scIsOwn (fun vs H Q E h=>?_) (fun cdv A outer s H vs Q E hr h=>?_)
  · obtain ⟨v,d,e,_⟩:=h
    rw [e]
    rfl
  · obtain ⟨v,d,e,hv,k⟩:=h
    subst e
    have hr1:=hr.mono (j:=1) (by decide)
    have hr2:=hr.mono (j:=2) (by decide)
    have hr4:=hr.mono (j:=4) (by decide)
    refine ⟨_,pss_cons (ps_if (pt_not (pw_and (pt_val (pe_call G1 hr1 (by rfl) m1 k1 b1 .nil pass0 (pa_cons (pv 0) (pa_cons pe_int pa_nil)))) (pw_and (pt_val (pe_call G2 hr4 (by rfl) m2 k2 b2 .nil pass0 (pa_cons (pe_ix ix_tup (pv 0) pe_int (fun _ _=>rfl)) pa_nil))) (pw_and1 (pt_val (pe_call G2 hr4 (by rfl) m2 k2 b2 .nil pass0 (pa_cons (pe_ix ix_tup (pv 0) pe_int (fun _ _=>rfl)) pa_nil)))))).pt) (pss_one (ps_ret pe_bl)) pss_nil)
      (pss_cons (ps_if (pt_not (pw_and (pt_val (pe_call G3 hr2 (by rfl) m3 k3 b3 .nil pass0 (pa_cons (pe_ix ix_tup (pv 0) pe_int (fun _ _=>rfl)) (pa_cons pe_int (pa_cons (pe_glob (v:=.int 99) (by rfl) CC.cWEIGHT_MOST ⟨_,rfl⟩) pa_nil))))) (pw_and1 (pt_val (pe_call G3 hr2 (by rfl) m3 k3 b3 .nil pass0 (pa_cons (pe_ix ix_tup (pv 0) pe_int (fun _ _=>rfl)) (pa_cons pe_int (pa_cons (pe_glob (v:=.int 99) (by rfl) CC.cWEIGHT_MOST ⟨_,rfl⟩) pa_nil))))))).pt) (pss_one (ps_ret pe_bl)) pss_nil)
      (pss_one (ps_ret (pe_and (pe_call G3 hr2 (by rfl) m3 k3 b3 .nil pass0 (pa_cons (pe_ix ix_tup (pv 0) pe_int (fun _ _=>rfl)) (pa_cons pe_int (pa_cons (pe_glob (v:=.int 9) (by rfl) CC.cRANK_MOST ⟨_,rfl⟩) pa_nil)))) (pe_one (pe_call G3 hr2 (by rfl) m3 k3 b3 .nil pass0 (pa_cons (pe_ix ix_tup (pv 0) pe_int (fun _ _=>rfl)) (pa_cons pe_int (pa_cons (pe_glob (v:=.int 9) (by rfl) CC.cALIKE_MOST ⟨_,rfl⟩) pa_nil))))))))),?_⟩
    try rw [show (cxOf CX0 P w K mg base nIsOwn "is_own" (defScope sIsOwn) f cdv A outer s H E).nox.K=K from rfl]
    refine seq_abs fun N1 hN=>?_
    refine ⟨_,rfl,v,d,_,rfl,hv,fun H1 s1=>⟨_,rfl,ite2 (fun h=>?_) (fun h=>?_)⟩⟩
    · obtain ⟨a,b,c,e,f',g,rfl⟩:=tup6 h
      clear h
      obtain ⟨p2,xs2,x2,ep2,a2,b2,c2⟩:=(hv.same (s1)).part (j:=0) rfl
      cases ep2
      refine ⟨_,rfl,_,_,_,_,rfl,rfl,a2,b2,x2,a,rfl,c2,fun H2 s2=>⟨_,rfl,ite2 (fun q2=>?_) (fun q2=>?_)⟩⟩
      · obtain ⟨p3,xs3,x3,ep3,a3,b3,c3⟩:=(hv.same (Same.trans s1 (s2))).part (j:=1) rfl
        cases ep3
        refine ⟨_,rfl,_,_,_,_,rfl,rfl,a3,b3,x3,b,rfl,c3,fun H3 s3=>⟨_,rfl,ite2 (fun q3=>?_) (fun q3=>?_)⟩⟩
        rotate_left
        · refine hN _ _ ?_
          clear hN N1
          have q3:b.bounds=true:=by
            cases z:b.bounds with
            | true=>rfl
            | false=>rw [z] at q3; exact absurd rfl q3
          refine seq_abs fun N1 hN=>?_
          obtain ⟨p4,xs4,x4,ep4,a4,b4,c4⟩:=(hv.same (Same.trans s1 (Same.trans s2 (s3)))).part (j:=2) rfl
          cases ep4
          refine ⟨_,rfl,_,_,_,_,rfl,rfl,a4,b4,x4,c,_,_,rfl,c4,fun H4 s4=>⟨_,rfl,ite2 (fun q4=>?_) (fun q4=>?_)⟩⟩
          · obtain ⟨p5,xs5,x5,ep5,a5,b5,c5⟩:=(hv.same (Same.trans s1 (Same.trans s2 (Same.trans s3 (s4))))).part (j:=3) rfl
            cases ep5
            refine ⟨_,rfl,_,_,_,_,rfl,rfl,a5,b5,x5,e,_,_,rfl,c5,fun H5 s5=>⟨_,rfl,ite2 (fun q5=>?_) (fun q5=>?_)⟩⟩
            rotate_left
            · refine hN _ _ ?_
              clear hN N1
              have q5:e.between 0 99=true:=by
                cases z:e.between 0 99 with
                | true=>rfl
                | false=>rw [z] at q5; exact absurd rfl q5
              obtain ⟨p6,xs6,x6,ep6,a6,b6,c6⟩:=(hv.same (Same.trans s1 (Same.trans s2 (Same.trans s3 (Same.trans s4 (s5)))))).part (j:=4) rfl
              cases ep6
              refine ⟨_,rfl,_,_,_,_,rfl,rfl,a6,b6,x6,f',_,_,rfl,c6,fun H6 s6=>⟨_,rfl,ite2 (fun q6=>?_) (fun q6=>?_)⟩⟩
              · obtain ⟨p7,xs7,x7,ep7,a7,b7,c7⟩:=(hv.same (Same.trans s1 (Same.trans s2 (Same.trans s3 (Same.trans s4 (Same.trans s5 (s6))))))).part (j:=5) rfl
                cases ep7
                refine ⟨_,rfl,_,_,_,_,rfl,rfl,a7,b7,x7,g,_,_,rfl,c7,fun H7 s7=>?_⟩
                have z:=k H7 (Same.trans s1 (Same.trans s2 (Same.trans s3 (Same.trans s4 (Same.trans s5 (Same.trans s6 (s7)))))))
                rw [own_yes q2 q3 q4 q5 q6] at z
                exact z
              · have z:=k H6 (Same.trans s1 (Same.trans s2 (Same.trans s3 (Same.trans s4 (Same.trans s5 (s6))))))
                rw [own_no (by simp [Bool.eq_false_iff.mpr q6])] at z
                exact z
            · have q5:¬ e.between 0 99=true:=fun z=>by rw [z] at q5; cases q5
              have z:=k H5 (Same.trans s1 (Same.trans s2 (Same.trans s3 (Same.trans s4 (s5)))))
              rw [own_no (by simp [Bool.eq_false_iff.mpr q5])] at z
              exact z
          · refine iteT ?_
            have z:=k H4 (Same.trans s1 (Same.trans s2 (Same.trans s3 (s4))))
            rw [own_no (by simp [Bool.eq_false_iff.mpr q4])] at z
            exact z
        · have q3:¬ b.bounds=true:=fun z=>by rw [z] at q3; cases q3
          have z:=k H3 (Same.trans s1 (Same.trans s2 (s3)))
          rw [own_no (by simp [Bool.eq_false_iff.mpr q3])] at z
          exact z
      · refine iteT ?_
        have z:=k H2 (Same.trans s1 (s2))
        rw [own_no (by simp [Bool.eq_false_iff.mpr q2])] at z
        exact z
    · refine iteT ?_
      have z:=k H1 s1
      rw [own_no6 h] at z
      exact z
end
end B06
namespace B06
open PySem L2 S2
theorem IsIt.str (x:Str) (H:Hp):IsIt (Its x) H (x.cps.toList.map fun c=>V.str ⟨#[c]⟩) :=
  ⟨fun i H' _ hi=>by rw [List.length_map,Array.length_toList] at hi; exact hi,fun H' _=>by rw [List.length_map,Array.length_toList]; exact Nat.le_refl _,fun i v H' H'' _ y=>by
    obtain ⟨e,c,e1,e2⟩:=y
    exact ⟨e,by rw [List.getElem?_map,Array.getElem?_toList,e1,e2]; rfl⟩⟩
def sgn (c:Nat):Bool:=(!decide ((⟨#[c]⟩:Str).cps.toList < ("a":Str).cps.toList)) && !decide (("z":Str).cps.toList < (⟨#[c]⟩:Str).cps.toList)
def D.name (d:D):Bool:=match d with
  | .str s=>(decide ((1:Int) ≤ (s.length:Int)) && decide ((s.length:Int) ≤ 8)) && s.cps.toList.all sgn
  | _=>false
section
variable {P:Program} {w:World} {K:PySem.W.Frag} {mg:Str→Option Value} {base:Heap} {tk:Nat→Tok} {ad:Nat→Addr}
abbrev nIsName:List Str:=["thing"]
theorem scIsName:FnScope nIsName ["thing"] (defScope sIsName):=⟨rfl,rfl,rfl,by decide +kernel,rfl,by decide +kernel,by decide +kernel⟩
set_option maxHeartbeats 16000000 in
theorem ok_isName {f:Addr} {fd:FuncData} (CC:Cst K mg tk ad) (F:Fun K "is_name" "is_name" sIsName f fd) (N:Names mg):FnOk P w K mg base CX0 1 f fd ["thing"] (spAsk1 K D.name):=by
  refine F.ok scIsName (fun vs H Q E h=>?_) (fun cdv A outer s H vs Q E hr h=>?_)
  · obtain ⟨v,d,e,_⟩:=h
    rw [e]
    rfl
  · obtain ⟨v,d,e,hv,k⟩:=h
    subst e
    refine ⟨_,pss_one (ps_ret (pe_and (pe_callB call_isinst (by rfl) N.inst PyProof.Rows.boot_isinstance (pa_cons (pv 0) (pa_cons (pe_bltn (v:=.ty "str") (by rfl) N.str PyProof.Rows.boot_str rfl (by decide)) pa_nil))) (pe_and (pe_chain op_le op_le pe_int (pe_callB call_len_str (by rfl) N.len PySem.boot_len (pa_cons (pv 0) pa_nil)) (pe_glob (v:=.int 8) (by rfl) CC.cNAME_LONGEST ⟨_,rfl⟩)) (pe_one (pe_callB (call_allL rfl) (by rfl) N.all PyProof.Rows.boot_all (pa_cons (pe_comp (compSc_mk (fs:=defScope sIsName) (N:=nIsName) rfl rfl (by decide +kernel)) rfl (pi_str (pv 0)) (fun _ _ _ _ _=>pts_nil) (fun _ _ _ _ _=>(pe_chain op_leS op_leS pe_str (pv 0) pe_str))) pa_nil)))))),?_⟩
    try rw [show (cxOf CX0 P w K mg base nIsName "is_name" (defScope sIsName) f cdv A outer s H E).nox.K=K from rfl]
    obtain ⟨T,t1,t2⟩:=hv.asStr
    refine ⟨_,rfl,_,"str",_,_,rfl,t1,t2,_,rfl,ite2 (fun h=>?_) (fun h=>?_)⟩
    · cases hv with
      | str x hx =>
        have kx:∀ H':Hp,Same H H'→Q (.bl ((decide ((1:Int) ≤ (x.length:Int)) && decide ((x.length:Int) ≤ 8)) && x.cps.toList.all sgn)) H':=k
        refine ⟨_,rfl,x,rfl,hx,_,_,rfl,rfl,_,rfl,ite2 (fun q=>?_) (fun q=>?_)⟩
        · refine ⟨_,_,rfl,rfl,_,rfl,ite2 (fun q'=>?_) (fun q'=>?_)⟩
          · have hl:(x.length:Int) ≤ 8:=of_decide_eq_true q'
            have hl2:x.cps.toList.length ≤ 8:=by
              rw [Array.length_toList]
              have:x.length=x.cps.size:=rfl
              omega
            refine ⟨_,rfl,x,rfl,comp_of (α:=Nat) (l:=x.cps.toList) (fun c=>V.str ⟨#[c]⟩) (fun _=>true) (fun c=>.bl (sgn c)) (IsIt.str x H) (small (by omega)) (fun c H' Q' _ _ hq=>hq _ (Same.refl _)) (fun c H' Q' _ _ _ hq=>?_) fun DD H1 hD s1 h1=>?_⟩
            · refine ⟨_,rfl,_,_,rfl,rfl,_,rfl,ite2 (fun y=>?_) (fun y=>?_)⟩
              · refine ⟨_,_,rfl,rfl,?_⟩
                have z:=hq H' (Same.refl _)
                unfold sgn at z
                rw [y,Bool.true_and] at z
                exact z
              · have z:=hq H' (Same.refl _)
                unfold sgn at z
                rw [Bool.eq_false_iff.mpr y,Bool.false_and] at z
                exact z
            · refine ⟨DD,x.cps.toList.map sgn,rfl,SqL.of (by rw [h1,List.filter_eq_self.mpr fun _ _=>rfl,List.map_map]; rfl),?_⟩
              have z:=kx H1 s1
              rw [q,q',Bool.true_and,Bool.true_and] at z
              rw [List.all_map]
              exact z
          · have z:=kx H (Same.refl _)
            rw [Bool.eq_false_iff.mpr q',Bool.and_false,Bool.false_and] at z
            exact z
        · refine ⟨_,rfl,iteF ?_⟩
          have z:=kx H (Same.refl _)
          rw [Bool.eq_false_iff.mpr q,Bool.false_and,Bool.false_and] at z
          exact z
      | non=>cases h
      | bl b=>cases h
      | int i=>cases h
      | tup _ _ _=>cases h
      | oth _=>cases h
    · have z:=k H (Same.refl _)
      have e:d.name=false:=by
        cases d <;> first | rfl | exact absurd rfl h
      rw [e] at z
      exact z
end
end B06
namespace B06
open PySem L2 S2
def D.oneOf (l:List V) (d:D):Bool:=match d with
  | .str s=>inV (.str s) l
  | _=>false
abbrev wSides:List V:=[.str "left",.str "right"]
abbrev wAligns:List V:=[.str "start",.str "end",.str "mid",.str "mid2"]
def D.pair2 (f:D→D→Bool) (d:D):Bool:=match d with
  | .tup [a,b]=>f a b
  | _=>false
theorem pair2_no {f:D→D→Bool} {d:D} (h:¬ d.tupOf 2=true):d.pair2 f=false:=by
  unfold D.pair2
  split
  · exact absurd rfl h
  · rfl
def D.three (f:D→D→D→Bool) (d:D):Bool:=match d with
  | .tup [a,b,c]=>f a b c
  | _=>false
theorem three_no {f:D→D→D→Bool} {d:D} (h:¬ d.tupOf 3=true):d.three f=false:=by
  unfold D.three
  split
  · exact absurd rfl h
  · rfl
theorem tup3 {d:D} (h:d.tupOf 3=true):∃ a b c,d=.tup [a,b,c]:=by
  obtain ⟨l,rfl,e⟩:=tupOf_len (n:=3) h
  match l,e with
  | [a,b,c],_=>exact ⟨a,b,c,rfl⟩
def D.leafW (d:D) (n:Int):Bool:=decide (V.int n=V.int 0) && d.pair2 fun a b=>a.size && b.size
def D.linedW (d:D) (n:Int):Bool:=decide (n ≤ 20) && d.three fun a b c=>a.gap && (b.oneOf wAligns && c.oneOf wSides)
def D.span (d:D) (n:Int):Bool:=d.pair2 fun a b=>a.between 1 n && b.between 1 12
theorem two_no {f:D→D→Bool} {a b:D} (h:f a b=false):D.pair2 f (.tup [a,b])=false:=h
theorem three_no' {f:D→D→D→Bool} {a b c:D} (h:f a b c=false):D.three f (.tup [a,b,c])=false:=h
section
variable {P:Program} {w:World} {K:PySem.W.Frag} {mg:Str→Option Value} {base:Heap} {tk:Nat→Tok} {ad:Nat→Addr}
abbrev nIsSide:List Str:=["thing"]
theorem scIsSide:FnScope nIsSide ["thing"] (defScope sIsSide):=⟨rfl,rfl,rfl,by decide +kernel,rfl,by decide +kernel,by decide +kernel⟩
set_option maxHeartbeats 16000000 in
theorem ok_isSide {f:Addr} {fd:FuncData} (CC:Cst K mg tk ad) (F:Fun K "is_side" "is_side" sIsSide f fd) (N:Names mg):FnOk P w K mg base CX0 1 f fd ["thing"] (spAsk1 K (D.oneOf wSides)):=by
  refine F.ok scIsSide (fun vs H Q E h=>?_) (fun cdv A outer s H vs Q E hr h=>?_)
  · obtain ⟨v,d,e,_⟩:=h
    rw [e]
    rfl
  · obtain ⟨v,d,e,hv,k⟩:=h
    subst e
    refine ⟨_,pss_one (ps_ret (pe_and (pe_callB call_isinst (by rfl) N.inst PyProof.Rows.boot_isinstance (pa_cons (pv 0) (pa_cons (pe_bltn (v:=.ty "str") (by rfl) N.str PyProof.Rows.boot_str rfl (by decide)) pa_nil))) (pe_one (pe_cmpR (r:=rIn K false) op_in_seq (pv 0) (pe_glob (v:=.ref (ad 1)) (by rfl) CC.tSIDES rfl) (by rfl))))),?_⟩
    try rw [show (cxOf CX0 P w K mg base nIsSide "is_side" (defScope sIsSide) f cdv A outer s H E).nox.K=K from rfl]
    obtain ⟨T,t1,t2⟩:=hv.asStr
    refine ⟨_,rfl,_,"str",_,_,rfl,t1,t2,_,rfl,ite2 (fun h=>?_) (fun h=>?_)⟩
    · cases hv with
      | str x hx=>exact ⟨_,rfl,_,_,rfl,.inr (CC.sSIDES H),rfl,by decide,k H (Same.refl _)⟩
      | non=>cases h
      | bl b=>cases h
      | int i=>cases h
      | tup _ _ _=>cases h
      | oth _=>cases h
    · have z:=k H (Same.refl _)
      have e:d.oneOf wSides=false:=by
        cases d <;> first | rfl | exact absurd rfl h
      rw [e] at z
      exact z
abbrev nIsAlign:List Str:=["thing"]
theorem scIsAlign:FnScope nIsAlign ["thing"] (defScope sIsAlign):=⟨rfl,rfl,rfl,by decide +kernel,rfl,by decide +kernel,by decide +kernel⟩
set_option maxHeartbeats 16000000 in
theorem ok_isAlign {f:Addr} {fd:FuncData} (CC:Cst K mg tk ad) (F:Fun K "is_align" "is_align" sIsAlign f fd) (N:Names mg):FnOk P w K mg base CX0 1 f fd ["thing"] (spAsk1 K (D.oneOf wAligns)):=by
  refine F.ok scIsAlign (fun vs H Q E h=>?_) (fun cdv A outer s H vs Q E hr h=>?_)
  · obtain ⟨v,d,e,_⟩:=h
    rw [e]
    rfl
  · obtain ⟨v,d,e,hv,k⟩:=h
    subst e
    refine ⟨_,pss_one (ps_ret (pe_and (pe_callB call_isinst (by rfl) N.inst PyProof.Rows.boot_isinstance (pa_cons (pv 0) (pa_cons (pe_bltn (v:=.ty "str") (by rfl) N.str PyProof.Rows.boot_str rfl (by decide)) pa_nil))) (pe_one (pe_cmpR (r:=rIn K false) op_in_seq (pv 0) (pe_glob (v:=.ref (ad 3)) (by rfl) CC.tALIGNS rfl) (by rfl))))),?_⟩
    try rw [show (cxOf CX0 P w K mg base nIsAlign "is_align" (defScope sIsAlign) f cdv A outer s H E).nox.K=K from rfl]
    obtain ⟨T,t1,t2⟩:=hv.asStr
    refine ⟨_,rfl,_,"str",_,_,rfl,t1,t2,_,rfl,ite2 (fun h=>?_) (fun h=>?_)⟩
    · cases hv with
      | str x hx=>exact ⟨_,rfl,_,_,rfl,.inr (CC.sALIGNS H),rfl,by decide,k H (Same.refl _)⟩
      | non=>cases h
      | bl b=>cases h
      | int i=>cases h
      | tup _ _ _=>cases h
      | oth _=>cases h
    · have z:=k H (Same.refl _)
      have e:d.oneOf wAligns=false:=by
        cases d <;> first | rfl | exact absurd rfl h
      rw [e] at z
      exact z
abbrev nIsLeafWhat:List Str:=["what","many"]
theorem scIsLeafWhat:FnScope nIsLeafWhat ["what","many"] (defScope sIsLeafWhat):=⟨rfl,rfl,rfl,by decide +kernel,rfl,by decide +kernel,by decide +kernel⟩
set_option maxHeartbeats 16000000 in
theorem ok_isLeafWhat {f f1 f2:Addr} {fd d1 d2:FuncData} (F:Fun K "is_leaf_what" "is_leaf_what" sIsLeafWhat f fd) (N:Names mg)
    (G1:FnOk P w K mg base CX0 1 f1 d1 ["thing","many"] (spAsk2 K D.tupOf)) (b1:Binds K d1 ["thing","many"] []) (m1:mg "is_tuple_of"=some (.ref f1)) (k1:PySem.W.keepIn K (.ref f1)=true)
    (G2:FnOk P w K mg base CX0 3 f2 d2 ["thing"] (spAsk1 K D.size)) (b2:Binds K d2 ["thing"] []) (m2:mg "is_size"=some (.ref f2)) (k2:PySem.W.keepIn K (.ref f2)=true):FnOk P w K mg base CX0 4 f fd ["what","many"] (spAsk2 K D.leafW):=by
  refine F.ok scIsLeafWhat (fun vs H Q E h=>?_) (fun cdv A outer s H vs Q E hr h=>?_)
  · obtain ⟨v,d,n,e,_⟩:=h
    rw [e]
    rfl
  · obtain ⟨v,d,n,e,hv,k⟩:=h
    subst e
    have hr1:=hr.mono (j:=1) (by decide)
    have hr3:=hr.mono (j:=3) (by decide)
    refine ⟨_,pss_one (ps_ret (pe_and (pe_cmpR op_eq (pv 1) pe_int (nomark _)) (pe_and (pe_call G1 hr1 (by rfl) m1 k1 b1 .nil pass0 (pa_cons (pv 0) (pa_cons pe_int pa_nil))) (pe_and (pe_call G2 hr3 (by rfl) m2 k2 b2 .nil pass0 (pa_cons (pe_ix ix_tup (pv 0) pe_int (fun _ _=>rfl)) pa_nil)) (pe_one (pe_call G2 hr3 (by rfl) m2 k2 b2 .nil pass0 (pa_cons (pe_ix ix_tup (pv 0) pe_int (fun _ _=>rfl)) pa_nil))))))),?_⟩
    try rw [show (cxOf CX0 P w K mg base nIsLeafWhat "is_leaf_what" (defScope sIsLeafWhat) f cdv A outer s H E).nox.K=K from rfl]
    refine ⟨_,rfl,rfl,_,rfl,ite2 (fun q0=>?_) (fun q0=>?_)⟩
    · have k:∀ H':Hp,Same H H'→Q (.bl (d.pair2 fun a b=>a.size && b.size)) H':=fun H' s'=>by
        have z:Q (.bl (decide (V.int n=V.int 0) && d.pair2 fun a b=>a.size && b.size)) H':=k H' s'
        rw [q0,Bool.true_and] at z
        exact z
      refine ⟨_,rfl,v,d,_,rfl,hv,fun H1 s1=>⟨_,rfl,ite2 (fun h=>?_) (fun h=>?_)⟩⟩
      · obtain ⟨a,b,rfl⟩:=tup2 h
        clear h
        obtain ⟨p2,xs2,x2,ep2,a2,b2,c2⟩:=(hv.same (s1)).part (j:=0) rfl
        cases ep2
        refine ⟨_,rfl,_,_,_,_,rfl,rfl,a2,b2,x2,a,rfl,c2,fun H2 s2=>⟨_,rfl,ite2 (fun q2=>?_) (fun q2=>?_)⟩⟩
        · obtain ⟨p3,xs3,x3,ep3,a3,b3,c3⟩:=(hv.same (Same.trans s1 (s2))).part (j:=1) rfl
          cases ep3
          refine ⟨_,rfl,_,_,_,_,rfl,rfl,a3,b3,x3,b,rfl,c3,fun H3 s3=>?_⟩
          have z:=k H3 (Same.trans s1 (Same.trans s2 (s3)))
          rw [show (D.tup [a,b]).pair2 (fun a b=>a.size && b.size)=b.size by show (a.size && b.size)=_; rw [show a.size=true from q2,Bool.true_and]] at z
          exact z
        · have z:=k H2 (Same.trans s1 (s2))
          rw [two_no (by simp [Bool.eq_false_iff.mpr q2])] at z
          exact z
      · have z:=k H1 s1
        rw [pair2_no h] at z
        exact z
    · have z:Q (.bl (decide (V.int n=V.int 0) && d.pair2 fun a b=>a.size && b.size)) H:=k H (Same.refl _)
      rw [Bool.eq_false_iff.mpr q0,Bool.false_and] at z
      exact z
abbrev nIsLinedWhat:List Str:=["what","many"]
theorem scIsLinedWhat:FnScope nIsLinedWhat ["what","many"] (defScope sIsLinedWhat):=⟨rfl,rfl,rfl,by decide +kernel,rfl,by decide +kernel,by decide +kernel⟩
set_option maxHeartbeats 16000000 in
theorem ok_isLinedWhat {f f1 f2 f3 f4:Addr} {fd d1 d2 d3 d4:FuncData} (CC:Cst K mg tk ad) (F:Fun K "is_lined_what" "is_lined_what" sIsLinedWhat f fd) (N:Names mg)
    (G1:FnOk P w K mg base CX0 1 f1 d1 ["thing","many"] (spAsk2 K D.tupOf)) (b1:Binds K d1 ["thing","many"] []) (m1:mg "is_tuple_of"=some (.ref f1)) (k1:PySem.W.keepIn K (.ref f1)=true)
    (G2:FnOk P w K mg base CX0 3 f2 d2 ["thing"] (spAsk1 K D.gap)) (b2:Binds K d2 ["thing"] []) (m2:mg "is_gap"=some (.ref f2)) (k2:PySem.W.keepIn K (.ref f2)=true)
    (G3:FnOk P w K mg base CX0 1 f3 d3 ["thing"] (spAsk1 K (D.oneOf wAligns))) (b3:Binds K d3 ["thing"] []) (m3:mg "is_align"=some (.ref f3)) (k3:PySem.W.keepIn K (.ref f3)=true)
    (G4:FnOk P w K mg base CX0 1 f4 d4 ["thing"] (spAsk1 K (D.oneOf wSides))) (b4:Binds K d4 ["thing"] []) (m4:mg "is_side"=some (.ref f4)) (k4:PySem.W.keepIn K (.ref f4)=true):FnOk P w K mg base CX0 4 f fd ["what","many"] (spAsk2 K D.linedW):=by
  refine F.ok scIsLinedWhat (fun vs H Q E h=>?_) (fun cdv A outer s H vs Q E hr h=>?_)
  · obtain ⟨v,d,n,e,_⟩:=h
    rw [e]
    rfl
  · obtain ⟨v,d,n,e,hv,k⟩:=h
    subst e
    have hr1:=hr.mono (j:=1) (by decide)
    have hr3:=hr.mono (j:=3) (by decide)
    refine ⟨_,pss_cons (ps_if (pt_not (pw_and (pt_cmpR op_le (pv 1) (pe_glob (v:=.int 20) (by rfl) CC.cLINED_PARTS ⟨_,rfl⟩) (nomark _)) (pw_and1 (pt_val (pe_call G1 hr1 (by rfl) m1 k1 b1 .nil pass0 (pa_cons (pv 0) (pa_cons pe_int pa_nil)))))).pt) (pss_one (ps_ret pe_bl)) pss_nil)
      (pss_one (ps_ret (pe_and (pe_call G2 hr3 (by rfl) m2 k2 b2 .nil pass0 (pa_cons (pe_ix ix_tup (pv 0) pe_int (fun _ _=>rfl)) pa_nil)) (pe_and (pe_call G3 hr1 (by rfl) m3 k3 b3 .nil pass0 (pa_cons (pe_ix ix_tup (pv 0) pe_int (fun _ _=>rfl)) pa_nil)) (pe_one (pe_call G4 hr1 (by rfl) m4 k4 b4 .nil pass0 (pa_cons (pe_ix ix_tup (pv 0) pe_int (fun _ _=>rfl)) pa_nil))))))),?_⟩
    try rw [show (cxOf CX0 P w K mg base nIsLinedWhat "is_lined_what" (defScope sIsLinedWhat) f cdv A outer s H E).nox.K=K from rfl]
    have kk:∀ H':Hp,Same H H'→Q (.bl (decide (n ≤ 20) && d.three fun a b c=>a.gap && (b.oneOf wAligns && c.oneOf wSides))) H':=k
    refine seq_abs fun N1 hN=>?_
    refine ⟨_,rfl,_,_,rfl,rfl,_,rfl,ite2 (fun q0=>?_) (fun q0=>iteT ?_)⟩
    · have k:∀ H':Hp,Same H H'→Q (.bl (d.three fun a b c=>a.gap && (b.oneOf wAligns && c.oneOf wSides))) H':=fun H' s'=>by
        have z:=kk H' s'
        rw [q0,Bool.true_and] at z
        exact z
      refine ⟨_,rfl,v,d,_,rfl,hv,fun H1 s1=>⟨_,rfl,ite2 (fun h=>?_) (fun h=>?_)⟩⟩
      · have h:¬ d.tupOf 3=true:=fun z=>by rw [z] at h; cases h
        have z:=k H1 s1
        rw [three_no h] at z
        exact z
      · have h:d.tupOf 3=true:=by
          cases z:d.tupOf 3 with
          | true=>rfl
          | false=>rw [z] at h; exact absurd rfl h
        obtain ⟨a,b,c,rfl⟩:=tup3 h
        clear h
        refine hN _ _ ?_
        clear hN N1
        obtain ⟨p2,xs2,x2,ep2,a2,b2,c2⟩:=(hv.same (s1)).part (j:=0) rfl
        cases ep2
        refine ⟨_,rfl,_,_,_,_,rfl,rfl,a2,b2,x2,a,rfl,c2,fun H2 s2=>⟨_,rfl,ite2 (fun q2=>?_) (fun q2=>?_)⟩⟩
        · obtain ⟨p3,xs3,x3,ep3,a3,b3,c3⟩:=(hv.same (Same.trans s1 (s2))).part (j:=1) rfl
          cases ep3
          refine ⟨_,rfl,_,_,_,_,rfl,rfl,a3,b3,x3,b,rfl,c3,fun H3 s3=>⟨_,rfl,ite2 (fun q3=>?_) (fun q3=>?_)⟩⟩
          · obtain ⟨p4,xs4,x4,ep4,a4,b4,c4⟩:=(hv.same (Same.trans s1 (Same.trans s2 (s3)))).part (j:=2) rfl
            cases ep4
            refine ⟨_,rfl,_,_,_,_,rfl,rfl,a4,b4,x4,c,rfl,c4,fun H4 s4=>?_⟩
            have z:=k H4 (Same.trans s1 (Same.trans s2 (Same.trans s3 (s4))))
            rw [show (D.tup [a,b,c]).three (fun a b c=>a.gap && (b.oneOf wAligns && c.oneOf wSides))=c.oneOf wSides by show (a.gap && (b.oneOf wAligns && c.oneOf wSides))=_; rw [show a.gap=true from q2,show b.oneOf wAligns=true from q3,Bool.true_and,Bool.true_and]] at z
            exact z
          · have z:=k H3 (Same.trans s1 (Same.trans s2 (s3)))
            rw [three_no' (by simp [Bool.eq_false_iff.mpr q3])] at z
            exact z
        · have z:=k H2 (Same.trans s1 (s2))
          rw [three_no' (by simp [Bool.eq_false_iff.mpr q2])] at z
          exact z
    · have z:=kk H (Same.refl _)
      rw [Bool.eq_false_iff.mpr q0,Bool.false_and] at z
      exact z
abbrev nIsSpan:List Str:=["thing","columns"]
theorem scIsSpan:FnScope nIsSpan ["thing","columns"] (defScope sIsSpan):=⟨rfl,rfl,rfl,by decide +kernel,rfl,by decide +kernel,by decide +kernel⟩
set_option maxHeartbeats 16000000 in
theorem ok_isSpan {f f1 f2:Addr} {fd d1 d2:FuncData} (CC:Cst K mg tk ad) (F:Fun K "is_span" "is_span" sIsSpan f fd) (N:Names mg)
    (G1:FnOk P w K mg base CX0 1 f1 d1 ["thing","many"] (spAsk2 K D.tupOf)) (b1:Binds K d1 ["thing","many"] []) (m1:mg "is_tuple_of"=some (.ref f1)) (k1:PySem.W.keepIn K (.ref f1)=true)
    (G2:FnOk P w K mg base CX0 2 f2 d2 ["thing","least","most"] (spAsk3 K D.between)) (b2:Binds K d2 ["thing","least","most"] []) (m2:mg "is_between"=some (.ref f2)) (k2:PySem.W.keepIn K (.ref f2)=true):FnOk P w K mg base CX0 3 f fd ["thing","columns"] (spAsk2 K D.span):=by
  refine F.ok scIsSpan (fun vs H Q E h=>?_) (fun cdv A outer s H vs Q E hr h=>?_)
  · obtain ⟨v,d,n,e,_⟩:=h
    rw [e]
    rfl
  · obtain ⟨v,d,n,e,hv,k⟩:=h
    subst e
    have hr1:=hr.mono (j:=1) (by decide)
    have hr2:=hr.mono (j:=2) (by decide)
    refine ⟨_,pss_one (ps_ret (pe_and (pe_call G1 hr1 (by rfl) m1 k1 b1 .nil pass0 (pa_cons (pv 0) (pa_cons pe_int pa_nil))) (pe_and (pe_call G2 hr2 (by rfl) m2 k2 b2 .nil pass0 (pa_cons (pe_ix ix_tup (pv 0) pe_int (fun _ _=>rfl)) (pa_cons pe_int (pa_cons (pv 1) pa_nil)))) (pe_one (pe_call G2 hr2 (by rfl) m2 k2 b2 .nil pass0 (pa_cons (pe_ix ix_tup (pv 0) pe_int (fun _ _=>rfl)) (pa_cons pe_int (pa_cons (pe_glob (v:=.int 12) (by rfl) CC.cSPAN_MOST ⟨_,rfl⟩) pa_nil)))))))),?_⟩
    try rw [show (cxOf CX0 P w K mg base nIsSpan "is_span" (defScope sIsSpan) f cdv A outer s H E).nox.K=K from rfl]
    refine ⟨_,rfl,v,d,_,rfl,hv,fun H1 s1=>⟨_,rfl,ite2 (fun h=>?_) (fun h=>?_)⟩⟩
    · obtain ⟨a,b,rfl⟩:=tup2 h
      clear h
      obtain ⟨p2,xs2,x2,ep2,a2,b2,c2⟩:=(hv.same (s1)).part (j:=0) rfl
      cases ep2
      refine ⟨_,rfl,_,_,_,_,rfl,rfl,a2,b2,_,rfl,x2,a,_,_,rfl,c2,fun H2 s2=>⟨_,rfl,ite2 (fun q2=>?_) (fun q2=>?_)⟩⟩
      · obtain ⟨p3,xs3,x3,ep3,a3,b3,c3⟩:=(hv.same (Same.trans s1 (s2))).part (j:=1) rfl
        cases ep3
        refine ⟨_,rfl,_,_,_,_,rfl,rfl,a3,b3,x3,b,_,_,rfl,c3,fun H3 s3=>?_⟩
        have z:Q (.bl ((D.tup [a,b]).pair2 fun a b=>a.between 1 n && b.between 1 12)) _:=k H3 (Same.trans s1 (Same.trans s2 (s3)))
        rw [show (D.tup [a,b]).pair2 (fun a b=>a.between 1 n && b.between 1 12)=b.between 1 12 by show (a.between 1 n && b.between 1 12)=_; rw [show a.between 1 n=true from q2,Bool.true_and]] at z
        exact z
      · have z:Q (.bl ((D.tup [a,b]).pair2 fun a b=>a.between 1 n && b.between 1 12)) _:=k H2 (Same.trans s1 (s2))
        rw [two_no (by simp [Bool.eq_false_iff.mpr q2])] at z
        exact z
    · have z:Q (.bl (d.pair2 fun a b=>a.between 1 n && b.between 1 12)) H1:=k H1 s1
      rw [pair2_no h] at z
      exact z
end
end B06
namespace B06
open PySem L2 S2
def D.num (d:D):Int:=match d with
  | .int i=>i
  | _=>0
def D.all (d:D) (f:D→Bool):Bool:=match d with
  | .tup l=>l.all f
  | _=>false
def D.four (f:D→D→D→D→Bool) (d:D):Bool:=match d with
  | .tup [a,b,c,e]=>f a b c e
  | _=>false
theorem four_no {f:D→D→D→D→Bool} {d:D} (h:¬ d.tupOf 4=true):d.four f=false:=by
  unfold D.four
  split
  · exact absurd rfl h
  · rfl
theorem four_no' {f:D→D→D→D→Bool} {a b c e:D} (h:f a b c e=false):D.four f (.tup [a,b,c,e])=false:=h
theorem tup4 {d:D} (h:d.tupOf 4=true):∃ a b c e,d=.tup [a,b,c,e]:=by
  obtain ⟨l,rfl,e⟩:=tupOf_len (n:=4) h
  match l,e with
  | [a,b,c,e],_=>exact ⟨a,b,c,e,rfl⟩
def tabF (n:Int) (a b c e:D):Bool:=(a.between 1 12 && (b.gap && c.oneOf wSides)) && (e.tupOf n && e.all fun s=>s.span a.num)
def D.tableW (d:D) (n:Int):Bool:=decide (n ≤ 40) && d.four (tabF n)
theorem IsIt.tup {K:PySem.W.Frag} {a:Addr} {H:Hp} {xs:List V} (h:H a=some (.tup xs)):IsIt (Itt K a) H xs :=
  ⟨fun i H' s hi=>⟨xs,xs[i],SqT.of (s _ _ h),by simp [hi]⟩,fun H' s=>⟨xs,SqT.of (s _ _ h),Nat.le_refl _⟩,fun i x H' H'' s y=>by
    obtain ⟨e,y⟩:=y
    exact ⟨e,y xs (SqT.of (s _ _ h))⟩⟩
theorem map_zip1 {α β:Type}:∀ {xs:List α} {l:List β},xs.length=l.length→(xs.zip l).map (fun p=>p.1)=xs
  | [],_,_=>rfl
  | x :: xs,[],h=>nomatch h
  | x :: xs,d :: l,h=>by rw [List.zip_cons_cons,List.map_cons,map_zip1 (Nat.succ.inj h)]
theorem all_zip2 {α β:Type} {f:β→Bool}:∀ {xs:List α} {l:List β},xs.length=l.length→(xs.zip l).all (id ∘ fun p=>f p.2)=l.all f
  | [],[],_=>rfl
  | [],d :: l,h=>nomatch h
  | x :: xs,[],h=>nomatch h
  | x :: xs,d :: l,h=>by rw [List.zip_cons_cons,List.all_cons,List.all_cons,all_zip2 (Nat.succ.inj h)]; rfl
theorem zip_at {α β:Type} {xs:List α} {l:List β} {j:Nat} {p:α × β} (h:(xs.zip l)[j]?=some p):xs[j]?=some p.1∧l[j]?=some p.2:=by
  rw [List.getElem?_zip_eq_some] at h
  exact h
theorem tupOf_tup {d:D} {n:Int} (h:d.tupOf n=true):∃ l,d=.tup l∧(l.length:Int)=n:=by
  cases d with
  | tup l=>exact ⟨l,rfl,of_decide_eq_true (p:=(l.length:Int)=n) h⟩
  | _=>cases h
section
variable {P:Program} {w:World} {K:PySem.W.Frag} {mg:Str→Option Value} {base:Heap} {tk:Nat→Tok} {ad:Nat→Addr}
abbrev nIsTableWhat:List Str:=["what","many"]
theorem scIsTableWhat:FnScope nIsTableWhat ["what","many"] (defScope sIsTableWhat):=⟨rfl,rfl,rfl,by decide +kernel,rfl,by decide +kernel,by decide +kernel⟩
set_option maxHeartbeats 16000000 in
theorem ok_isTableWhat {f f1 f2 f3 f4 f5:Addr} {fd d1 d2 d3 d4 d5:FuncData} (CC:Cst K mg tk ad) (F:Fun K "is_table_what" "is_table_what" sIsTableWhat f fd) (N:Names mg)
    (G1:FnOk P w K mg base CX0 1 f1 d1 ["thing","many"] (spAsk2 K D.tupOf)) (b1:Binds K d1 ["thing","many"] []) (m1:mg "is_tuple_of"=some (.ref f1)) (k1:PySem.W.keepIn K (.ref f1)=true)
    (G2:FnOk P w K mg base CX0 2 f2 d2 ["thing","least","most"] (spAsk3 K D.between)) (b2:Binds K d2 ["thing","least","most"] []) (m2:mg "is_between"=some (.ref f2)) (k2:PySem.W.keepIn K (.ref f2)=true)
    (G3:FnOk P w K mg base CX0 3 f3 d3 ["thing"] (spAsk1 K D.gap)) (b3:Binds K d3 ["thing"] []) (m3:mg "is_gap"=some (.ref f3)) (k3:PySem.W.keepIn K (.ref f3)=true)
    (G4:FnOk P w K mg base CX0 1 f4 d4 ["thing"] (spAsk1 K (D.oneOf wSides))) (b4:Binds K d4 ["thing"] []) (m4:mg "is_side"=some (.ref f4)) (k4:PySem.W.keepIn K (.ref f4)=true)
    (G5:FnOk P w K mg base CX0 3 f5 d5 ["thing","columns"] (spAsk2 K D.span)) (b5:Binds K d5 ["thing","columns"] []) (m5:mg "is_span"=some (.ref f5)) (k5:PySem.W.keepIn K (.ref f5)=true):FnOk P w K mg base CX0 4 f fd ["what","many"] (spAsk2 K D.tableW):=by
  refine F.ok scIsTableWhat (fun vs H Q E h=>?_) (fun cdv A outer s H vs Q E hr h=>?_)
  · obtain ⟨v,d,n,e,_⟩:=h
    rw [e]
    rfl
  · obtain ⟨v,d,n,e,hv,k⟩:=h
    subst e
    have hr1:=hr.mono (j:=1) (by decide)
    have hr2:=hr.mono (j:=2) (by decide)
    have hr3:=hr.mono (j:=3) (by decide)
    refine ⟨_,pss_cons (ps_if (pt_not (pw_and (pt_cmpR op_le (pv 1) (pe_glob (v:=.int 40) (by rfl) CC.cTABLE_PARTS ⟨_,rfl⟩) (nomark _)) (pw_and1 (pt_val (pe_call G1 hr1 (by rfl) m1 k1 b1 .nil pass0 (pa_cons (pv 0) (pa_cons pe_int pa_nil)))))).pt) (pss_one (ps_ret pe_bl)) pss_nil)
      (pss_cons (ps_if (pt_not (pw_and (pt_val (pe_call G2 hr2 (by rfl) m2 k2 b2 .nil pass0 (pa_cons (pe_ix ix_tup (pv 0) pe_int (fun _ _=>rfl)) (pa_cons pe_int (pa_cons (pe_glob (v:=.int 12) (by rfl) CC.cTABLE_COLUMNS ⟨_,rfl⟩) pa_nil))))) (pw_and (pt_val (pe_call G3 hr3 (by rfl) m3 k3 b3 .nil pass0 (pa_cons (pe_ix ix_tup (pv 0) pe_int (fun _ _=>rfl)) pa_nil))) (pw_and1 (pt_val (pe_call G4 hr1 (by rfl) m4 k4 b4 .nil pass0 (pa_cons (pe_ix ix_tup (pv 0) pe_int (fun _ _=>rfl)) pa_nil)))))).pt) (pss_one (ps_ret pe_bl)) pss_nil)
      (pss_one (ps_ret (pe_and (pe_call G1 hr1 (by rfl) m1 k1 b1 .nil pass0 (pa_cons (pe_ix ix_tup (pv 0) pe_int (fun _ _=>rfl)) (pa_cons (pv 1) pa_nil))) (pe_one (pe_callB (call_allL rfl) (by rfl) N.all PyProof.Rows.boot_all (pa_cons (pe_comp (compSc_mk (fs:=defScope sIsTableWhat) (N:=nIsTableWhat) rfl rfl (by decide +kernel)) rfl (pi_tup (pe_ix ix_tup (pv 0) pe_int (fun _ _=>rfl))) (fun _ _ _ _ _=>pts_nil) (fun _ _ _ _ _=>(pe_call G5 hr3 (by rfl) m5 k5 b5 .nil pass0 (pa_cons (pv 0) (pa_cons (pe_ix (r:=rIxT K) ix_tup (pv 1) pe_int (fun _ _=>rfl)) pa_nil))))) pa_nil))))))),?_⟩
    try rw [show (cxOf CX0 P w K mg base nIsTableWhat "is_table_what" (defScope sIsTableWhat) f cdv A outer s H E).nox.K=K from rfl]
    have kk:∀ H':Hp,Same H H'→Q (.bl (decide (n ≤ 40) && d.four (tabF n))) H':=k
    refine seq_abs fun N1 hN=>?_
    refine ⟨_,rfl,_,_,rfl,rfl,_,rfl,ite2 (fun q0=>?_) (fun q0=>iteT ?_)⟩
    · have k:∀ H':Hp,Same H H'→Q (.bl (d.four (tabF n))) H':=fun H' s'=>by
        have z:=kk H' s'
        rw [q0,Bool.true_and] at z
        exact z
      refine ⟨_,rfl,v,d,_,rfl,hv,fun H1 s1=>⟨_,rfl,ite2 (fun h=>?_) (fun h=>?_)⟩⟩
      · have h:¬ d.tupOf 4=true:=fun z=>by rw [z] at h; cases h
        have z:=k H1 s1
        rw [four_no h] at z
        exact z
      · have h:d.tupOf 4=true:=by
          cases z:d.tupOf 4 with
          | true=>rfl
          | false=>rw [z] at h; exact absurd rfl h
        obtain ⟨a,b,c,e,rfl⟩:=tup4 h
        clear h
        refine hN _ _ ?_
        clear hN N1
        refine seq_abs fun N1 hN=>?_
        obtain ⟨p2,xs2,x2,ep2,a2,b2,c2⟩:=(hv.same (s1)).part (j:=0) rfl
        cases ep2
        refine ⟨_,rfl,_,_,_,_,rfl,rfl,a2,b2,x2,a,_,_,rfl,c2,fun H2 s2=>⟨_,rfl,ite2 (fun q2=>?_) (fun q2=>?_)⟩⟩
        · obtain ⟨p3,xs3,x3,ep3,a3,b3,c3⟩:=(hv.same (Same.trans s1 (s2))).part (j:=1) rfl
          cases ep3
          refine ⟨_,rfl,_,_,_,_,rfl,rfl,a3,b3,x3,b,rfl,c3,fun H3 s3=>⟨_,rfl,ite2 (fun q3=>?_) (fun q3=>?_)⟩⟩
          · obtain ⟨p4,xs4,x4,ep4,a4,b4,c4⟩:=(hv.same (Same.trans s1 (Same.trans s2 (s3)))).part (j:=2) rfl
            cases ep4
            refine ⟨_,rfl,_,_,_,_,rfl,rfl,a4,b4,x4,c,rfl,c4,fun H4 s4=>⟨_,rfl,ite2 (fun q4=>?_) (fun q4=>?_)⟩⟩
            · have q4:¬ c.oneOf wSides=true:=fun z=>by rw [z] at q4; cases q4
              have z:=k H4 (Same.trans s1 (Same.trans s2 (Same.trans s3 (s4))))
              rw [four_no' (by unfold tabF; simp [Bool.eq_false_iff.mpr q4])] at z
              exact z
            · have q4:c.oneOf wSides=true:=by
                cases z:c.oneOf wSides with
                | true=>rfl
                | false=>rw [z] at q4; exact absurd rfl q4
              refine hN _ _ ?_
              clear hN N1
              obtain ⟨i,rfl⟩:=between_int q2
              have kz:∀ H':Hp,Same H H'→Q (.bl (e.tupOf n && e.all fun s=>s.span i)) H':=fun H' s'=>by
                have z:=k H' s'
                rw [show D.four (tabF n) (.tup [.int i,b,c,e])=(e.tupOf n && e.all fun s=>s.span i) by
                  show ((D.between (.int i) 1 12 && (b.gap && c.oneOf wSides)) && _)=_
                  rw [show D.between (.int i) 1 12=true from q2,show b.gap=true from q3,q4]
                  rfl] at z
                exact z
              obtain ⟨p5,xs5,x5,ep5,a5,b5,c5⟩:=(hv.same (Same.trans s1 (Same.trans s2 (Same.trans s3 (s4))))).part (j:=3) rfl
              cases ep5
              refine ⟨_,rfl,_,_,_,_,rfl,rfl,a5,b5,_,rfl,x5,e,_,rfl,c5,fun H5 s5=>⟨_,rfl,ite2 (fun q5=>?_) (fun q5=>?_)⟩⟩
              · obtain ⟨l,rfl,hl⟩:=tupOf_tup q5
                have hv5:=hv.same (Same.trans s1 (Same.trans s2 (Same.trans s3 (Same.trans s4 (s5)))))
                obtain ⟨p6,xs6,x6,ep6,a6,b6,c6⟩:=hv5.part (j:=3) rfl
                cases ep6
                cases c6 with
                | @tup p7 xs7 l7 h7 hl7 he7 =>
                  refine ⟨_,rfl,_,_,_,_,rfl,rfl,a6,b6,p7,rfl,⟨_,SqT.of h7⟩,comp_of (α:=V × D) (l:=xs7.zip l) (fun p=>p.1) (fun _=>true) (fun p=>.bl (p.2.span i)) ?_ (small (by rw [List.length_zip]; have:=of_decide_eq_true q0; omega)) (fun p H' Q' _ _ hq=>hq _ (Same.refl _)) (fun p H' Q' _ hp s' hq=>?_) fun DD H6 hD s6 h6=>?_⟩
                  · rw [map_zip1 hl7]
                    exact IsIt.tup h7
                  · obtain ⟨j,hj⟩:=List.getElem?_of_mem hp
                    obtain ⟨z1,z2⟩:=zip_at hj
                    have hx:=(he7 j _ _ z1 z2).same s'
                    obtain ⟨p8,xs8,x8,ep8,a8,b8,c8⟩:=(hv5.same s').part (j:=0) rfl
                    cases ep8
                    cases c8
                    exact ⟨_,rfl,_,rfl,_,_,_,_,rfl,rfl,a8,b8,_,_,_,rfl,hx,hq⟩
                  · refine ⟨DD,(xs7.zip l).map fun p=>p.2.span i,rfl,SqL.of (by rw [h6,List.filter_eq_self.mpr fun _ _=>rfl,List.map_map]; rfl),?_⟩
                    have z:=kz H6 (Same.trans (Same.trans s1 (Same.trans s2 (Same.trans s3 (Same.trans s4 (s5))))) s6)
                    rw [show D.tupOf (.tup l) n=true from q5,Bool.true_and] at z
                    rw [List.all_map,all_zip2 (f:=fun s=>s.span i) hl7]
                    exact z
              · have z:=kz H5 (Same.trans s1 (Same.trans s2 (Same.trans s3 (Same.trans s4 (s5)))))
                rw [show e.tupOf n=false from Bool.eq_false_iff.mpr q5,Bool.false_and] at z
                exact z
          · refine iteT ?_
            have z:=k H3 (Same.trans s1 (Same.trans s2 (s3)))
            rw [four_no' (by unfold tabF; simp [Bool.eq_false_iff.mpr q3])] at z
            exact z
        · refine iteT ?_
          have z:=k H2 (Same.trans s1 (s2))
          rw [four_no' (by unfold tabF; simp [Bool.eq_false_iff.mpr q2])] at z
          exact z
    · have z:=kk H (Same.refl _)
      rw [Bool.eq_false_iff.mpr q0,Bool.false_and] at z
      exact z
end
end B06
namespace L2
open PySem
def XD (h:Heap) (e:Addr) (od:Option Addr):Prop:=∃ o,h.get? e=some o∧o.dict=od
theorem XD.push {h:Heap} {e:Addr} {od:Option Addr} (d:XD h e od) (o:Obj):XD (h.push o) e od:=by
  obtain ⟨u,hu,hd⟩:=d
  exact ⟨u,Heap.get?_push_of_some _ hu,hd⟩
theorem XD.upd {h:Heap} {e:Addr} {od:Option Addr} (d:XD h e od) (b:Addr) {f:Obj→Obj} (f1:∀ o,(f o).dict=o.dict) (f2:∀ o,o.isFreed=false→(f o).isFreed=false):XD (h.update b f) e od:=by
  obtain ⟨u,hu,hd⟩:=d
  by_cases q:b=e
  · subst q
    exact ⟨f u,Heap.get?_update_self f hu (f2 u (Heap.get?_some_iff.mp hu).2),(f1 u).trans hd⟩
  · exact ⟨u,by rw [Heap.get?_update_other _ _ q]; exact hu,hd⟩
theorem freed_map (g:Array Value→Array Value) (o:Obj) (h:o.isFreed=false):(o.mapFields g).isFreed=false:=by
  obtain ⟨c,d,dt,sl⟩:=o
  cases dt <;> first | rfl | exact h
theorem dict_map (g:Array Value→Array Value) (o:Obj):(o.mapFields g).dict=o.dict:=by
  obtain ⟨c,d,dt,sl⟩:=o
  cases dt <;> rfl
theorem freed_slots (o:Obj) (sl:Array (Option Value)) (h:o.isFreed=false):({ o with slots:=sl }:Obj).isFreed=false:=by
  obtain ⟨c,d,dt,s⟩:=o
  cases dt <;> first | rfl | exact h
structure KpD {α:Type} (t:Sem α):Prop where
  out:∀ (M:Model) (Γ:Ctx) (P:α→Pos→Shared→Prop) (Ee:Value→Pos→Shared→Prop) (p:Pos) (s:Shared) (e:Addr) (od:Option Addr),XD s.heap e od→Sem.wp M Γ t P Ee p s→Sem.wp M Γ t (fun a p' s'=>P a p' s'∧XD s'.heap e od) Ee p s
namespace KpD
variable {α β:Type}
theorem pure (a:α):KpD (Pure.pure a:Sem α):=⟨fun _ _ _ _ _ _ _ _ d h=>⟨h,d⟩⟩
theorem uns (w:String):KpD (PySem.unsupported w:Sem α):=⟨fun _ _ _ _ _ _ _ _ _ h=>h⟩
theorem bind {m:Sem α} {f:α→Sem β} (hm:KpD m) (hf:∀ a,KpD (f a)):KpD (m >>= f):=⟨fun M Γ P Ee p s e od d h=>by
  rw [Sem.wp_bind'] at h ⊢
  exact Sem.wp_mono M Γ m (fun a p' s' h'=>(hf a).out M Γ P Ee p' s' e od h'.2 h'.1) (fun _ _ _ x=>x) p s (hm.out M Γ _ Ee p s e od d h)⟩
theorem ite {c:Prop} [Decidable c] {t u:Sem α} (ht:KpD t) (hu:KpD u):KpD (if c then t else u):=by split <;> assumption
theorem load (a:Addr):KpD (PySem.load a):=⟨fun M Γ P Ee p s e od d h=>by
  unfold PySem.load at h ⊢
  rw [Sem.wp_load] at h ⊢
  obtain ⟨o,ho,h⟩:=h
  exact ⟨o,ho,by rw [Sem.wp_pure] at h ⊢; exact ⟨h,d⟩⟩⟩
theorem update (a:Addr) (f:Obj→Obj) (f1:∀ o,(f o).dict=o.dict) (f2:∀ o,o.isFreed=false→(f o).isFreed=false):KpD (PySem.update a f):=⟨fun M Γ P Ee p s e od d h=>by
  rw [Sem.wp_cmd_update] at h ⊢
  exact ⟨h.1,h.2,d.upd a f1 f2⟩⟩
theorem stack:KpD PySem.stack:=⟨fun M Γ P Ee p s e od d h=>by
  unfold PySem.stack at h ⊢
  rw [Sem.wp_stack] at h ⊢
  rw [Sem.wp_pure] at h ⊢
  exact ⟨h,d⟩⟩
theorem alloc (o:Obj):KpD (PySem.alloc o):=⟨fun M Γ P Ee p s e od d h=>by
  rw [Sem.wp_cmd_alloc] at h ⊢
  exact ⟨h,d.push o⟩⟩
theorem field (v:Value) (i:Nat):KpD (PySem.field v i):=⟨fun M Γ P Ee p s e od d h=>by
  rw [wp_field_iff] at h ⊢
  obtain ⟨a,o,vs,x,e1,e2,e3,e4,h⟩:=h
  exact ⟨a,o,vs,x,e1,e2,e3,e4,h,d⟩⟩
theorem setField (v:Value) (i:Nat) (x:Value):KpD (PySem.setField v i x):=⟨fun M Γ P Ee p s e od d h=>by
  rw [wp_setField_iff] at h ⊢
  obtain ⟨a,o,vs,e1,e2,e3,e4,h⟩:=h
  exact ⟨a,o,vs,e1,e2,e3,e4,h,d.upd a (dict_map _) (freed_map _)⟩⟩
end KpD
theorem kpd_import (env:Env) (outer:List Env):KpD (behindIsImport env outer):=by
  unfold behindIsImport
  (repeat' with_reducible first
    | assumption
    | exact KpD.pure _
    | exact KpD.uns _
    | exact KpD.field _ _
    | exact KpD.setField _ _ _
    | exact KpD.load _
    | exact KpD.stack
    | exact KpD.alloc _
    | exact KpD.update _ _ (fun _=>rfl) (fun o h=>freed_slots o _ h)
    | apply KpD.ite
    | apply KpD.bind
    | intro _
    | split)
theorem kpd_under:KpD underTheClaimsCaller:=by
  unfold underTheClaimsCaller
  (repeat' with_reducible first
    | assumption
    | exact KpD.pure _
    | exact KpD.uns _
    | exact KpD.field _ _
    | exact KpD.setField _ _ _
    | exact KpD.load _
    | exact KpD.stack
    | exact KpD.alloc _
    | exact KpD.update _ _ (fun _=>rfl) (fun o h=>freed_slots o _ h)
    | apply KpD.ite
    | apply KpD.bind
    | intro _
    | split)
theorem kpd_back (env:Env) (i:Bool) (l:List Env):KpD (keptBack env i l):=by
  have:=kpd_under
  cases l <;> unfold keptBack <;> (repeat' with_reducible first
    | assumption
    | exact KpD.pure _
    | exact KpD.uns _
    | exact KpD.field _ _
    | exact KpD.setField _ _ _
    | exact KpD.load _
    | exact KpD.stack
    | exact KpD.alloc _
    | exact KpD.update _ _ (fun _=>rfl) (fun o h=>freed_slots o _ h)
    | apply KpD.ite
    | apply KpD.bind
    | intro _
    | split)
theorem kpd_ready:∀ l:List Env,KpD (readyFrames l)
  | []=>KpD.pure _
  | env :: outer=>by
    have ih:=kpd_ready outer
    have h1:=kpd_import env outer
    have h2:=fun i=>kpd_back env i outer
    unfold readyFrames
    (repeat' with_reducible first
    | assumption
    | exact KpD.pure _
    | exact KpD.uns _
    | exact KpD.field _ _
    | exact KpD.setField _ _ _
    | exact KpD.load _
    | exact KpD.stack
    | exact KpD.alloc _
    | exact KpD.update _ _ (fun _=>rfl) (fun o h=>freed_slots o _ h)
    | apply KpD.ite
    | apply KpD.bind
    | intro _
    | split)
    all_goals first | exact h2 _ | skip
theorem kpd_frame (l:List Env):KpD (frameObject l):=by
  cases l with
  | nil=>exact KpD.pure _
  | cons env outer =>
    have:=kpd_ready (env :: outer)
    unfold frameObject
    (repeat' with_reducible first
    | assumption
    | exact KpD.pure _
    | exact KpD.uns _
    | exact KpD.field _ _
    | exact KpD.setField _ _ _
    | exact KpD.load _
    | exact KpD.stack
    | exact KpD.alloc _
    | exact KpD.update _ _ (fun _=>rfl) (fun o h=>freed_slots o _ h)
    | apply KpD.ite
    | apply KpD.bind
    | intro _
    | split)
theorem kpd_frameOf (env:Env):KpD (frameOf env):=by
  have h1:KpD frameEnvs:=by unfold frameEnvs; (repeat' with_reducible first
    | assumption
    | exact KpD.pure _
    | exact KpD.uns _
    | exact KpD.field _ _
    | exact KpD.setField _ _ _
    | exact KpD.load _
    | exact KpD.stack
    | exact KpD.alloc _
    | exact KpD.update _ _ (fun _=>rfl) (fun o h=>freed_slots o _ h)
    | apply KpD.ite
    | apply KpD.bind
    | intro _
    | split)
  have h2:=kpd_frame
  unfold frameOf
  (repeat' with_reducible first
    | assumption
    | exact KpD.pure _
    | exact KpD.uns _
    | exact KpD.field _ _
    | exact KpD.setField _ _ _
    | exact KpD.load _
    | exact KpD.stack
    | exact KpD.alloc _
    | exact KpD.update _ _ (fun _=>rfl) (fun o h=>freed_slots o _ h)
    | apply KpD.ite
    | apply KpD.bind
    | intro _
    | split)
  all_goals first | exact h2 _ | skip
theorem kpd_place (f:Addr) (b:Bool):KpD (entryPlaceOf f b):=by
  unfold entryPlaceOf
  (repeat' with_reducible first
    | assumption
    | exact KpD.pure _
    | exact KpD.uns _
    | exact KpD.field _ _
    | exact KpD.setField _ _ _
    | exact KpD.load _
    | exact KpD.stack
    | exact KpD.alloc _
    | exact KpD.update _ _ (fun _=>rfl) (fun o h=>freed_slots o _ h)
    | apply KpD.ite
    | apply KpD.bind
    | intro _
    | split)
theorem kpd_newFields (n:String) (l:List Value):KpD (newFields n l):=by
  unfold newFields newObj newObjAsIs
  (repeat' with_reducible first
    | assumption
    | exact KpD.pure _
    | exact KpD.uns _
    | exact KpD.field _ _
    | exact KpD.setField _ _ _
    | exact KpD.load _
    | exact KpD.stack
    | exact KpD.alloc _
    | exact KpD.update _ _ (fun _=>rfl) (fun o h=>freed_slots o _ h)
    | apply KpD.ite
    | apply KpD.bind
    | intro _
    | split)
theorem kpd_entry (a b c d f:Value) (l:List Value):KpD (EntryCells.newEntry a b c d f l):=kpd_newFields _ _
theorem kpd_note (e:Value) (env:Env):KpD (noteFrame e env):=by
  have h1:=kpd_frameOf env
  have h2:=kpd_place
  have h3:=kpd_entry
  unfold noteFrame
  (repeat' with_reducible first
    | assumption
    | exact KpD.pure _
    | exact KpD.uns _
    | exact KpD.field _ _
    | exact KpD.setField _ _ _
    | exact KpD.load _
    | exact KpD.stack
    | exact KpD.alloc _
    | exact KpD.update _ _ (fun _=>rfl) (fun o h=>freed_slots o _ h)
    | apply KpD.ite
    | apply KpD.bind
    | intro _
    | split)
  all_goals first | exact h2 _ _ | exact h3 _ _ _ _ _ _ | skip
theorem kpd_flight (e:Value) (f:Option Addr):KpD (setFlight e f):=by
  unfold setFlight
  (repeat' with_reducible first
    | assumption
    | exact KpD.pure _
    | exact KpD.uns _
    | exact KpD.field _ _
    | exact KpD.setField _ _ _
    | exact KpD.load _
    | exact KpD.stack
    | exact KpD.alloc _
    | exact KpD.update _ _ (fun _=>rfl) (fun o h=>freed_slots o _ h)
    | apply KpD.ite
    | apply KpD.bind
    | intro _
    | split)
theorem kpd_leaving (env:Env) (e:Value):KpD (leaving env e):=by
  have h1:=kpd_note e env
  have h2:=kpd_flight e none
  unfold leaving
  (repeat' with_reducible first
    | assumption
    | exact KpD.pure _
    | exact KpD.uns _
    | exact KpD.field _ _
    | exact KpD.setField _ _ _
    | exact KpD.load _
    | exact KpD.stack
    | exact KpD.alloc _
    | exact KpD.update _ _ (fun _=>rfl) (fun o h=>freed_slots o _ h)
    | apply KpD.ite
    | apply KpD.bind
    | intro _
    | split)
theorem wp_xd {α:Type} {M:Model} {A:Around} {t:Sem α} {Q:α→Shared→Prop} {E:Value→Shared→Prop} {s:Shared} {e:Addr} {od:Option Addr} (k:KpD t) (d:XD s.heap e od) (h:wpAny M A t Q E s) :
    wpAny M A t (fun a s'=>Q a s'∧XD s'.heap e od) E s:=fun Γ p hΓ=>k.out M Γ _ _ p s e od d (h Γ p hΓ)
end L2
namespace L2
open PySem
abbrev excObj (C t:Addr) (od:Option Addr):Obj:={ cls:=.ref C,dict:=od,data:=.fields #[.ref t,.none,.none,.none,.bool false,.none] }
abbrev tupObj (vs:List Value):Obj:={ cls:=.type "tuple",data:=.seq vs.toArray }
section
variable {prog:Program} {w:World} {A:Around} {E:Value→Shared→Prop} {h:Heap} {g:Array GenState} {d:Drawn} {t:Nat} {os:OsState}
variable {nm q:Str} {C N f:Addr} {bs bm bmB:List Value} {hdct:Bool} {sn:List Str} {sub:List Value} {ab:Bool} {col:Option Bool} {dd:Option Addr} {k0 k1 k2 k3 k5:Option Value} {B Bn newId nid initId inN:String} {bmN:List Value} {mN:Str→Option Value}
theorem bind_of {M:Model} {s:Shared} {oF:Obj} {self:Value} {Q:Value × List Value→Shared→Prop} (hf:s.heap.get? f=some oF) (hc:oF.cls=.type "function") (hq:Q (.ref f,[self]) s):wpAny M A (bindSpecial (.ref f) self) Q E s:=by
  unfold bindSpecial
  refine wpAny_bind (wpAny_typeOf ⟨_,hf,hc⟩ ?_)
  exact wpAny_of_eq (by kernel_rfl) hq
theorem tcall_own (Fn:ExcBaseFacts Bn newId inN bmN) (hBn:bmB.contains (.type Bn)=true) (F:ExcBaseFacts B nid initId bmB) (T:OwnTail h bmB bm) {vs:List Value} {oF:Obj} {Q:Fin→Shared→Prop}
    (hC:h.get? C=some (excClassObj nm q C N bs bm hdct sn sub ab col dd k0 k1 k2 k3 k5 newId)) (hn:h.Ns N mN) (hi:mN "__init__"=some (.ref f)) (hf:h.get? f=some oF) (hfc:oF.cls=.type "function")
    (hq:codeAny (model prog w) A (.call (.ref f) ⟨.ref (h.objs.size + 1) :: vs,[]⟩) (fun r s'=>match r with
      | .ok (.ret v)=>v=.none∧Q (.done (.ret (.ref (h.objs.size + 1)))) s'
      | .ok _=>False
      | .error e=>E e s') ⟨(h.push (tupObj vs)).push (excObj C h.objs.size none),g,d,t,os⟩) (hz:vs.length ≤ sizeLine) :
    wpAny (model prog w) A (Builtin.«type.__call__» ⟨.ref C :: vs,[]⟩) Q E ⟨h,g,d,t,os⟩:=by
  repeat (first | with_reducible refine wpAny_loadPart_at hC ?_ | with_reducible refine wpAny_madeBy_exc hC ?_ | wp_step)
  refine codeAny_call_builtin_code (Code.quiet_builtin _ Fn.quiet) (wpAny_check_new_subU Fn hBn T hC ?_)
  refine codeAny_exc_new_subU Fn hBn F T hC ?_ hz
  show wpAny _ _ _ _ _ _
  have kp:∀ b o,h.get? b=some o→((h.push (tupObj vs)).push (excObj C h.objs.size none)).get? b=some o:=fun b o e=>Heap.get?_push_of_some _ (Heap.get?_push_of_some _ e)
  have c1:=kp _ _ hC
  have n1:=hn.keeps kp
  have f1:=kp _ _ hf
  have x1:((h.push (tupObj vs)).push (excObj C h.objs.size none)).get? (h.objs.size + 1)=some (excObj C h.objs.size none):=by heap_get
  have cc:(Value.ref C :: bm).contains (.ref C)=true:=by simp
  have t1:=T.keeps kp
  unfold isInstance
  repeat (first | with_reducible refine wpAny_loadPart_at x1 ?_ | (with_reducible refine wpAny_isSubtype_exc c1 ?_; rw [cc]) | wp_step)
  show wpAny _ _ (typeLookup (.ref C) _) _ _ _
  refine wpAny_typeLookup_tail c1 n1 t1 F.mroIs F.init.lookup ?_
  rw [hi]
  refine wpAny_holding (wpAny_bind (bind_of f1 hfc ?_))
  refine wpAny_bind (wpAny_call (codeAny_mono hq fun r s' z=>?_))
  rcases r with e | (v | _ | _ | _) <;> first | exact z | exact z.elim | skip
  obtain ⟨rfl,z⟩:=z
  exact wpAny_pure (wpAny_pure z)
theorem call_own (Fn:ExcBaseFacts Bn newId inN bmN) (hBn:bmB.contains (.type Bn)=true) (F:ExcBaseFacts B nid initId bmB) (T:OwnTail h bmB bm) {vs:List Value} {oF:Obj} {Q:Value→Shared→Prop}
    (hC:h.get? C=some (excClassObj nm q C N bs bm hdct sn sub ab col dd k0 k1 k2 k3 k5 newId)) (hn:h.Ns N mN) (hi:mN "__init__"=some (.ref f)) (hf:h.get? f=some oF) (hfc:oF.cls=.type "function")
    (hq:codeAny (model prog w) (A.under (.builtin "type.__call__" ⟨.ref C :: vs,[]⟩)) (.call (.ref f) ⟨.ref (h.objs.size + 1) :: vs,[]⟩) (fun r s'=>match r with
      | .ok (.ret v)=>v=.none∧Q (.ref (h.objs.size + 1)) s'
      | .ok _=>False
      | .error e=>E e s') ⟨(h.push (tupObj vs)).push (excObj C h.objs.size none),g,d,t,os⟩) (hz:vs.length ≤ sizeLine) :
    wpAny (model prog w) A (call (.ref C) vs) Q E ⟨h,g,d,t,os⟩:=by
  have f1:=tc_lookup
  have f2:=tc_bind (.ref C)
  have ty:(⟨h,g,d,t,os⟩:Shared).TypeIs (.ref C) "type":=⟨_,hC,rfl⟩
  refine wpAny_call (codeAny_of_tree ?_)
  show wpAny _ _ (callAny (.ref C) _) _ _ _
  repeat (any_goals (first | assumption | with_reducible refine wpAny_loadPart_at hC ?_ | wp_step))
  refine ⟨rfl,codeAny_call_builtin_at (Code.quiet_builtin _ (by decide +kernel)) entry_typeCall (wpAny_check_type_call_sub hC (tcall_own Fn hBn F T hC hn hi hf hfc (codeAny_mono hq fun r s' z=>?_) hz))⟩
  rcases r with e | (v | _ | _ | _) <;> exact z
theorem raise_own {M:Model} {env:Env} {s:Shared} {x:Expr} {pos:Pos} {Q:Flow→Shared→Prop} (hbase:bm.contains (.type "BaseException")=true) (hh:A.handled=none)
    (h:wpAny M A (eval x env) (fun v s1=>∃ e t od,v=.ref e∧s1.heap.get? C=some (excClassObj nm q C N bs bm hdct sn sub ab col dd k0 k1 k2 k3 k5 newId)∧s1.heap.get? e=some (excObj C t od)∧E (.ref e) s1) E s) :
    wpAny M A (exec (.Raise (some x) none pos) env) Q E s:=by
  have cb:(Value.ref C :: bm).contains (.type "BaseException")=true:=by rw [List.contains_cons,hbase,Bool.or_true]
  show wpAny M A (do standAt pos; raiseStmt env (some (do let v ← eval x env; standAt pos; pure v)) none) Q E s
  refine wpAny_bind (wpAny_standAt ?_)
  unfold raiseStmt
  dsimp only
  refine wpAny_bind (wpAny_bind (wpAny_mono h (fun v s1 h1=>wpAny_bind (wpAny_standAt (wpAny_pure ?_))) fun _ _ z=>z))
  obtain ⟨e,t,od,rfl,hC,he,hE⟩:=h1
  obtain ⟨hp,g,d,tk,os⟩:=s1
  repeat (first | with_reducible refine wpAny_loadPart_at he ?_ | with_reducible refine wpAny_loadPart_at hC ?_ | (with_reducible refine wpAny_isSubtype_exc hC ?_; rw [cb]) | wp_step)
  exact wpAny_raiseNew_none hh hE
end
end L2
namespace L2
open PySem PySem.W PyProof.Rows Builtin Builtin.ObjectAttr
def offRefs:List Value→List Value
  | .ref _ :: r=>offRefs r
  | l=>l
theorem refuse_off (self:Value) (what:Str):∀ l:List Value,refuseLoop self what l=refuseLoop self what (offRefs l)
  | []=>rfl
  | v :: r=>by
    cases v with
    | ref c=>rw [refuseLoop_ref]; exact refuse_off self what r
    | _=>rfl
def onlyExc (l:List Value):Bool:=offRefs l == [.type "ValueError",.type "Exception",.type "BaseException",.type "object"]
theorem exc_pass (self:Value) {l:List Value} (e:onlyExc l=true):refuseLoop self "__setattr__" l=pure ():=by
  rw [refuse_off,beq_iff_eq.mp e]
  exact PySem.F.store_ValueError.passes self
def excOver (K:Frag) (C:Addr):Bool:=(clsIn K C).any fun cd=>onlyExc cd.mro && cd.hasDict && !cd.mro.isEmpty && cd.mro.contains (.type "object")
section
variable {prog:Program} {w:World} {A:Around} {K:Frag} {C x:Addr} {s:Shared} {R:Result→Shared→Prop}
theorem osa_exc {ox:Obj} {od:Option Obj} {name:Str} {tk:Tok} {v:Value} (X:K.In s.heap) (I:InstAt s.heap x ox C od) (hp:excOver K C=true) (hf:findIn K (.ref C) name=some none)
    (h:wpAny (model prog w) A.in1 (storeInOwnDict (.ref x) (.ref C) (.str name tk) name v false) (fun fin s'=>match fin with | .done f=>R (.ok f) s' | .again c'=>c'.quiet=true∧codeAny (model prog w) A c' R s') (fun e s'=>R (.error e) s') s) :
    codeAny (model prog w) A (.call (.builtin "object.__setattr__") ⟨[.ref x,.str name tk,v],[]⟩) R s:=by
  have SF:=PySem.F.store_object
  obtain ⟨cd,hc,ho⟩:=any_some hp
  simp only [Bool.and_eq_true,Bool.not_eq_true'] at ho
  obtain ⟨⟨⟨ho,hd⟩,ne⟩,ob⟩:=ho
  have sub:Looks (model prog w) s.heap (isInstance (.ref x) (.type "object")) true:=I.type.andThen (looks_mroIn X (by unfold mroIn; rw [hc,Option.bind_some,if_neg (by rw [ne]; decide),ob]))
  refine codeAny_call_builtin SF.slot.plain SF.entry (@check_slot (model prog w) _ _ s "object.__setattr__" "object" "__setattr__" (.ref x) [.str name tk,v] [] _ SF.kind SF.split sub (SF.args (.ref x) (.str name tk) v) ?_)
  have hm:Looks (model prog w) s.heap (mroOf (.ref C)) cd.mro:=(looks_clsIn X hc).andThen .now
  rw [osa_eq,refuse_eq]
  refine wpAny_bind (wpAny_bind (I.type.here (wpAny_bind (hm.here ?_))))
  rw [exc_pass _ ho]
  refine wpAny_pure (wpAny_bind (I.type.here (wpAny_bind ((looks_findIn X hf).here (wpAny_bind (wpAny_pure ?_))))))
  exact h
theorem set_exc {t:Addr} {name:Str} {v:Value} {E:Value→Shared→Prop} {Q:Unit→Shared→Prop} (X:K.In s.heap) (hx:s.heap.get? x=some (excObj C t none)) (hp:excOver K C=true) (hf:findIn K (.ref C) name=some none)
    (hs:findIn K (.ref C) "__setattr__"=some (some (.builtin "object.__setattr__")))
    (h:∀ h' tk,h'.get? x=some (excObj C t (some s.heap.objs.size))→h'.Ns1 s.heap.objs.size (fun y=>if y=name then some v else none)→(∀ b o,b ≠ x→s.heap.get? b=some o→h'.get? b=some o)→Q () { s with heap:=h',toks:=tk }) :
    wpAny (model prog w) A (setAttr (.ref x) name v) Q E s:=by
  have I:InstAt s.heap x (excObj C t none) C none:=⟨hx,rfl,rfl,True.intro⟩
  refine set_plain X I hs (osa_exc (s:={ s with toks:=s.toks + 1 }) X I hp hf ?_)
  obtain ⟨cd,hc,ho⟩:=any_some hp
  simp only [Bool.and_eq_true,Bool.not_eq_true'] at ho
  obtain ⟨⟨⟨ho,hd⟩,ne⟩,ob⟩:=ho
  refine wpAny_bind (wpAny_pure (wpAny_bind (wpAny_bind (wpAny_loadPart hx (wpAny_bind (Looks.here (s:={ s with toks:=s.toks + 1 }) (looks_clsIn X hc) ?_))))))
  rw [hd,if_neg (by decide)]
  show wpAny _ _ (if (!true || !typeHasDict (Value.ref C))=true then _ else _) _ _ _
  rw [if_neg (by simp [typeHasDict])]
  show wpAny _ _ (alloc { cls:=.type "dict",data:=.dict #[] } >>= fun d=>update x (fun o=>{ cls:=o.cls,dict:=some d,data:=o.data,slots:=o.slots }) >>= fun _=>dictMade (Value.ref C) x d) _ _ _
  have hxs:x ≠ s.heap.objs.size:=Nat.ne_of_lt (Heap.lt_size hx)
  have x1:(s.heap.push { cls:=.type "dict",data:=.dict #[] }).get? x=some (excObj C t none):=Heap.get?_push_of_some _ hx
  refine wpAny_bind (wpAny_alloc (wpAny_bind (wpAny_update x1 (wpAny_pure ?_))))
  have gd:((s.heap.push { cls:=.type "dict",data:=.dict #[] }).update x fun o=>{ cls:=o.cls,dict:=some s.heap.objs.size,data:=o.data,slots:=o.slots }).get? s.heap.objs.size=some { cls:=.type "dict",data:=.dict #[] } :=
    (Heap.get?_update_ne _ _ _ _ hxs.symm).trans (Heap.get?_push_at rfl rfl)
  have gn:((s.heap.push { cls:=.type "dict",data:=.dict #[] }).update x fun o=>{ cls:=o.cls,dict:=some s.heap.objs.size,data:=o.data,slots:=o.slots }).Ns s.heap.objs.size (fun _=>none) :=
    ⟨_,#[],_,gd,rfl,fun e he=>absurd he (by simp),fun _=>rfl⟩
  have gx:((s.heap.push { cls:=.type "dict",data:=.dict #[] }).update x fun o=>{ cls:=o.cls,dict:=some s.heap.objs.size,data:=o.data,slots:=o.slots }).get? x=some (excObj C t (some s.heap.objs.size)):=Heap.get?_update_self _ x1 rfl
  show wpAny _ _ (storeInDict s.heap.objs.size (.str name s.toks) name v) _ _ _
  unfold storeInDict newKeyGuard
  refine wpAny_bind (wpAny_pure (wpAny_bind (wpAny_nsSet1 (Heap.Ns1.of_empty gn) fun h' n1 sb=>?_)))
  obtain ⟨oD,esD,epD,hoD,hdD,hcD⟩:=n1.count (Within.cons name v Within.nil)
  refine wpAny_bind (wpAny_lookBehind hoD (by rw [hdD]; exact pastItsLine_dict (Nat.le_trans hcD (by rw [List.length_cons,List.length_nil,sizeLine_eq]; omega))) ?_)
  refine wpAny_pure (h h' _ ((sb.2 x hxs).trans gx) n1 fun b o hb e=>?_)
  exact (sb.2 b (Nat.ne_of_lt (Heap.lt_size e))).trans ((Heap.get?_update_ne _ _ _ _ hb).trans (Heap.get?_push_of_some _ e))
end
end L2
namespace L2
open PySem PySem.W PyProof.Rows Builtin Builtin.ObjectAttr
section
variable {prog:Program} {w:World} {A:Around} {E:Value→Shared→Prop} {s:Shared} {K:Frag} {x C:Addr} {ox:Obj} {od:Option Obj} {name:Str} {expr:Bool} {Q:Value→Shared→Prop}
theorem get_exc {v:Value} (X:K.In s.heap) (I:InstAt s.heap x ox C od) (hga:findIn K (.ref C) "__getattribute__"=some (some (.builtin "BaseException.__getattribute__"))) (hgt:findIn K (.ref C) "__getattr__"=some none) (hb:mroIn K C (.type "BaseException")=some true)
    (hf:findObj K C od name=some (.value v)) (hv:handedIn v=true) (h:Q v { s with toks:=s.toks + 1 }):wpAny (model prog w) A (getAttr (.ref x) name expr) Q E s:=by
  obtain ⟨hh,g,d,t,os⟩:=s
  have L0:=I.type (M:=model prog w)
  have L1:=looks_findIn (M:=model prog w) X hga
  have L2:=looks_findIn (M:=model prog w) X hgt
  have L3:=looks_find (M:=model prog w) X I hf
  have sub:Looks (model prog w) hh (isInstance (.ref x) (.type "BaseException")) true:=L0.andThen (looks_mroIn X hb)
  have x0:(expr && onTheHeap (Value.builtin "BaseException.__getattribute__"))=false:=by cases expr <;> rfl
  have x1:(onTheHeap (Value.ref C) && Value.builtin "BaseException.__getattribute__" == Value.builtin "object.__getattribute__")=false:=by
    rw [show (Value.builtin "BaseException.__getattribute__" == Value.builtin "object.__getattribute__")=false by decide +kernel,Bool.and_false]
  unfold getAttr getAttrBy
  refine wpAny_bind (wpAny_mkText (wpAny_holding (wpAny_bind (L0.at (wpAny_bind (L1.at ?_))))))
  dsimp only
  rw [x1]
  show wpAny _ _ (getAttrByItsOwn _ _ _ _ _ _) _ _ _
  unfold getAttrByItsOwn hookBefore
  refine wpAny_bind ?_
  show wpAny _ _ (typeLookup (.ref C) "__getattr__") _ _ _
  refine L2.at ?_
  refine wpAny_bind (wpAny_attempt (wpAny_holding ?_))
  unfold callGetattribute
  rw [x0]
  show wpAny _ _ (boundAndCalled _ _ _) _ _ _
  unfold boundAndCalled
  rw [PySem.F.attr_ValueError.ga.bind]
  refine wpAny_bind (wpAny_pure (wpAny_call ?_))
  refine codeAny_call_builtin PySem.F.attr_ValueError.ga.plain PySem.F.entry_bexc_ga (@check_slot (model prog w) _ _ _ "BaseException.__getattribute__" "BaseException" "__getattribute__" (.ref x) [.str name t] [] _ (by decide +kernel) (by decide +kernel) sub (PySem.F.args_bexc_ga (.ref x) (.str name t)) ?_)
  unfold Builtin.«object.__getattribute__»
  refine wpAny_bind (wpAny_pure (wpAny_bind (wpAny_pure (wpAny_bind (L0.at (wpAny_bind (L3.at ?_)))))))
  refine wpAny_pure ?_
  show wpAny _ _ (handedOut v) _ _ _
  rw [handedOut_of hv]
  exact wpAny_pure h
end
end L2
namespace L2
open PySem PySem.W PyProof.Rows Builtin Builtin.ObjectAttr
section
variable {prog:Program} {w:World} {A:Around} {E:Value→Shared→Prop} {s:Shared} {K:Frag} {x C:Addr} {ox:Obj} {od:Option Obj} {Q:Option Value→Shared→Prop}
theorem cls_exc (X:K.In s.heap) (I:InstAt s.heap x ox C od) (hga:findIn K (.ref C) "__getattribute__"=some (some (.builtin "BaseException.__getattribute__"))) (hgt:findIn K (.ref C) "__getattr__"=some none) (hb:mroIn K C (.type "BaseException")=some true)
    (hm:mroIn K C (.type "object")=some true) (hf:findObj K C od "__class__"=some (.bind (.builtin "getset_descriptor.__get__") (.builtin "object.__class__"))) (h:Q (some (.ref C)) { s with toks:=s.toks + 1 }):wpAny (model prog w) A (getAttr? (.ref x) "__class__") Q E s:=by
  obtain ⟨hh,g,d,t,os⟩:=s
  have L0:=I.type (M:=model prog w)
  have L1:=looks_findIn (M:=model prog w) X hga
  have L2:=looks_findIn (M:=model prog w) X hgt
  have L3:=looks_find (M:=model prog w) X I hf
  have sub:Looks (model prog w) hh (isInstance (.ref x) (.type "BaseException")) true:=L0.andThen (looks_mroIn X hb)
  have x1:(onTheHeap (Value.ref C) && Value.builtin "BaseException.__getattribute__" == Value.builtin "object.__getattribute__")=false:=by
    rw [show (Value.builtin "BaseException.__getattribute__" == Value.builtin "object.__getattribute__")=false by decide +kernel,Bool.and_false]
  unfold getAttr? getAttrBy? getAttrBy
  refine wpAny_bind (wpAny_mkText (wpAny_bind (wpAny_attempt (wpAny_holding (wpAny_bind (L0.at (wpAny_bind (L1.at ?_))))))))
  dsimp only
  rw [x1]
  show wpAny _ _ (getAttrByItsOwn _ _ _ _ _ _) _ _ _
  unfold getAttrByItsOwn hookBefore
  refine wpAny_bind ?_
  show wpAny _ _ (typeLookup (.ref C) "__getattr__") _ _ _
  refine L2.at ?_
  refine wpAny_bind (wpAny_attempt (wpAny_holding ?_))
  show wpAny _ _ (boundAndCalled _ _ _) _ _ _
  unfold boundAndCalled
  rw [PySem.F.attr_ValueError.ga.bind]
  refine wpAny_bind (wpAny_pure (wpAny_call ?_))
  refine codeAny_call_builtin PySem.F.attr_ValueError.ga.plain PySem.F.entry_bexc_ga (@check_slot (model prog w) _ _ _ "BaseException.__getattribute__" "BaseException" "__getattribute__" (.ref x) [.str "__class__" t] [] _ (by decide +kernel) (by decide +kernel) sub (PySem.F.args_bexc_ga (.ref x) (.str "__class__" t)) ?_)
  unfold Builtin.«object.__getattribute__»
  refine wpAny_bind (wpAny_pure (wpAny_bind (wpAny_pure (wpAny_bind (L0.at (wpAny_bind (L3.at ?_)))))))
  show wpAny _ _ (bindTo _ _ _ _) _ _ _
  unfold bindTo
  dsimp only
  refine wpAny_bind (wpAny_holding (wpAny_call (class_get (s:=⟨hh,g,d,t + 1,os⟩) X I hm ?_)))
  refine wpAny_pure ?_
  show wpAny _ _ (handedOut (.ref C)) _ _ _
  rw [handedOut_of rfl]
  exact wpAny_pure (wpAny_pure h)
end
end L2
namespace L2
open PySem PySem.W PyProof.Rows Builtin Builtin.ObjectAttr
section
variable {M:Model} {A:Around} {E:Value→Shared→Prop} {s:Shared} {K:Frag} {e C D:Addr} {oe:Obj} {b:Bool} {Q:Bool→Shared→Prop}
theorem exc_match {cd:ClassData} (X:K.In s.heap) (he:s.heap.get? e=some oe) (hc:oe.cls=.ref C) (hD:clsIn K D=some cd) (h1:instIn K (.ref D) (.type "tuple")=some false) (h2:mroIn K D (.type "BaseException")=some true) (h3:mroIn K C (.ref D)=some b) (q:Q b s) :
    wpAny M A (excMatches (.ref e) (.ref D)) Q E s:=by
  obtain ⟨hh,g,d,t,os⟩:=s
  have L1:=looks_instIn (M:=M) X h1
  have L2:Looks M hh (isType (.ref D)) true:=by
    unfold clsIn at hD
    split at hD
    · rename_i ho
      intro A' Q' E' s' k q'
      unfold isType loadHead
      exact wpAny_bind (wpAny_loadPart (k _ _ (X _ _ ho)) (wpAny_pure q'))
    · cases hD
  have L3:=looks_mroIn (M:=M) X h2
  have L4:Looks M hh (typeOf (.ref e)) (.ref C):=hc ▸ (Looks.ld he).andThen .now
  have L5:=looks_mroIn (M:=M) X h3
  unfold excMatches
  refine wpAny_bind (L1.at ?_)
  simp only [Bool.false_eq_true,if_false]
  refine wpAny_bind (wpAny_pure ?_)
  rw [List.forIn_cons]
  unfold isExcClass
  refine wpAny_bind (wpAny_bind (wpAny_bind (wpAny_bind (L2.at ?_))))
  simp only [if_true]
  refine L3.at ?_
  simp only [Bool.not_true,Bool.false_eq_true,if_false]
  refine wpAny_pure ?_
  dsimp only
  rw [List.forIn_nil]
  refine wpAny_pure (wpAny_bind (L4.at ?_))
  rw [List.forIn_cons]
  refine wpAny_bind (wpAny_bind (wpAny_bind (L5.at ?_)))
  cases b with
  | true =>
    simp only [if_true]
    exact wpAny_pure (wpAny_pure (wpAny_pure q))
  | false =>
    simp only [Bool.false_eq_true,if_false]
    refine wpAny_pure ?_
    dsimp only
    rw [List.forIn_nil]
    exact wpAny_pure (wpAny_pure q)
end
end L2
namespace L2
open PySem PySem.Spec PyProof.Rows
theorem ObjOk.ex {P:Program} {w:World} {H:Hp} {h:Heap} {a:Addr} {o:HO} (x:ObjOk P w H h a o):∃ u,h.get? a=some u:=by
  cases o with
  | lst xs=>obtain ⟨_,_,_,_,e⟩:=x; exact ⟨_,e⟩
  | tup xs=>obtain ⟨_,_,_,o,e,_⟩:=x; exact ⟨_,e⟩
  | dK kvs=>obtain ⟨_,_,_,_,o,_,_,e,_⟩:=x; exact ⟨_,e⟩
  | dT kvs=>obtain ⟨_,_,_,_,o,_,_,e,_⟩:=x; exact ⟨_,e⟩
  | set S n=>obtain ⟨o,_,_,_,e,_⟩:=x; exact ⟨_,e⟩
  | ins C dx fs=>obtain ⟨_,_,_,e,_⟩:=x; exact ⟨_,e⟩
  | own y=>obtain ⟨_,e⟩:=x; exact ⟨_,e⟩
  | xd fs=>obtain ⟨_,⟨_,_,_,e,_⟩,_⟩:=x; exact ⟨_,e⟩
  | rng lo hi=>obtain ⟨_,_,_,e⟩:=x; exact ⟨_,e⟩
  | frz ob u=>obtain ⟨e,_⟩:=x; exact ⟨_,e⟩
  | tbl ps=>exact ⟨_,(show h.get? a=some _ from x)⟩
  | met f y=>exact ⟨_,(show h.get? a=some _ from x)⟩
  | ext φ=>obtain ⟨_,⟨_,e⟩,_⟩:=x; exact ⟨_,e⟩
def Fly (P:Program) (w:World):CXT:=fun outer H s E e s'=>∃ (a t:Addr) (cls:Value) (od:Option Addr) (B:Heap) (H':Hp),e=.ref a∧s'.os=s.os∧AllBare s'.gens∧Un (frs outer) [] H H' s.heap s'.heap∧HOk P w H' s'.heap ∧
  Heap.FlyingW B outer a cls (.ref t) s'.heap∧XD s'.heap a od∧H' a=none∧(∀ b o,H' b=some o→∀ ob,s'.heap.get? b=some ob→B.get? b=some ob)∧(∀ b ob,s.heap.get? b=some ob→b ∉ frs outer→∃ o2,B.get? b=some o2∧(H b=none→o2=ob))∧E cls od H'
theorem fly_un {H H':Hp} {h hs h2 B:Heap} {outer:List Env} (u:Un (frs outer) [] H H' h hs) (hl:hs.FunFrames B outer) (cov:∀ b ob,h.get? b=some ob→b ∉ frs outer→∃ o2,B.get? b=some o2∧(H b=none→o2=ob)) (kb:B.StaysIn h2) (us:hs.UpToSlots h2):Un (frs outer) [] H H' h h2 where
  keep:=fun b o q n hb _=>by
    obtain ⟨o2,e,z⟩:=cov b o q hb
    rw [← z n]
    exact kb b o2 e
  slot:=fun b o q n hb hx=>by
    obtain ⟨sl,e⟩:=u.slot b o q n hb hx
    obtain ⟨_,o',e',nf⟩:=hl.mem hb
    rw [e] at e'
    cases e'
    obtain ⟨sl',e2⟩:=us b _ e nf
    exact ⟨sl',e2⟩
  free:=u.free
  there:=fun b o q hx=>by
    by_cases hb:b ∈ frs outer
    · obtain ⟨_,o',e',nf⟩:=hl.mem hb
      obtain ⟨sl',e2⟩:=us b _ e' nf
      exact ⟨_,e2⟩
    · obtain ⟨o2,e,_⟩:=cov b o q hb
      exact ⟨o2,kb b o2 e⟩
  tups:=u.tups
  frzs:=u.frzs
  tbls:=u.tbls
theorem fly_hok {P:Program} {w:World} {H':Hp} {hs h2 B:Heap} (ok:HOk P w H' hs) (c1:∀ b o,H' b=some o→∀ ob,hs.get? b=some ob→B.get? b=some ob) (kb:B.StaysIn h2):HOk P w H' h2:=fun a o e =>
  (ok a o e).stay (fun b u hb q=>by
    rcases hb with z | z
    · subst z
      exact kb _ _ (c1 _ _ e u q)
    · exact kb _ _ (c1 _ _ z u q)) (fun _ q=>q) fun _ _ q=>q
theorem fly_cov {P:Program} {w:World} {H':Hp} {hs h2 B:Heap} (ok:HOk P w H' hs) (c1:∀ b o,H' b=some o→∀ ob,hs.get? b=some ob→B.get? b=some ob) (kb:B.StaysIn h2):∀ b o,H' b=some o→∀ ob,h2.get? b=some ob→B.get? b=some ob:=fun b o e ob q=>by
  obtain ⟨u,hu⟩:=(ok b o e).ex
  have z:=c1 b o e u hu
  rw [kb b u z] at q
  cases q
  exact z
section
variable {P:Program} {w:World} {K:PySem.W.Frag} {mg:Str→Option Value} {base:Heap} {N:List Str} {qual:Str} {scope:Scope} {f:Addr} {cd:Value} {A:Around} {outer:List Env} {s:Shared} {H:Hp} {E:XK}
theorem fly_out {pins:List (Addr × Obj)} {σ:St} {H1 H':Hp} {s1:Shared} {h2 B:Heap} {a t:Addr} {cls:Value} {od:Option Addr} {g2:Array GenState} {d2:Drawn} {t2:Nat}
    (J:Inv (cxOf (Fly P w) P w K mg base N qual scope f cd A outer s H E) pins σ H' ⟨h2,g2,d2,t2,s.os⟩) (fl:Heap.FlyingW B outer a cls (.ref t) h2) (xd:XD h2 a od) (na:H' a=none) (c1:∀ b o,H' b=some o→∀ ob,h2.get? b=some ob→B.get? b=some ob)
    (I:Inv (cxOf (Fly P w) P w K mg base N qual scope f cd A outer s H E) pins σ H1 s1) (c2:∀ b ob,s1.heap.get? b=some ob→b ∉ frs (cxOf (Fly P w) P w K mg base N qual scope f cd A outer s H E).stack→∃ o2,B.get? b=some o2∧(H1 b=none→o2=ob)) (q:E cls od H') :
    Fly P w outer H s E (.ref a) ⟨h2,g2,d2,t2,s.os⟩:=by
  refine ⟨a,t,cls,od,B,H',rfl,rfl,J.bare,J.base,J.hok,fl,xd,na,c1,fun b ob hb hf=>?_,q⟩
  have hlt:b ≠ (cxOf (Fly P w) P w K mg base N qual scope f cd A outer s H E).env.locals:=fun z=>by
    have h1:=Heap.lt_size hb
    have h2:=I.ok.above
    rw [z] at h1
    exact Nat.lt_irrefl _ (Nat.lt_of_lt_of_le h1 h2)
  have nst:b ∉ frs (cxOf (Fly P w) P w K mg base N qual scope f cd A outer s H E).stack:=fun z=>by
    rcases List.mem_cons.mp (I.stkSub b z) with y | y
    · exact hlt y
    · exact hf y
  obtain ⟨o',ho'⟩:=I.base.there b ob hb (by simp [cxOf])
  obtain ⟨o2,e2,z2⟩:=c2 b o' ho' nst
  refine ⟨o2,e2,fun hn=>?_⟩
  have k:=I.base.keep b ob hb hn hf (by simp [cxOf])
  rw [ho'] at k
  cases k
  exact z2 (I.base.free b ob hb hn (by simp [cxOf]))
theorem fly_pass {E1:XK} (imp:∀ c o H',E1 c o H'→E c o H'):Passes (Fly P w) (cxOf (Fly P w) P w K mg base N qual scope f cd A outer s H E) E1:=by
  intro pins σ H1 s1 e s' I h
  obtain ⟨a,t,cls,od,B,H',rfl,os,bare,un,hok,fl,xd,na,c1,c2,q⟩:=h
  have go:wpAny (model P w) (A.deeper (envOfC qual scope s.heap.objs.size f cd)) (leaving (envOfC qual scope s.heap.objs.size f cd) (.ref a))
      (fun _ s''=>∃ h2,s''={ s' with heap:=h2 }∧Heap.FlyingW B outer a cls (.ref t) h2∧s'.heap.UpToSlots h2) (fun _ _=>False) s' :=
    wpAny_leaves_onW (env:=envOfC qual scope s.heap.objs.size f cd) (outer:=outer) I.ok.frames rfl fl fun h2 f2 u2=>⟨h2,rfl,f2,u2⟩
  refine wpAny_mono (wp_xd (kpd_leaving _ _) xd go) (fun _ s'' hs=>?_) fun _ _ z=>z.elim
  obtain ⟨⟨h2,e2,fl2,us2⟩,xd2⟩:=hs
  subst e2
  obtain ⟨hp',g',d',t',os'⟩:=s'
  have J:=I.call' (s':=⟨h2,g',d',t',os'⟩) (ch:=[]) os (fly_un un fl.2.2.1 c2 fl2.1 us2) (fly_hok hok c1 fl2.1) bare (fun b z=>absurd z (by simp))
  have eo:os'=s.os:=J.os
  subst eo
  exact fly_out J fl2 xd2 na (fly_cov hok c1 fl2.1) I c2 (imp _ _ _ q)
end
def xo (C a:Addr) (od:Option Addr):HO:=.ext fun h=>∃ t,h.get? a=some (excObj C t od)
def del (H:Hp) (a:Addr):Hp:=fun b=>if b=a then none else H b
theorem del_same {H:Hp} {a:Addr}:del H a a=none:=by unfold del; rw [if_pos rfl]
theorem del_ne {H:Hp} {a b:Addr} (h:b ≠ a):del H a b=H b:=by unfold del; rw [if_neg h]
theorem xo_ok {P:Program} {w:World} {H:Hp} {h:Heap} {C a t:Addr} {od:Option Addr} (e:h.get? a=some (excObj C t od)):ObjOk P w H h a (xo C a od):=⟨⟨t,e⟩,⟨_,e⟩,fun h1 h2 ⟨t',e'⟩ k=>⟨t',k _ e'⟩⟩
theorem xo_get {P:Program} {w:World} {H:Hp} {h:Heap} {C a:Addr} {od:Option Addr} (ok:HOk P w H h) (e:H a=some (xo C a od)):∃ t,h.get? a=some (excObj C t od):=(show ObjOk P w H h a (xo C a od) from ok a _ e).1
theorem Inv.drop {X:Cx} {pins:List (Addr × Obj)} {σ:St} {H:Hp} {s:Shared} {a:Addr} {φ:Heap→Prop} (I:Inv X pins σ H s) (hn:X.s₀.heap.objs.size ≤ a) (hx:H a=some (.ext φ)):Inv X pins σ (del H a) s:=by
  have ne:∀ {b:Addr} {o:HO},H b=some o→(∀ ψ,o ≠ .ext ψ)→b ≠ a:=fun {b o} e n z=>by
    rw [z,hx] at e
    exact n φ (Option.some.inj e).symm
  have non:∀ {b:Addr},H b=none→del H a b=none:=fun {b} e=>by
    by_cases z:b=a
    · rw [z]; exact del_same
    · rw [del_ne z]; exact e
  refine ⟨I.ok,I.os,I.bare,⟨I.base.keep,I.base.slot,fun b o q n hb=>non (I.base.free b o q n hb),I.base.there,fun b xs q=>?_,fun b o u q=>?_,fun b ps q=>?_⟩,I.loc,I.cell,non I.free,fun x c e=>non (I.freeC x c e),fun p hp=>?_,fun b o e=>?_,I.len⟩
  · have z:=I.base.tups b xs q
    rw [del_ne (ne z fun ψ e=>by cases e)]
    exact z
  · have z:=I.base.frzs b o u q
    rw [del_ne (ne z fun ψ e=>by cases e)]
    exact z
  · obtain ⟨more,z⟩:=I.base.tbls b ps q
    exact ⟨more,by rw [del_ne (ne z fun ψ e=>by cases e)]; exact z⟩
  · obtain ⟨p1,p2,p3,p4,p5⟩:=I.pin p hp
    exact ⟨p1,non p2,p3,p4,p5⟩
  · have hb:b ≠ a:=fun z=>by rw [z,del_same] at e; cases e
    rw [del_ne hb] at e
    refine (I.hok b o e).stay (fun c u _ q=>q) (fun c q=>?_) fun c xs q=>?_
    · rw [del_ne (ne q fun ψ e=>by cases e)]
      exact q
    · rw [del_ne (ne q fun ψ e=>by cases e)]
      exact q
section
variable {P:Program} {w:World} {K:PySem.W.Frag} {mg:Str→Option Value} {base:Heap} {N:List Str} {qual:Str} {scope:Scope} {f:Addr} {cd:Value} {A:Around} {outer:List Env} {s:Shared} {H:Hp} {E:XK}
theorem fly_drop {pins:List (Addr × Obj)} {σ:St} {H1:Hp} {s1:Shared} {a C:Addr} {od:Option Addr} (I:Inv (cxOf (Fly P w) P w K mg base N qual scope f cd A outer s H E) pins σ H1 s1) (hs:s.heap.objs.size ≤ a) (ha:H1 a=some (xo C a od)) (q:E (.ref C) od (del H1 a)) :
    (cxOf (Fly P w) P w K mg base N qual scope f cd A outer s H E).xe (.ref a) s1:=by
  obtain ⟨t,et⟩:=xo_get I.hok ha
  have ID:=I.drop hs ha
  have nfa:a ∉ frs (cxOf (Fly P w) P w K mg base N qual scope f cd A outer s H E).stack:=fun z=>by
    rw [I.stkFree a z] at ha
    cases ha
  have ff:=I.stack
  have hin:∀ env ∈ (cxOf (Fly P w) P w K mg base N qual scope f cd A outer s H E).stack,∀ b,env.frame=some b→b ∈ a :: frs (cxOf (Fly P w) P w K mg base N qual scope f cd A outer s H E).stack:=fun env he b hb=>List.mem_cons_of_mem _ (List.mem_filterMap.mpr ⟨env,he,hb⟩)
  have ff2:=PySem.W.funFrames_hide (as:=a :: frs (cxOf (Fly P w) P w K mg base N qual scope f cd A outer s H E).stack) ff hin
  have st:Heap.StaysIn (PySem.W.hideAll s1.heap (a :: frs (cxOf (Fly P w) P w K mg base N qual scope f cd A outer s H E).stack)) s1.heap:=fun b o q=>PySem.W.of_hideAll _ q
  have hid:(PySem.W.hideAll s1.heap (a :: frs (cxOf (Fly P w) P w K mg base N qual scope f cd A outer s H E).stack)).get? a=none:=PySem.W.hideAll_none _ List.mem_cons_self
  have xd:XD s1.heap a od:=⟨_,et,rfl⟩
  have go:wpAny (model P w) (A.deeper (envOfC qual scope s.heap.objs.size f cd)) (leaving (envOfC qual scope s.heap.objs.size f cd) (.ref a))
      (fun _ s''=>∃ h3,s''={ s1 with heap:=h3 }∧Heap.LeftW (PySem.W.hideAll s1.heap (a :: frs (cxOf (Fly P w) P w K mg base N qual scope f cd A outer s H E).stack)) (envOfC qual scope s.heap.objs.size f cd :: outer) a (.ref C) (.ref t) s1.heap h3) (fun _ _=>False) s1 :=
    wpAny_leaving_firstW (env:=envOfC qual scope s.heap.objs.size f cd) (outer:=outer) (a0:=.ref t) I.ok.frames ff2 rfl et st hid rfl rfl rfl fun h3 L3=>⟨h3,rfl,L3⟩
  refine wpAny_mono (wp_xd (kpd_leaving _ _) xd go) (fun _ s'' hs=>?_) fun _ _ z=>z.elim
  obtain ⟨⟨h3,e3,⟨k1,⟨_,_,k2⟩,k3,k4⟩⟩,xd3⟩:=hs
  subst e3
  obtain ⟨hp1,g1,d1,t1,os1⟩:=s1
  have un:Un (frs (cxOf (Fly P w) P w K mg base N qual scope f cd A outer s H E).stack) [a] (del H1 a) (del H1 a) hp1 h3:=by
    refine ⟨fun b o e n hb hx=>k1 b o (PySem.W.hideAll_get _ e fun z=>?_),fun b o e n hb hx=>?_,fun _ _ _ n _=>n,fun b o e hx=>?_,fun _ _ e=>e,fun _ _ _ e=>e,fun _ ps e=>⟨#[],by rw [e]; simp⟩⟩
    · rcases List.mem_cons.mp z with y | y
      · exact hx (by rw [y]; exact List.mem_singleton.mpr rfl)
      · exact hb y
    · obtain ⟨_,o',e',nf⟩:=ff.mem hb
      rw [e] at e'
      cases e'
      exact k4 b o e nf
    · by_cases hb:b ∈ frs (cxOf (Fly P w) P w K mg base N qual scope f cd A outer s H E).stack
      · obtain ⟨_,o',e',nf⟩:=ff.mem hb
        obtain ⟨sl,e2⟩:=k4 b o' e' nf
        exact ⟨_,e2⟩
      · exact ⟨o,k1 b o (PySem.W.hideAll_get _ e fun z=>by
          rcases List.mem_cons.mp z with y | y
          · exact hx (by rw [y]; exact List.mem_singleton.mpr rfl)
          · exact hb y)⟩
  have c1:∀ b o,del H1 a b=some o→∀ ob,hp1.get? b=some ob→(PySem.W.hideAll hp1 (a :: frs (cxOf (Fly P w) P w K mg base N qual scope f cd A outer s H E).stack)).get? b=some ob:=fun b o e ob eb=>by
    have hb:b ≠ a:=fun z=>by rw [z,del_same] at e; cases e
    rw [del_ne hb] at e
    refine PySem.W.hideAll_get _ eb fun z=>?_
    rcases List.mem_cons.mp z with y | y
    · exact hb y
    · rw [I.stkFree b y] at e
      cases e
  have J:=ID.call' (s':=⟨h3,g1,d1,t1,os1⟩) (ch:=[a]) rfl un (fly_hok ID.hok c1 k1) ID.bare (fun b z=>by
    rw [List.mem_singleton.mp z]
    refine ⟨.inr hs,fun y=>?_,fun x c e y=>?_,fun p hp y=>?_⟩
    · rw [y,I.free] at ha
      cases ha
    · have:=I.freeC x c e
      rw [y,ha] at this
      cases this
    · have:=(I.pin p hp).2.1
      rw [y,ha] at this
      cases this)
  have eo:os1=s.os:=J.os
  subst eo
  refine ⟨a,t,.ref C,od,_,del H1 a,rfl,rfl,J.bare,J.base,J.hok,⟨k1,hid,k2,k3⟩,xd3,del_same,fly_cov ID.hok c1 k1,fun b ob hb hf=>?_,q⟩
  have hlt:b ≠ (cxOf (Fly P w) P w K mg base N qual scope f cd A outer s H E).env.locals:=fun z=>by
    have h1:=Heap.lt_size hb
    have h2:=I.ok.above
    rw [z] at h1
    exact Nat.lt_irrefl _ (Nat.lt_of_lt_of_le h1 h2)
  have nba:b ≠ a:=fun z=>by
    have h1:=Heap.lt_size hb
    rw [z] at h1
    exact Nat.lt_irrefl _ (Nat.lt_of_lt_of_le h1 hs)
  have nst:b ∉ a :: frs (cxOf (Fly P w) P w K mg base N qual scope f cd A outer s H E).stack:=fun z=>by
    rcases List.mem_cons.mp z with y | y
    · exact nba y
    · rcases List.mem_cons.mp (I.stkSub b y) with x | x
      · exact hlt x
      · exact hf x
  obtain ⟨o',ho'⟩:=I.base.there b ob hb (by simp [cxOf])
  refine ⟨o',PySem.W.hideAll_get _ ho' nst,fun hn=>?_⟩
  have k:=I.base.keep b ob hb hn hf (by simp [cxOf])
  rw [show hp1.get? b=some o' from ho'] at k
  exact Option.some.inj k
end
theorem Fun.okE {P:Program} {w:World} {K:PySem.W.Frag} {mg:Str→Option Value} {base:Heap} {x qual:Str} {st:Stmt} {f:Addr} {fd:FuncData} {N ps:List Str} {k:Nat} {sp:Sp} (F:Fun K x qual st f fd) (S:FnScope N ps (defScope st)) (len:∀ vs H Q E,sp vs H Q E→vs.length=ps.length)
    (hbody:∀ (cdv:Value) (A:Around) (outer:List Env) (s:Shared) (H:Hp) (vs:List V) (Q:VK) (E:XK),Room k (A.deeper (envOfC qual (defScope st) s.heap.objs.size f cdv))→sp vs H Q E →
      ∃ t,PSs (cxOf (Fly P w) P w K mg base N qual (defScope st) f cdv A outer s H E) (defBody st) t∧t { nx:=fun _ H'=>Q .non H',rt:=Q } (start N vs) H):FnOk P w K mg base (Fly P w) (k + 1) f fd ps sp:=by
  obtain ⟨oc,od,kV,doc,pm,an,cdv,ct,osl,rfl,lk,hcd⟩:=F.ex
  exact fn_of lk hcd S len fun A outer s H vs Q E hr hsp=>hbody cdv A outer s H vs Q E hr hsp
abbrev veMro:List Value:=[.type "ValueError",.type "Exception",.type "BaseException",.type "object"]
def ownIn (K:PySem.W.Frag) (C f:Addr):Bool:=match K.lookup C with
  | some ⟨.type "type",_,.cls cd,sl⟩=>(match cd.mro,sl.toList with
    | .ref C' :: bm,[_,_,_,_,some (.builtin n),_]=>C' == C && n == "ValueError.__new__" && !cd.hasDel && PySem.W.tailIn K veMro bm && PySem.W.nsOkIn K cd.ns && PySem.W.nsIn K cd.ns "__init__" == some (some (.ref f))
    | _,_=>false)
  | _=>false
structure OwnAt (h:Heap) (C f:Addr):Prop where
  out:∃ bm ns nm qn bs hd sn sub ab col dd k0 k1 k2 k3 k5,h.get? C=some (excClassObj nm qn C ns bs bm hd sn sub ab col dd k0 k1 k2 k3 k5 "ValueError.__new__")∧OwnTail h veMro bm∧h.Ns ns (h.nsMap ns)∧h.nsMap ns "__init__"=some (.ref f)
theorem ns_some {K:PySem.W.Frag} {h:Heap} {N:Addr} {m:Str→Option Value} {n:Str} {v:Value} (X:K.In h) (G:h.Ns N m) (e:PySem.W.nsIn K N n=some (some v)):m n=some v:=by
  obtain ⟨o,es,ep,ho,hd,_,hf⟩:=G
  unfold PySem.W.nsIn at e
  split at e
  · rename_i c d es' n' sl q
    have z:=X _ _ q
    rw [ho] at z
    cases z
    cases hd
    split at e
    · rename_i en he
      rw [← hf]
      unfold nsFind findBy
      rw [← Array.find?_toList,he]
      cases e
      rfl
    · split at e <;> cases e
  · cases e
theorem ownAt_of {K:PySem.W.Frag} {h:Heap} {C f:Addr} (X:K.In h) (q:ownIn K C f=true):OwnAt h C f:=by
  unfold ownIn at q
  split at q
  · rename_i dd cd sl ho
    split at q
    · rename_i C' bm k0 k1 k2 k3 n k5 hm hs
      simp only [Bool.and_eq_true,beq_iff_eq,Bool.not_eq_true'] at q
      obtain ⟨⟨⟨⟨⟨rfl,rfl⟩,hdel⟩,ht⟩,hok⟩,hni⟩:=q
      obtain ⟨nm,bs,mro,ns,qn,hd,sn,sub,ab,col,dl⟩:=cd
      dsimp only at hm hdel hok hni
      subst hm hdel
      have hsl:sl=#[k0,k1,k2,k3,some (.builtin "ValueError.__new__"),k5]:=by
        obtain ⟨l⟩:=sl
        simp only at hs
        rw [hs]
      subst hsl
      have hN:h.Ns ns (h.nsMap ns):=.of_isNs (PySem.W.isNs_of_in X hok)
      exact ⟨bm,ns,nm,qn,bs,hd,sn,sub,ab,col,dd,k0,k1,k2,k3,k5,X _ _ ho,PySem.W.tail_of_in X ht,hN,ns_some X hN hni⟩
    · cases q
  · cases q
end L2
namespace L2
open PySem PySem.Spec PyProof.Rows
section
variable {P:Program} {w:World} {K:PySem.W.Frag} {mg:Str→Option Value} {base:Heap} {N:List Str} {qual:Str} {scope:Scope} {f:Addr} {cd:Value} {A:Around} {outer:List Env} {s₀:Shared} {H₀:Hp} {E:XK}
  {C fI:Addr} {dI:FuncData} {ps:List Str} {sp:Sp} {k:Nat} {x:Str} {np cpos pos:Pos} {e:Expr} {es:List Expr} {t:TA}
def sRaiseI (C:Addr) (sp:Sp) (E:XK) (t:TA):TS:=fun _ σ H=>t σ H fun vs H1=>vs.length ≤ 1000∧∀ a,H1 a=none→sp (.ref a :: vs) (upd H1 a (xo C a none)) (fun v H2=>v=.non∧∃ dx,H2 a=some (xo C a (some dx))∧E (.ref C) (some dx) (del H2 a)) E0
theorem ps_raiseI (O:ownIn K C fI=true) (hfn:PySem.W.isFn K (.ref fI)=true) (kp:PySem.W.keepIn K (.ref C)=true) (G:FnOk P w K mg base CX0 k fI dI ps sp) (hr:Room (k + 1) (cxOf (Fly P w) P w K mg base N qual scope f cd A outer s₀ H₀ E).A)
    (hg:Gl (cxOf (Fly P w) P w K mg base N qual scope f cd A outer s₀ H₀ E) x) (hm:mg x=some (.ref C)) (hb:Binds K dI ps []) (ha:PA (cxOf (Fly P w) P w K mg base N qual scope f cd A outer s₀ H₀ E) (e :: es) t) (hdb:(x == ("__debug__":Str))=false:=by decide)
    (he:starEach (e :: es) (cxOf (Fly P w) P w K mg base N qual scope f cd A outer s₀ H₀ E).env=(false,eval e (cxOf (Fly P w) P w K mg base N qual scope f cd A outer s₀ H₀ E).env) :: starEach es (cxOf (Fly P w) P w K mg base N qual scope f cd A outer s₀ H₀ E).env:=by rfl)
    (hpl:(backTo cpos (starEach es (cxOf (Fly P w) P w K mg base N qual scope f cd A outer s₀ H₀ E).env)).any (·.1)=false:=by rfl) :
    PS (cxOf (Fly P w) P w K mg base N qual scope f cd A outer s₀ H₀ E) (.Raise (some (.Call (.Name x np) (e :: es) [] cpos)) none pos) (sRaiseI C sp E t):=by
  intro pins s σ H D I h
  obtain ⟨bm,ns,nm,qn,bs,hd,sn,sub,ab,col,dd,k0,k1,k2,k3,k5,hC0,hT0,hN0,hi0⟩:=(ownAt_of I.ok.mod.kin O).out
  have hbase:bm.contains (.type "BaseException")=true:=hT0.hasType (by decide +kernel)
  refine raise_own (C:=C) (nm:=nm) (q:=qn) (N:=ns) (bs:=bs) (bm:=bm) (hdct:=hd) (sn:=sn) (sub:=sub) (ab:=ab) (col:=col) (dd:=dd) (k0:=k0) (k1:=k1) (k2:=k2) (k3:=k3) (k5:=k5) (newId:="ValueError.__new__") hbase (I.ok.hd rfl) ?_
  refine wpAny_Call_Name_kw (ld_glob I hg hm ?_ hdb)
  refine PySem.W.callWith_K (h₀:=base) I.ok.mod.kin kp (thn (ha cpos pins s σ H _ I h) fun us s1 ⟨vs,H1,I1,r,hvl,q⟩=>⟨I1.kIn,?_⟩) he hpl
  have hl1:=r.length
  have kb:=I1.bk
  obtain ⟨oF,hoF,hcF⟩:=Option.map_eq_some_iff.mp (beq_iff_eq.mp hfn)
  have hq:=q (s1.heap.objs.size + 1) (I1.hok.fresh (Nat.le_succ _))
  have hz:us.length ≤ sizeLine:=by
    rw [← hl1]
    exact Nat.le_of_lt (Nat.lt_of_le_of_lt hvl (by decide))
  have x1:((s1.heap.push (tupObj us)).push (excObj C s1.heap.objs.size none)).get? (s1.heap.objs.size + 1)=some (excObj C s1.heap.objs.size none):=by
    have z:=Heap.get?_push_size (s1.heap.push (tupObj us)) (o:=excObj C s1.heap.objs.size none) rfl
    rwa [Heap.size_push] at z
  have IA:=I1.kept (h':=s1.heap.push (tupObj us)) (t':=s1.toks) fun b u e=>Heap.get?_push_of_some _ e
  have I2:=IA.laid (a:=s1.heap.objs.size + 1) (o:=xo C (s1.heap.objs.size + 1) none) (h':=(s1.heap.push (tupObj us)).push (excObj C s1.heap.objs.size none)) (t':=s1.toks) (fun b u e=>Heap.get?_push_of_some _ e) (Nat.le_of_eq (Heap.size_push _ _)) (xo_ok x1)
  have r2:Vals (V.ref (s1.heap.objs.size + 1) :: vs) (Value.ref (s1.heap.objs.size + 1) :: us):=.cons rfl r
  have hl:(Value.ref (s1.heap.objs.size + 1) :: us).length=ps.length:=by
    have e:=r2.length
    rw [G.len _ _ _ _ hq] at e
    exact e.symm
  obtain ⟨hp1,g1,d1,t1,os1⟩:=s1
  refine call_own PySem.F.excBase_ValueError (by decide +kernel) PySem.F.excBase_ValueError (hT0.keeps kb) (kb _ _ hC0) (hN0.keeps kb) hi0 (I1.kIn _ _ hoF) hcF ?_ hz
  have hb2:=hb ⟨(hp1.push (tupObj us)).push (excObj C hp1.objs.size none),g1,d1,t1,os1⟩ (Value.ref (hp1.objs.size + 1) :: us) I2.kIn (by rw [List.append_nil]; exact hl)
  rw [List.append_nil] at hb2
  refine codeAny_mono (G.run _ (cxOf (Fly P w) P w K mg base N qual scope f cd A outer s₀ H₀ E).stack ⟨(hp1.push (tupObj us)).push (excObj C hp1.objs.size none),g1,d1,t1,os1⟩ _ ⟨Value.ref (hp1.objs.size + 1) :: us,[]⟩ (Value.ref (hp1.objs.size + 1) :: us) _ _ E0 (hr.make C us []) (I2.env0.make C us []) hb2 r2 hq) fun r s' hq'=>?_
  cases r with
  | error e=>exact hq'.elim
  | ok fl =>
    cases fl with
    | ret u =>
      obtain ⟨v,H',I3,rv,ev,dx,ha3,q3⟩:=I2.after hq'
      subst ev
      obtain ⟨t3,e3⟩:=xo_get I3.hok ha3
      refine ⟨rv,_,t3,some dx,rfl,I3.bk _ _ hC0,e3,fly_drop I3 ?_ ha3 q3⟩
      exact Nat.le_trans I1.sz (Nat.le_succ _)
    | next=>exact hq'.elim
    | brk=>exact hq'.elim
    | cont=>exact hq'.elim
end
structure ExcC (K:PySem.W.Frag) (C:Addr):Prop where
  ov:excOver K C=true
  sa:PySem.W.findIn K (.ref C) "__setattr__"=some (some (.builtin "object.__setattr__"))
  ga:PySem.W.findIn K (.ref C) "__getattribute__"=some (some (.builtin "BaseException.__getattribute__"))
  gt:PySem.W.findIn K (.ref C) "__getattr__"=some none
  mb:PySem.W.mroIn K C (.type "BaseException")=some true
  mo:PySem.W.mroIn K C (.type "object")=some true
  cl:PySem.W.findIn K (.ref C) "__class__"=some (some (.builtin "object.__class__"))
  cg:PySem.W.specialIn K (.builtin "object.__class__") "__get__"=some (some (.builtin "getset_descriptor.__get__"))
  ct:PySem.W.takesIn K (.builtin "object.__class__")=some true
section
variable {X:Cx} {o value:Expr} {fl:Str} {pos pos':Pos} {ta tv:TE}
def sFldX (K:PySem.W.Frag) (ta tv:TE) (fl:Str):TS:=fun D σ H=>tv σ H fun y H1=>ta σ H1 fun x H2=>∃ a C,x=.ref a∧H2 a=some (xo C a none)∧ExcC K C∧PySem.W.findIn K (.ref C) fl=some none∧∀ dx,H2 dx=none→D.nx σ (upd (upd H2 dx (.xd [(fl,y)])) a (xo C a (some dx)))
theorem ps_fldX (ha:PE X o ta) (hv:PE X value tv) (hs:swapsWith value (some (.Attribute o fl pos')) pos.line X.env=pure false):PS X (.Assign [.Attribute o fl pos'] value pos) (sFldX X.K ta tv fl):=by
  intro pins s σ H D I h
  refine plainObj_wpAny_Assign_Attribute (thn (hv pins s σ H _ I h) fun u s1 ⟨y,H1,I1,ry,q⟩=>thn (ha pins s1 σ H1 _ I1 q) fun ov s2 ⟨x,H2,I2,rx,a,C,ex,ea,ec,hf,q2⟩=>?_) hs
  subst ex
  obtain rfl:ov=Value.ref a:=rx
  obtain ⟨t,et⟩:=xo_get I2.hok ea
  refine set_exc I2.kIn et ec.ov hf ec.sa fun h' tk hx' hn' kp=>?_
  have fr:H2 s2.heap.objs.size=none:=I2.hok.fresh (Nat.le_refl _)
  have nda:s2.heap.objs.size ≠ a:=fun z=>by rw [z,ea] at fr; cases fr
  have ne:∀ {b:Addr} {o:HO},H2 b=some o→(∀ ψ,o ≠ .ext ψ)→b ≠ a:=fun {b o} e n z=>by
    rw [z,ea] at e
    exact n _ (Option.some.inj e).symm
  refine ⟨σ,_,I2.un (h':=h') (t':=tk) (H':=upd (upd H2 s2.heap.objs.size (.xd [(fl,y)])) a (xo C a (some s2.heap.objs.size))) ⟨fun b o e n _ _=>kp b o (fun z=>by rw [z,ea] at n; cases n) e,fun b o e n _ _=>⟨o.slots,kp b o (fun z=>by rw [z,ea] at n; cases n) e⟩,fun b o e n _=>?_,fun b o e _=>?_,fun b xs e=>?_,fun b o u e=>?_,fun b ps e=>⟨#[],?_⟩⟩ (fun b o e=>?_),q2 _ fr⟩
  · rw [upd_ne (fun z=>by rw [z,ea] at n; cases n),upd_ne (Nat.ne_of_lt (Heap.lt_size e))]
    exact n
  · by_cases z:b=a
    · rw [z]; exact ⟨_,hx'⟩
    · exact ⟨o,kp b o z e⟩
  · rw [upd_ne (ne e fun ψ z=>by cases z),upd_ne (ne_of_none e fr)]
    exact e
  · rw [upd_ne (ne e fun ψ z=>by cases z),upd_ne (ne_of_none e fr)]
    exact e
  · rw [upd_ne (ne e fun ψ z=>by cases z),upd_ne (ne_of_none e fr),e]
    simp
  · by_cases z:b=a
    · subst z
      rw [upd_same] at e
      cases e
      exact xo_ok hx'
    · rw [upd_ne z] at e
      by_cases z2:b=s2.heap.objs.size
      · subst z2
        rw [upd_same] at e
        cases e
        refine ⟨_,hn',fun g=>?_⟩
        show RelO (List.lookup g [(fl,y)]) (if g=fl then some u else none)
        rw [List.lookup_cons]
        by_cases eg:g=fl
        · rw [if_pos eg,show (g == fl)=true by simpa using eg]
          exact ry
        · rw [if_neg eg,show (g == fl)=false by simpa using eg]
          exact True.intro
      · rw [upd_ne z2] at e
        refine (I2.hok b o e).stay (fun c v hc q=>kp c v ?_ q) (fun c q=>?_) fun c xs q=>?_
        · rcases hc with y1 | y1
          · rw [y1]; exact z
          · exact ne y1 fun ψ z=>by cases z
        · rw [upd_ne (ne q fun ψ z=>by cases z),upd_ne (ne_of_none q fr)]
          exact q
        · rw [upd_ne (ne q fun ψ z=>by cases z),upd_ne (ne_of_none q fr)]
          exact q
end
def xh (C a:Addr) (od:Option Addr):HO:=.ext fun h=>∃ o,h.get? a=some o∧o.cls=.ref C∧o.dict=od∧PySem.W.notCls o=true
theorem xh_get {P:Program} {w:World} {H:Hp} {h:Heap} {C a:Addr} {od:Option Addr} (ok:HOk P w H h) (e:H a=some (xh C a od)):∃ o,h.get? a=some o∧o.cls=.ref C∧o.dict=od∧PySem.W.notCls o=true:=(show ObjOk P w H h a (xh C a od) from ok a _ e).1
theorem xh_ok {P:Program} {w:World} {H:Hp} {h:Heap} {C a:Addr} {od:Option Addr} {o:Obj} (e:h.get? a=some o) (hc:o.cls=.ref C) (hd:o.dict=od) (hn:PySem.W.notCls o=true):ObjOk P w H h a (xh C a od) :=
  ⟨⟨o,e,hc,hd,hn⟩,⟨_,e⟩,fun h1 h2 ⟨o',e',r⟩ k=>⟨o',k _ e',r⟩⟩
section
variable {X:Cx} {e:Expr} {fl:Str} {pos:Pos} {ta:TE}
def tFldX (K:PySem.W.Frag) (ta:TE) (fl:Str):TE:=fun σ H Q=>ta σ H fun x H1=>∃ a C dx fs v,x=.ref a∧H1 a=some (xh C a (some dx))∧H1 dx=some (.xd fs)∧ExcC K C∧PySem.W.hasDictIn K C=true∧PySem.W.findIn K (.ref C) fl=some none∧fs.lookup fl=some v∧Q v H1
theorem pe_fldX (he:PE X e ta) (hb:attributeBase e fl X.env (eval e X.env)=eval e X.env):PE X (.Attribute e fl pos) (tFldX X.K ta fl):=by
  intro pins s σ H Q I h
  refine attr_of hb (thn (he pins s σ H _ I h) fun ov s1 ⟨x,H1,I1,rx,a,C,dx,fs,v,ex,ea,ed,ec,hh,hf,l,q⟩=>?_)
  subst ex
  obtain rfl:ov=Value.ref a:=rx
  obtain ⟨o,e1,e2,e3,e4⟩:=xh_get I1.hok ea
  obtain ⟨mA,n1,r1⟩:=(show ObjOk X.prog X.w H1 s1.heap dx (.xd fs) from I1.hok dx _ ed)
  obtain ⟨od,ho,hl⟩:=lookIn_ns n1
  obtain ⟨u,hu,ru⟩:=RelO.some_of (v:=v) (o:=mA fl) (by rw [← l]; exact r1 fl)
  have IA:PySem.W.InstAt s1.heap a o C (some od):=⟨e1,e2,e4,by rw [e3]; exact ho⟩
  exact get_exc I1.kIn IA ec.ga ec.gt ec.mb (PySem.W.findObj_own hh hf rfl (by rw [hl,hu])) (handed_of ru) ⟨v,H1,I1.tok _,ru,q⟩
theorem findObj_cls {K:PySem.W.Frag} {C:Addr} {od:Option Obj} (ec:ExcC K C):PySem.W.findObj K C od "__class__"=some (.bind (.builtin "getset_descriptor.__get__") (.builtin "object.__class__")):=by
  obtain ⟨cd,hc,_⟩:=PySem.W.any_some ec.ov
  unfold PySem.W.findObj
  rw [hc,Option.bind_some,ec.cl,Option.bind_some]
  dsimp only
  rw [ec.cg,Option.bind_some]
  dsimp only
  rw [ec.ct,Option.bind_some]
theorem kitx_exc {K:PySem.W.Frag} {x C:Addr} (ec:ExcC K C):PySem.W.KitX K (.ref x) (.ref C) (fun h=>∃ ox od,PySem.W.InstAt h x ox C od) where
  ty:=fun _ _ _ ⟨_,_,I⟩=>I.type
  it:=fun _ _ X _=>by
    obtain ⟨cdD,hcD,_⟩:=PySem.W.any_some ec.ov
    unfold PySem.W.clsIn at hcD
    split at hcD
    · rename_i c' d' cd' sl' ho
      intro A' Q' E' s' k q
      unfold isType loadHead
      exact wpAny_bind (wpAny_loadPart (k _ _ (X _ _ ho)) (wpAny_pure q))
    · cases hcD
  ne:=fun h tp dd its n sl X htp=>by
    obtain ⟨cdD,hcD,_⟩:=PySem.W.any_some ec.ov
    refine Bool.eq_false_iff.mpr fun q=>?_
    have e:C=tp:=Value.ref.inj (beq_iff_eq.mp q)
    subst e
    unfold PySem.W.clsIn at hcD
    split at hcD
    · rename_i c' d' cd' sl' ho
      have z:=(X _ _ ho).symm.trans htp
      cases z
    · cases hcD
  ca:=fun X ⟨_,_,I⟩ k=>cls_exc X I ec.ga ec.gt ec.mb ec.mo (findObj_cls ec) k
def rInstX (K:PySem.W.Frag):List V→Hp→VK→Prop:=fun xs H Q=>∃ a C D od b,xs=[.ref a,.ref D]∧H a=some (xh C a od)∧(∀ dx,od=some dx→∃ fs,H dx=some (.xd fs))∧ExcC K C∧PySem.W.kitOne K (.ref C) (.ref D)=some b∧Q (.bl b) H
theorem call_isinstX:CallR X (.builtin "isinstance") (rInstX X.K):=by
  intro pins s σ H xs us Q I r h
  obtain ⟨a,C,D,od,b,e1,ea,ed,ec,ek,q⟩:=h
  subst e1
  obtain ⟨u,v,e3,r1,r2⟩:=vals2 r
  subst e3
  obtain rfl:u=Value.ref a:=r1
  obtain rfl:v=Value.ref D:=r2
  obtain ⟨o,e1,e2,e3,e4⟩:=xh_get I.hok ea
  have IA:∃ ox od,PySem.W.InstAt s.heap a ox C od:=by
    cases od with
    | none=>exact ⟨o,none,e1,e2,e4,by rw [e3]; exact True.intro⟩
    | some dx =>
      obtain ⟨fs,hfs⟩:=ed dx rfl
      obtain ⟨ob,hob⟩:=(I.hok dx _ hfs).ex
      exact ⟨o,some ob,e1,e2,e4,by rw [e3]; exact hob⟩
  exact PySem.W.kia_one (kitx_exc ec) I.kIn IA ek (fun z=>nomatch z) fun tk=>⟨.bl b,H,I.tok tk,rfl,q⟩
end
end L2
namespace L2
open PySem PySem.Spec PyProof.Rows
abbrev Cx.hot (X:Cx) (e:Value):Cx:={ X with A:=X.A.mark (some e),calm:=false,xe:=fun _ _=>False }
section
variable {X:Cx} {pins:List (Addr × Obj)} {σ:St} {H:Hp} {s:Shared}
theorem Inv.hot (I:Inv X pins σ H s) (e:Value):Inv (X.hot e) pins σ H s :=
  let ok:=I.ok
  ⟨⟨ok.mod,ok.kind,ok.glob,ok.blt,ok.above,ok.inj,ok.has,ok.cab,fun z=>absurd z Bool.false_ne_true,ok.frames,ok.stk,ok.exf,ok.bs,ok.bsz,ok.noex,ok.exfs,ok.funs,ok.frf⟩,I.os,I.bare,I.base,I.loc,I.cell,I.free,I.freeC,I.pin,I.hok,I.len⟩
theorem Inv.unhot {e:Value} (ok:X.Ok) (I:Inv (X.hot e) pins σ H s):Inv X pins σ H s:=⟨ok,I.os,I.bare,I.base,I.loc,I.cell,I.free,I.freeC,I.pin,I.hok,I.len⟩
theorem name_goes {M:Model} {A:Around} {E:Value→Shared→Prop} {i:Nat} {n:Str} {pos:Pos} {Q:Unit→Shared→Prop} (I:Inv X pins σ H s) (hN:X.N.Nodup) (hi:X.N[i]?=some n) (hk:X.env.kindOf n=some .local) (h:∀ s',Inv X pins (σ.set i none) H s'→Q () s') :
    wpAny M A (do bindName X.env n .none; unbindBehindTheSuite X.env n pos) Q E s:=by
  obtain ⟨m,hn,hl⟩:=id I.loc
  have hcls:(X.env.scope.kind == .class || (X.env.scope.kind == .module && X.env.locals != X.env.globals))=false:=by rw [I.ok.kind]; rfl
  have cne:=I.cne
  have hiσ:i < σ.length:=by rw [I.len]; exact (List.getElem?_eq_some_iff.mp hi).1
  refine wpAny_bind (wpAny_bindName (wpAny_storeName_local hk hn (fun h1 hn1 hs1=>?_) hcls))
  unfold unbindBehindTheSuite
  refine wpAny_onRaise ?_
  unfold unbindName
  refine wpAny_bind (wpAny_point (wpAny_bind ?_))
  unfold deleteName
  simp only [hk,hcls]
  rw [if_neg (by decide)]
  refine wpAny_bind (wpAny_nsDel_keeps hn1 fun h2 v hn2 hs2=>?_)
  simp only [if_true,Option.isSome_some,Bool.not_true,Bool.false_eq_true,if_false]
  refine wpAny_pure (wpAny_point ?_)
  have hs:=hs1.trans hs2
  obtain ⟨oL,_,_,hoL,_⟩:=id hn
  refine h _ ⟨I.ok,I.os,I.bare,⟨fun b o e n hb hx=>?_,fun b o e n hb hx=>?_,I.base.free,fun b o e hx=>?_,I.base.tups,I.base.frzs,I.base.tbls⟩,⟨_,hn2,fun j y v' e1 e2 e3=>?_⟩,fun y c e=>?_,I.free,I.freeC,fun p hp=>?_,fun b ob e=>?_,by simpa using I.len⟩
  · exact (hs.2 b (Nat.ne_of_lt (Nat.lt_of_lt_of_le (Heap.lt_size e) I.ok.above))).trans (I.base.keep b o e n hb hx)
  · obtain ⟨sl,e1⟩:=I.base.slot b o e n hb hx
    exact ⟨sl,(hs.2 b (Nat.ne_of_lt (Nat.lt_of_lt_of_le (Heap.lt_size e) I.ok.above))).trans e1⟩
  · obtain ⟨o',e1⟩:=I.base.there b o e hx
    exact ⟨o',(hs.2 b (Nat.ne_of_lt (Nat.lt_of_lt_of_le (Heap.lt_size e) I.ok.above))).trans e1⟩
  · by_cases hj:j=i
    · subst hj
      rw [List.getElem?_set_self hiσ] at e2
      cases e2
    · rw [List.getElem?_set_ne (Ne.symm hj)] at e2
      obtain ⟨u',r',q⟩:=hl j y v' e1 e2 e3
      refine ⟨u',r',?_⟩
      rcases q with ⟨k,e⟩ | ⟨k,c,e,z⟩
      · refine .inl ⟨k,?_⟩
        have:y ≠ n:=fun e=>hj (nodup_ix hN e1 (e ▸ hi))
        simp [this,e]
      · exact .inr ⟨k,c,e,z.sameBut hs (cne y c e)⟩
  · obtain ⟨w',z⟩:=I.cell y c e
    exact ⟨w',z.sameBut hs (cne y c e)⟩
  · obtain ⟨e,n,ne,nf,d⟩:=I.pin p hp
    exact ⟨(hs.2 p.1 ne).trans e,n,ne,nf,d⟩
  · refine (I.hok b ob e).stay (fun c w' hc q=>(hs.2 c ?_).trans q) (fun _ q=>q) fun _ _ q=>q
    rintro rfl
    rcases hc with rfl | hc
    · rw [I.free] at e; cases e
    · rw [I.free] at hc; cases hc
end
structure CatC (K:PySem.W.Frag) (D:Addr):Prop where
  cd:∃ cd,PySem.W.clsIn K D=some cd
  tp:PySem.W.instIn K (.ref D) (.type "tuple")=some false
  be:PySem.W.mroIn K D (.type "BaseException")=some true
def xSet (i:Nat) (D:Ends):Ends:={ nx:=fun σ H=>D.nx (σ.set i none) H,rt:=fun _ _=>False }
section
variable {X:Cx} {k:Nat} {f C1 C2:Addr} {fd:FuncData} {ps:List Str} {sp:Sp} {x y n c1 c2:Str} {p yp pos apos np1 np2 hp1 hp2 tpos:Pos} {e:Expr} {es:List Expr} {t:TA} {T1 T2:TS} {b1 b2:Stmt} {su1 su2:List Stmt} {iy i:Nat}
theorem suite_runs {C a:Addr} {od:Option Addr} {T:TS} {b:Stmt} {su:List Stmt} {hp:Pos} {B:Heap} {t0:Value} {H':Hp} {pins:List (Addr × Obj)} {σ:St} {s5:Shared} {D:Ends}
    (hN:X.N.Nodup) (hi:X.N[i]?=some n) (hk:X.env.kindOf n=some .local) (hs:PSs (X.hot (.ref a)) (b :: su) T) (ok:X.Ok)
    (J:∀ s6:Shared,s6.gens=s5.gens→s6.os=s5.os→Heap.FlyingW B X.stack a (.ref C) t0 s6.heap→s5.heap.UpToSlots s6.heap→XD s6.heap a od→Inv X pins σ (upd H' a (xh C a od)) s6) (fl:Heap.FlyingW B X.stack a (.ref C) t0 s5.heap) (xd:XD s5.heap a od)
    (q:T (xSet i D) (σ.set i (some (.ref a))) (upd H' a (xh C a od))) :
    codeAny (model X.prog X.w) (X.A.mark (some (.ref a))) (.handlers (.ref a) [.ExceptHandler none (some n) (b :: su) hp] X.env) (fun r s2=>match r with
          | .ok f=>wpAny (model X.prog X.w) X.A (do bindName X.env n .none; unbindBehindTheSuite X.env n hp) (fun _ s3=>SP X pins D f s3) X.xe s2
          | .error x=>cameBackBy (model X.prog X.w) X.A X.env X.xe x s2) s5:=by
  refine codeAny_handlers_suite_as ?_
  have go:wpAny (model X.prog X.w) (X.A.mark (some (.ref a))) (setFlight (.ref a) none) (fun _ s6=>∃ h6,s6={ s5 with heap:=h6 }∧Heap.FlyingW B X.stack a (.ref C) t0 h6∧s5.heap.UpToSlots h6) (fun _ _=>False) s5:=lands_againW fl fun h6 f6 u6=>⟨h6,rfl,f6,u6⟩
  refine wpAny_mono (wp_xd (kpd_flight _ _) xd go) (fun _ s6 z=>?_) fun _ _ z=>z.elim
  obtain ⟨⟨h6,e6,f6,u6⟩,x6⟩:=z
  subst e6
  have J6:=(J { s5 with heap:=h6 } rfl rfl f6 u6 x6).hot (.ref a)
  refine store_ok (X:=X.hot (.ref a)) (i:=i) (v:=.ref a) J6 hN hi (.inl hk) rfl (fun s7 I7=>?_) (.inr hk)
  refine wpAny_mono (hs pins s7 _ _ (xSet i D) I7 q) (fun fl s8 z=>?_) fun _ _ z=>z.elim
  cases fl with
  | next =>
    obtain ⟨σ8,H8,I8,q8⟩:=z
    exact name_goes (I8.unhot ok) hN hi hk fun s9 I9=>⟨_,H8,I9,q8⟩
  | brk=>obtain ⟨_,_,_,q8⟩:=z; exact q8.elim
  | cont=>obtain ⟨_,_,_,q8⟩:=z; exact q8.elim
  | ret u=>obtain ⟨_,_,_,_,_,q8⟩:=z; exact q8.elim
theorem fly_in {H1 H':Hp} {h1 hs h2 B:Heap} {P:Program} {w:World} {a C:Addr} {a0:Value} {od:Option Addr} {outer:List Env} (un:Un (frs outer) [] H1 H' h1 hs) (hok:HOk P w H' hs) (ffs:hs.FunFrames B outer) (na:H' a=none)
    (cc1:∀ b o,H' b=some o→∀ ob,hs.get? b=some ob→B.get? b=some ob) (cc2:∀ b ob,h1.get? b=some ob→b ∉ frs outer→∃ o2,B.get? b=some o2∧(H1 b=none→o2=ob)) (us:hs.UpToSlots h2) (fl:Heap.FlyingW B outer a (.ref C) a0 h2) (xd:XD h2 a od) :
    Un (frs outer) [] H1 (upd H' a (xh C a od)) h1 h2∧HOk P w (upd H' a (xh C a od)) h2:=by
  obtain ⟨oe,ws,hoe,hoec,hoed,hoe0⟩:=fl.first
  have nh1:∀ o,h1.get? a ≠ some o:=fun o eo=>by
    by_cases hb:a ∈ frs outer
    · obtain ⟨_,o',e',nf⟩:=fl.2.2.1.mem hb
      rw [hoe] at e'
      cases e'
      exact nf _ hoed
    · obtain ⟨o2,e2,_⟩:=cc2 a o eo hb
      rw [fl.2.1] at e2
      cases e2
  have u:=fly_un un ffs cc2 fl.1 us
  have ok:=fly_hok hok cc1 fl.1
  have ne:∀ {b:Addr} {o:HO},H' b=some o→b ≠ a:=fun {b o} e z=>by rw [z,na] at e; cases e
  refine ⟨⟨u.keep,u.slot,fun b o eo n hx=>?_,u.there,fun b xs eo=>?_,fun b o uu eo=>?_,fun b ps eo=>?_⟩,fun b o eo=>?_⟩
  · rw [upd_ne (fun z:b=a=>nh1 o (by rw [← z]; exact eo))]
    exact u.free b o eo n hx
  · have z:=u.tups b xs eo
    rw [upd_ne (ne z)]
    exact z
  · have z:=u.frzs b o uu eo
    rw [upd_ne (ne z)]
    exact z
  · obtain ⟨more,z⟩:=u.tbls b ps eo
    exact ⟨more,by rw [upd_ne (ne z)]; exact z⟩
  · by_cases z:b=a
    · subst z
      rw [upd_same] at eo
      cases eo
      obtain ⟨o',ho',hd'⟩:=xd
      rw [hoe] at ho'
      cases ho'
      exact xh_ok hoe hoec hd' (by unfold PySem.W.notCls; rw [hoed])
    · rw [upd_ne z] at eo
      exact (ok b o eo).stay (fun c v hc q=>q) (fun c q=>by rw [upd_ne (ne q)]; exact q) fun c xs q=>by rw [upd_ne (ne q)]; exact q
end
end L2
namespace L2
open PySem PySem.Spec PyProof.Rows
section
variable {X:Cx} {C1:Addr} {n c1:Str} {np1 hp1 tpos:Pos} {tb:XK→TS} {T1:TS} {b1:Stmt} {su1 body:List Stmt} {i:Nat}
end
section
variable {X:Cx} {tg:Expr}
end
section
variable {X:Cx}
def CDivC (_ j:Int):Prop:=0 < j∧j.natAbs.log2 < 9000
theorem op_fdivC:OpR X (binaryOp .FloorDiv) (rI CDivC fun i j=>.int (i / j)):=opI fun i j _ _ _ _ _ hc q=>by
  have h1:(0:Int) < j:=hc.1
  exact floordiv_int (by omega) (by rw [Int.fdiv_eq_ediv_of_nonneg i (by omega)]; exact q) (.inl (PyProof.noPylong_of_log2 hc.2))
end
end L2
namespace L2
open PySem PySem.Spec PyProof.Rows
section
variable {X:Cx} {C1 CT:Addr} {n c1:Str} {np1 hp1 tpos:Pos} {tb:XK→TS} {T1:TS} {b1:Stmt} {su1 body:List Stmt} {i:Nat}
def rInstXT (K:PySem.W.Frag):List V→Hp→VK→Prop:=fun xs H Q=>∃ (a C:Addr) (T:String) (od:Option Addr) (b:Bool),xs=[.ref a,.ty T]∧H a=some (xh C a od)∧(∀ dx,od=some dx→∃ fs,H dx=some (.xd fs))∧ExcC K C∧PySem.W.kitOne K (.ref C) (.type T)=some b∧Q (.bl b) H
theorem call_isinstXT:CallR X (.builtin "isinstance") (rInstXT X.K):=by
  intro pins s σ H xs us Q I r h
  obtain ⟨a,C,T,od,b,e1,ea,ed,ec,ek,q⟩:=h
  subst e1
  obtain ⟨u,v,e3,r1,r2⟩:=vals2 r
  subst e3
  obtain rfl:u=Value.ref a:=r1
  obtain rfl:v=Value.type T:=r2
  obtain ⟨o,e1,e2,e3,e4⟩:=xh_get I.hok ea
  have IA:∃ ox od,PySem.W.InstAt s.heap a ox C od:=by
    cases od with
    | none=>exact ⟨o,none,e1,e2,e4,by rw [e3]; exact True.intro⟩
    | some dx =>
      obtain ⟨fs,hfs⟩:=ed dx rfl
      obtain ⟨ob,hob⟩:=(I.hok dx _ hfs).ex
      exact ⟨o,some ob,e1,e2,e4,by rw [e3]; exact hob⟩
  exact PySem.W.kia_one (kitx_exc ec) I.kIn IA ek (fun z=>nomatch z) fun tk=>⟨.bl b,H,I.tok tk,rfl,q⟩
end
end L2
namespace L2
open PySem PySem.Spec PyProof.Rows
def Cat3 (i:Nat) (C1:Addr) (T1:TS) (D:Ends) (σ:St):XK:=fun cls od H'=>∀ a,H' a=none→cls=.ref C1∧T1 (xSet i D) (σ.set i (some (.ref a))) (upd H' a (xh C1 a od))
def sTryC (i:Nat) (C1:Addr) (sp:Sp) (t:TA) (T1:TS):TS:=fun D σ H=>t σ H fun vs H1=>sp vs H1 (fun _ H2=>D.nx σ H2) (Cat3 i C1 T1 D σ)
section
variable {X:Cx} {k:Nat} {f C1 CT:Addr} {fd:FuncData} {ps:List Str} {sp:Sp} {x n c1:Str} {p pos apos np1 hp1 tpos:Pos} {e:Expr} {es:List Expr} {t:TA} {T1:TS} {b1:Stmt} {su1:List Stmt} {i:Nat}
theorem ps_tryC (F:FnOk X.prog X.w X.K X.mg X.base (Fly X.prog X.w) k f fd ps sp) (hr:Room k X.A) (hg:Gl X x) (hm:X.mg x=some (.ref f)) (hk:PySem.W.keepIn X.K (.ref f)=true) (hb:Binds X.K fd ps []) (ha:PA X (e :: es) t)
    (hN:X.N.Nodup) (hi:X.N[i]?=some n) (hn:X.env.kindOf n=some .local) (g1:Gl X c1) (m1:X.mg c1=some (.ref C1)) (D1:CatC X.K C1) (t11:PySem.W.mroIn X.K CT (.ref C1)=some true)
    (hs1:∀ a,PSs (X.hot (.ref a)) (b1 :: su1) T1) (hex:X.stack=X.env :: X.outer) (hfr:X.env.frame=some X.env.locals) (hxe:∀ e s,X.xe e s→False) (hdb:(x == ("__debug__":Str))=false:=by decide) (hd1:(c1 == ("__debug__":Str))=false:=by decide)
    (he:starEach (e :: es) X.env=(false,eval e X.env) :: starEach es X.env:=by rfl) (hpl:(backTo pos (starEach es X.env)).any (·.1)=false:=by rfl)
    (hsw:swapsWith (.Call (.Name x p) (e :: es) [] pos) none apos.line X.env=pure false:=by rfl) :
    PS X (.Try [.Expr (.Call (.Name x p) (e :: es) [] pos) apos] [.ExceptHandler (some (.Name c1 np1)) (some n) (b1 :: su1) hp1] [] [] tpos) (sTryC i CT sp t T1):=by
  intro pins s σ H D I h
  refine wpAny_Try_except ?_
  have body:wpAny (model X.prog X.w) X.A (execs [.Expr (.Call (.Name x p) (e :: es) [] pos) apos] X.env) (fun f s1=>f=.next∧∃ H',Inv X pins σ H' s1∧D.nx σ H')
      (fun e s1=>X.xe e s1 ∨ ∃ H1 s0,Inv X pins σ H1 s0∧Fly X.prog X.w X.stack H1 s0 (Cat3 i CT T1 D σ) e s1) s:=by
    refine wpAny_execs_cons (wpAny_Expr_any ?_ I.quiet hsw)
    refine wpAny_Call_Name_kw (ld_glob I hg hm ?_ hdb)
    refine PySem.W.callWith_K (h₀:=X.base) I.ok.mod.kin hk (wpAny_mono (ha pos pins s σ H _ I h) (fun us s1 ⟨vs,H1,I1,r,q⟩=>⟨I1.kIn,?_⟩) fun _ _ z=>.inl z) he hpl
    have hl:us.length=ps.length:=by rw [← r.length]; exact F.len _ _ _ _ q
    have hb2:=hb s1 us I1.kIn (by rw [List.append_nil]; exact hl)
    rw [List.append_nil] at hb2
    refine wpAny_call (codeAny_mono (F.run X.A X.stack s1 H1 ⟨us,[]⟩ us vs _ _ hr I1.env0 hb2 r q) fun r s' hq=>?_)
    cases r with
    | error e=>exact .inr ⟨H1,s1,I1,hq⟩
    | ok fl =>
      cases fl with
      | ret u =>
        obtain ⟨v,H2,I2,rv,q2⟩:=I1.after hq
        exact wpAny_execs_nil ⟨rfl,H2,I2,q2⟩
      | next=>exact False.elim hq
      | brk=>exact False.elim hq
      | cont=>exact False.elim hq
  refine wpAny_mono body (fun f s1 z=>?_) (fun ev s1 z=>?_)
  · obtain ⟨rfl,H',I',q⟩:=z
    exact wpAny_execs_nil ⟨σ,H',I',q⟩
  · rcases z with z | ⟨H1,s0,I1,z⟩
    · exact (hxe _ _ z).elim
    obtain ⟨a,t,cls,od,B,H',rfl,os,bare,un,hok,fl,xd,na,cc1,cc2,q⟩:=z
    have fr:X.A.frames=some (X.env :: X.outer):=by rw [← hex]; exact I.ok.frames
    have fl':Heap.FlyingW B (X.env :: X.outer) a cls (.ref t) s1.heap:=by rw [← hex]; exact fl
    have go4:wpAny (model X.prog X.w) X.A (noteFrame (.ref a) X.env) (fun _ s4=>∃ h4,s4={ s1 with heap:=h4 }∧Heap.HeldW B (X.env :: X.outer) a cls (.ref t) X.env.locals h4∧s1.heap.UpToSlots h4) (fun _ _=>False) s1:=wpAny_looks_onW fr hfr fl' fun h4 f4 u4=>⟨h4,rfl,f4,u4⟩
    refine wpAny_mono (wp_xd (kpd_note _ _) xd go4) (fun _ s4 z=>?_) fun _ _ z=>z.elim
    obtain ⟨⟨h4,e4,f4,u4⟩,x4⟩:=z
    subst e4
    have go5:wpAny (model X.prog X.w) X.A (setFlight (.ref a) none) (fun _ s5=>∃ h5,s5={ s1 with heap:=h5 }∧Heap.FlyingW B (X.env :: X.outer) a cls (.ref t) h5∧h4.UpToSlots h5) (fun _ _=>False) { s1 with heap:=h4 }:=wpAny_landsW (s:={ s1 with heap:=h4 }) f4 fun h5 f5 u5=>⟨h5,rfl,f5,u5⟩
    refine wpAny_mono (wp_xd (s:={ s1 with heap:=h4 }) (kpd_flight _ _) x4 go5) (fun _ s5 z=>?_) fun _ _ z=>z.elim
    obtain ⟨⟨h5,e5,f5,u5⟩,x5⟩:=z
    subst e5
    have us:s1.heap.UpToSlots h5:=u4.trans u5
    rw [← hex] at f5
    have J:∀ (C:Addr),cls=.ref C→∀ s6:Shared,s6.gens=s1.gens→s6.os=s1.os→Heap.FlyingW B X.stack a (.ref C) (.ref t) s6.heap→h5.UpToSlots s6.heap→XD s6.heap a od→Inv X pins σ (upd H' a (xh C a od)) s6:=fun C eC s6 eg eo f6 u6 x6=>by
      obtain ⟨q1,q2⟩:=fly_in (P:=X.prog) (w:=X.w) un hok fl.2.2.1 na cc1 cc2 (us.trans u6) f6 x6
      exact I1.call' (s':=s6) (ch:=[]) (eo.trans os) q1 q2 (by rw [eg]; exact bare) (fun b z=>absurd z (by simp))
    obtain ⟨oe,ws,hoe,hoec,hoed,hoe0⟩:=f5.first
    obtain ⟨cd1,hcd1⟩:=D1.cd
    obtain ⟨rfl,q1⟩:=q a na
    have J5:=J CT rfl { s1 with heap:=h5 } rfl rfl f5 (Heap.UpToSlots.refl _) x5
    refine wpAny_handleBy_cons (codeAny_handlers_test (ld_glob (X:=X.hot (.ref a)) (J5.hot _) g1 m1 ?_ hd1)) (by intro q; cases q)
    refine exc_match (s:={ s1 with heap:=h5 }) J5.kIn hoe hoec hcd1 D1.tp D1.be t11 ?_
    exact suite_runs (s5:={ s1 with heap:=h5 }) hN hi hn (hs1 a) I.ok (J CT rfl) f5 x5 q1
end
end L2
namespace L2
open PySem PySem.Spec PyProof.Rows
section
variable {X:Cx}
theorem mem_eqL {A:Around} {s:Shared} {l:Addr} {its:Array Value} (hl:s.heap.IsList l its) (hu:A.units < cLine):∀ {xs:List V} {us:List Value},Vals xs us→xs.all flatV=true→∀ u ∈ us,SeqAt.EqAt A s u (.ref l) false
  | _,_,.nil,_=>fun u hu=>by cases hu
  | y :: xs,u :: us,.cons r t,f=>fun u' hu'=>by
    rw [List.all_cons,Bool.and_eq_true] at f
    rcases List.mem_cons.mp hu' with rfl | hu'
    · cases y with
      | non=>cases r; exact SeqAt.EqAt.none_list hl hu
      | bl b=>cases r; exact SeqAt.EqAt.bool_list b hl hu
      | int i=>obtain ⟨t,rfl⟩:=r; exact SeqAt.EqAt.int_list i t hl hu
      | str z=>obtain ⟨t,rfl⟩:=r; exact SeqAt.EqAt.str_list z t hl hu
      | _=>exact absurd (show false=true from f.1) Bool.false_ne_true
    · exact mem_eqL hl hu t f.2 u' hu'
def rInX (K:PySem.W.Frag):R2:=fun x y H Q=>∃ p xs,y=.ref p∧SqT K H p xs∧xs.all flatV=true∧((flatV x=true∧Q (.bl (inV x xs)) H) ∨ ∃ l es,x=.ref l∧H l=some (.lst es)∧Q (.bl false) H)
theorem op_inX (hu:X.A.units + 1 < cLine):OpR X (compareOp .In) (rInX X.K):=by
  intro pins s σ H x y v u Q I rx ry h
  obtain ⟨p,xs,rfl,hq,fs,h⟩:=h
  cases ry
  obtain ⟨its,r,pl,hz⟩:=I.tuple hq
  rcases h with ⟨fx,q⟩ | ⟨l,es,rfl,hl,q⟩
  · refine SeqAt.in_tupleAt (eqU x) pl (fun w hw=>mem_eqAt rx fx r fs w (by simpa using hw)) ⟨.bl _,H,I,rfl,?_⟩
    rw [show its.toArray.any (eqU x)=its.any (eqU x) by simp,any_eqU r fs]
    exact q
  · obtain rfl:v=Value.ref l:=rx
    obtain ⟨its2,r2,pl2,hz2⟩:=I.list (SqL.of hl)
    have hu1:X.A.in1.units < cLine:=hu
    refine SeqAt.in_tupleAt (fun _=>false) pl (fun w hw=>mem_eqL pl2.isList hu1 r fs w (by simpa using hw)) ⟨.bl false,H,I,?_,q⟩
    show Value.bool _=Value.bool false
    congr 1
    simp
def rEqX:R2:=fun x y H Q=>(scal x y=true∧Q (.bl (decide (x=y))) H) ∨ ∃ l es z,x=.ref l∧y=.str z∧H l=some (.lst es)∧Q (.bl false) H
theorem op_eqX (hu:X.A.units < cLine):OpR X (compareOp .Eq) rEqX:=by
  intro pins s σ H x y v u Q I rx ry h
  rcases h with h | ⟨l,es,z,rfl,rfl,hl,q⟩
  · exact op_eq pins s σ H x y v u Q I rx ry h
  · obtain rfl:v=Value.ref l:=rx
    obtain ⟨t,rfl⟩:=ry
    obtain ⟨its,r,pl,hz⟩:=I.list (SqL.of hl)
    exact SeqAt.RcAt.list_str z t pl.isList hu _ _ _ _ ⟨.bl false,H,I,rfl,q⟩
end
end L2
namespace B06
open PySem L2 S2
abbrev wLined:List V:=[.str "row",.str "column",.str "wrap"]
def spNone:Sp:=fun _ _ _ _=>False
def D.kAsk (d:D):Bool:=match d with
  | .str s=>decide (s ≠ "words") && (decide (s ≠ "flow") && decide (s ≠ "over"))
  | .tup _=>false
  | _=>true
def whatS (s:Str) (d:D) (n:Int):Bool:=if inV (.str s) wLined=true then d.linedW n else if decide (V.str s=V.str "leaf")=true then d.leafW n else decide (V.str s=V.str "table") && d.tableW n
def whatK (k d:D) (n:Int):Bool:=match k with
  | .str s=>whatS s d n
  | _=>false
theorem kind_is {K:PySem.W.Frag} {H:Hp} {x:V} {k:D} (h:At K H x k) (hk:k.kAsk=true):(∃ s,x=.str s∧k=.str s∧s ≠ "words"∧s ≠ "flow"∧s ≠ "over") ∨ ((flatV x=true∧(∀ s,x ≠ .str s))∧∀ d n,whatK k d n=false) ∨ ∃ l es,x=.ref l∧H l=some (.lst es)∧∀ d n,whatK k d n=false:=by
  cases h with
  | non=>exact .inr (.inl ⟨⟨rfl,fun s e=>nomatch e⟩,fun d n=>rfl⟩)
  | bl b=>exact .inr (.inl ⟨⟨rfl,fun s e=>nomatch e⟩,fun d n=>rfl⟩)
  | int i=>exact .inr (.inl ⟨⟨rfl,fun s e=>nomatch e⟩,fun d n=>rfl⟩)
  | str s hs =>
    have z:(decide (s ≠ "words") && (decide (s ≠ "flow") && decide (s ≠ "over")))=true:=hk
    rw [Bool.and_eq_true,Bool.and_eq_true,decide_eq_true_iff,decide_eq_true_iff,decide_eq_true_iff] at z
    exact .inl ⟨s,rfl,rfl,z⟩
  | tup _ _ _=>cases hk
  | oth h=>exact .inr (.inr ⟨_,_,rfl,h,fun d n=>rfl⟩)
def spWhat (K:PySem.W.Frag):Sp:=fun vs H Q _=>∃ (x v:V) (k d:D) (n:Int),vs=[x,v,.int n]∧k.kAsk=true∧At K H x k∧At K H v d∧∀ H':Hp,Same H H'→Q (.bl (whatK k d n)) H'
def partsW (k w p:D):Bool:=match p with
  | .tup l=>whatK k w l.length
  | _=>false
def boxP (k n o w p:D):Bool:=(n.name && o.own) && partsW k w p
def D.box (d:D):Bool:=match d with
  | .tup [k,n,o,w,p]=>boxP k n o w p
  | _=>false
def D.bAsk (d:D):Prop:=∀ k n o w p,d=.tup [k,n,o,w,p]→k.kAsk=true
def spBox (K:PySem.W.Frag):Sp:=fun vs H Q _=>∃ (v:V) (d:D),vs=[v]∧At K H v d∧d.bAsk∧∀ H':Hp,Same H H'→Q (.bl d.box) H'
theorem tup5 {d:D} (h:d.tupOf 5=true):∃ k n o w p,d=.tup [k,n,o,w,p]:=by
  obtain ⟨l,rfl,e⟩:=tupOf_len (n:=5) h
  match l,e with
  | [a,b,c,e,f],_=>exact ⟨a,b,c,e,f,rfl⟩
theorem box_no {d:D} (h:¬ d.tupOf 5=true):d.box=false:=by
  unfold D.box
  split
  · exact absurd rfl h
  · rfl
theorem flat_ne {x:V} {s:Str} (h:∀ s,x ≠ .str s):decide (x=.str s)=false:=decide_eq_false (h s)
theorem inV_no {x:V} (hf:flatV x=true) (h:∀ s,x ≠ .str s):inV x wLined=false:=by
  cases x with
  | non=>rfl
  | bl b=>rfl
  | int i=>rfl
  | str s=>exact absurd rfl (h s)
  | _=>cases hf
section
variable {P:Program} {w:World} {K:PySem.W.Frag} {mg:Str→Option Value} {base:Heap} {tk:Nat→Tok} {ad:Nat→Addr}
abbrev nIsWhat:List Str:=["kind","what","many"]
theorem scIsWhat:FnScope nIsWhat ["kind","what","many"] (defScope sIsWhat):=⟨rfl,rfl,rfl,by decide +kernel,rfl,by decide +kernel,by decide +kernel⟩
set_option maxHeartbeats 16000000 in
theorem ok_isWhat {f f1 f2 f3 f4 f5 f6:Addr} {fd d1 d2 d3 d4 d5 d6:FuncData} (CC:Cst K mg tk ad) (F:Fun K "is_what" "is_what" sIsWhat f fd) (N:Names mg)
    (G1:FnOk P w K mg base CX0 4 f1 d1 ["what","many"] (spAsk2 K D.linedW)) (b1:Binds K d1 ["what","many"] []) (m1:mg "is_lined_what"=some (.ref f1)) (k1:PySem.W.keepIn K (.ref f1)=true)
    (G2:FnOk P w K mg base CX0 4 f2 d2 ["what","many"] (spAsk2 K D.leafW)) (b2:Binds K d2 ["what","many"] []) (m2:mg "is_leaf_what"=some (.ref f2)) (k2:PySem.W.keepIn K (.ref f2)=true)
    (G3:FnOk P w K mg base CX0 4 f3 d3 ["what","many"] (spAsk2 K D.tableW)) (b3:Binds K d3 ["what","many"] []) (m3:mg "is_table_what"=some (.ref f3)) (k3:PySem.W.keepIn K (.ref f3)=true)
    (G4:FnOk P w K mg base CX0 4 f4 d4 ["what","many"] spNone) (b4:Binds K d4 ["what","many"] []) (m4:mg "is_words_what"=some (.ref f4)) (k4:PySem.W.keepIn K (.ref f4)=true)
    (G5:FnOk P w K mg base CX0 4 f5 d5 ["what","many"] spNone) (b5:Binds K d5 ["what","many"] []) (m5:mg "is_flow_what"=some (.ref f5)) (k5:PySem.W.keepIn K (.ref f5)=true)
    (G6:FnOk P w K mg base CX0 4 f6 d6 ["what","many"] spNone) (b6:Binds K d6 ["what","many"] []) (m6:mg "is_over_what"=some (.ref f6)) (k6:PySem.W.keepIn K (.ref f6)=true):FnOk P w K mg base CX0 5 f fd ["kind","what","many"] (spWhat K):=by
  refine F.ok scIsWhat (fun vs H Q E h=>?_) (fun cdv A outer s H vs Q E hr h=>?_)
  · obtain ⟨x,v,kd,d,n,e,_⟩:=h
    rw [e]
    rfl
  · obtain ⟨x,v,kd,d,n,e,hk,hx,hv,k⟩:=h
    subst e
    have hr4:=hr.mono (j:=4) (by decide)
    have hu:(A.deeper (PyProof.Rows.envOfC "is_what" (defScope sIsWhat) s.heap.objs.size f cdv)).units + 1 < cLine:=by have:=hr.units; omega
    have hu0:(A.deeper (PyProof.Rows.envOfC "is_what" (defScope sIsWhat) s.heap.objs.size f cdv)).units < cLine:=by have:=hr.units; omega
    refine ⟨_,pss_cons (ps_if (pt_cmpR (op_inX hu) (pv 0) (pe_glob (v:=.ref (ad 2)) (by rfl) CC.tLINED rfl) (by rfl)) (pss_one (ps_ret (pe_call G1 hr4 (by rfl) m1 k1 b1 .nil pass0 (pa_cons (pv 1) (pa_cons (pv 2) pa_nil))))) pss_nil)
      (pss_cons (ps_if (pt_cmpR (op_eqX hu0) (pv 0) pe_str (nomark _)) (pss_one (ps_ret (pe_call G2 hr4 (by rfl) m2 k2 b2 .nil pass0 (pa_cons (pv 1) (pa_cons (pv 2) pa_nil))))) pss_nil)
      (pss_cons (ps_if (pt_cmpR (op_eqX hu0) (pv 0) pe_str (nomark _)) (pss_one (ps_ret (pe_call G3 hr4 (by rfl) m3 k3 b3 .nil pass0 (pa_cons (pv 1) (pa_cons (pv 2) pa_nil))))) pss_nil)
      (pss_cons (ps_if (pt_cmpR (op_eqX hu0) (pv 0) pe_str (nomark _)) (pss_one (ps_ret (pe_call G4 hr4 (by rfl) m4 k4 b4 .nil pass0 (pa_cons (pv 1) (pa_cons (pv 2) pa_nil))))) pss_nil)
      (pss_cons (ps_if (pt_cmpR (op_eqX hu0) (pv 0) pe_str (nomark _)) (pss_one (ps_ret (pe_call G5 hr4 (by rfl) m5 k5 b5 .nil pass0 (pa_cons (pv 1) (pa_cons (pv 2) pa_nil))))) pss_nil)
      (pss_one (ps_ret (pe_and (pe_cmpR (op_eqX hu0) (pv 0) pe_str (nomark _)) (pe_one (pe_call G6 hr4 (by rfl) m6 k6 b6 .nil pass0 (pa_cons (pv 1) (pa_cons (pv 2) pa_nil))))))))))),?_⟩
    try rw [show (cxOf CX0 P w K mg base nIsWhat "is_what" (defScope sIsWhat) f cdv A outer s H E).nox.K=K from rfl]
    rcases kind_is hx hk with ⟨s0,rfl,rfl,nw,nf,no⟩ | ⟨⟨hf,hs⟩,hno⟩ | ⟨l,es,rfl,hl,hno⟩
    · skip
      refine seq_abs fun N1 hN=>?_
      refine ⟨_,rfl,_,_,rfl,CC.sLINED H,by decide,.inl ⟨rfl,_,rfl,ite2 (fun h=>?_) (fun h=>?_)⟩⟩
      · refine ⟨_,rfl,_,rfl,v,d,n,rfl,hv,fun H1 s1=>?_⟩
        have z:=k H1 s1
        rw [show whatK (.str s0) d n=d.linedW n from if_pos h] at z
        exact z
      refine hN _ _ ?_
      clear hN N1
      refine seq_abs fun N1 hN=>?_
      refine ⟨_,rfl,.inl ⟨rfl,_,rfl,ite2 (fun h2=>?_) (fun h2=>?_)⟩⟩
      · refine ⟨_,rfl,_,rfl,v,d,n,rfl,hv,fun H1 s1=>?_⟩
        have z:=k H1 s1
        rw [show whatK (.str s0) d n=d.leafW n from (if_neg h).trans (if_pos h2)] at z
        exact z
      refine hN _ _ ?_
      clear hN N1
      have ew:whatK (.str s0) d n=(decide (V.str s0=V.str "table") && d.tableW n):=(if_neg h).trans (if_neg h2)
      refine seq_abs fun N1 hN=>?_
      refine ⟨_,rfl,.inl ⟨rfl,_,rfl,ite2 (fun h3=>?_) (fun h3=>?_)⟩⟩
      · refine ⟨_,rfl,_,rfl,v,d,n,rfl,hv,fun H1 s1=>?_⟩
        have z:=k H1 s1
        rw [ew,h3,Bool.true_and] at z
        exact z
      refine hN _ _ ?_
      clear hN N1
      have z:=k H (Same.refl _)
      rw [ew,Bool.eq_false_iff.mpr h3,Bool.false_and] at z
      refine seq_abs fun N1 hN=>?_
      refine ⟨_,rfl,.inl ⟨rfl,_,rfl,iteC (decide_eq_false fun e=>nw (by injection e)) ?_⟩⟩
      refine hN _ _ ?_
      clear hN N1
      refine seq_abs fun N1 hN=>?_
      refine ⟨_,rfl,.inl ⟨rfl,_,rfl,iteC (decide_eq_false fun e=>nf (by injection e)) ?_⟩⟩
      refine hN _ _ ?_
      clear hN N1
      refine ⟨_,rfl,.inl ⟨rfl,_,rfl,iteC (decide_eq_false fun e=>no (by injection e)) ?_⟩⟩
      exact z
    · have sc:∀ z:Str,scal x (.str z)=true:=fun z=>by cases x <;> first | rfl | cases hf
      have z:=k H (Same.refl _)
      rw [hno] at z
      refine seq_abs fun N1 hN=>?_
      refine ⟨_,rfl,_,_,rfl,CC.sLINED H,by decide,.inl ⟨hf,_,rfl,iteC (inV_no hf hs) ?_⟩⟩
      refine hN _ _ ?_
      clear hN N1
      refine seq_abs fun N1 hN=>?_
      refine ⟨_,rfl,.inl ⟨sc _,_,rfl,iteC (flat_ne hs) ?_⟩⟩
      refine hN _ _ ?_
      clear hN N1
      refine seq_abs fun N1 hN=>?_
      refine ⟨_,rfl,.inl ⟨sc _,_,rfl,iteC (flat_ne hs) ?_⟩⟩
      refine hN _ _ ?_
      clear hN N1
      refine seq_abs fun N1 hN=>?_
      refine ⟨_,rfl,.inl ⟨sc _,_,rfl,iteC (flat_ne hs) ?_⟩⟩
      refine hN _ _ ?_
      clear hN N1
      refine seq_abs fun N1 hN=>?_
      refine ⟨_,rfl,.inl ⟨sc _,_,rfl,iteC (flat_ne hs) ?_⟩⟩
      refine hN _ _ ?_
      clear hN N1
      refine ⟨_,rfl,.inl ⟨sc _,_,rfl,iteC (flat_ne hs) ?_⟩⟩
      exact z
    · have z:=k H (Same.refl _)
      rw [hno] at z
      refine seq_abs fun N1 hN=>?_
      refine ⟨_,rfl,_,_,rfl,CC.sLINED H,by decide,.inr ⟨l,es,rfl,hl,_,rfl,iteF ?_⟩⟩
      refine hN _ _ ?_
      clear hN N1
      refine seq_abs fun N1 hN=>?_
      refine ⟨_,rfl,.inr ⟨l,es,_,rfl,rfl,hl,_,rfl,iteF ?_⟩⟩
      refine hN _ _ ?_
      clear hN N1
      refine seq_abs fun N1 hN=>?_
      refine ⟨_,rfl,.inr ⟨l,es,_,rfl,rfl,hl,_,rfl,iteF ?_⟩⟩
      refine hN _ _ ?_
      clear hN N1
      refine seq_abs fun N1 hN=>?_
      refine ⟨_,rfl,.inr ⟨l,es,_,rfl,rfl,hl,_,rfl,iteF ?_⟩⟩
      refine hN _ _ ?_
      clear hN N1
      refine seq_abs fun N1 hN=>?_
      refine ⟨_,rfl,.inr ⟨l,es,_,rfl,rfl,hl,_,rfl,iteF ?_⟩⟩
      refine hN _ _ ?_
      clear hN N1
      exact ⟨_,rfl,.inr ⟨l,es,_,rfl,rfl,hl,_,rfl,iteF z⟩⟩
abbrev nIsBox:List Str:=["thing"]
theorem scIsBox:FnScope nIsBox ["thing"] (defScope sIsBox):=⟨rfl,rfl,rfl,by decide +kernel,rfl,by decide +kernel,by decide +kernel⟩
set_option maxHeartbeats 16000000 in
theorem ok_isBox {f f1 f2 f3 f4 f5 f6 f7 f8 f9:Addr} {fd d1 d2 d3 d4 d5 d6 d7 d8 d9:FuncData} (F:Fun K "is_box" "is_box" sIsBox f fd) (N:Names mg)
    (G1:FnOk P w K mg base CX0 1 f1 d1 ["thing","many"] (spAsk2 K D.tupOf)) (b1:Binds K d1 ["thing","many"] []) (m1:mg "is_tuple_of"=some (.ref f1)) (k1:PySem.W.keepIn K (.ref f1)=true)
    (G2:FnOk P w K mg base CX0 1 f2 d2 ["thing"] (spAsk1 K D.name)) (b2:Binds K d2 ["thing"] []) (m2:mg "is_name"=some (.ref f2)) (k2:PySem.W.keepIn K (.ref f2)=true)
    (G3:FnOk P w K mg base CX0 1 f3 d3 ["box"] (spPart K 1)) (b3:Binds K d3 ["box"] []) (m3:mg "name_of"=some (.ref f3)) (k3:PySem.W.keepIn K (.ref f3)=true)
    (G4:FnOk P w K mg base CX0 5 f4 d4 ["thing"] (spAsk1 K D.own)) (b4:Binds K d4 ["thing"] []) (m4:mg "is_own"=some (.ref f4)) (k4:PySem.W.keepIn K (.ref f4)=true)
    (G5:FnOk P w K mg base CX0 1 f5 d5 ["box"] (spPart K 2)) (b5:Binds K d5 ["box"] []) (m5:mg "own_of"=some (.ref f5)) (k5:PySem.W.keepIn K (.ref f5)=true)
    (G6:FnOk P w K mg base CX0 1 f6 d6 ["box"] (spPart K 4)) (b6:Binds K d6 ["box"] []) (m6:mg "parts_of"=some (.ref f6)) (k6:PySem.W.keepIn K (.ref f6)=true)
    (G7:FnOk P w K mg base CX0 5 f7 d7 ["kind","what","many"] (spWhat K)) (b7:Binds K d7 ["kind","what","many"] []) (m7:mg "is_what"=some (.ref f7)) (k7:PySem.W.keepIn K (.ref f7)=true)
    (G8:FnOk P w K mg base CX0 1 f8 d8 ["box"] (spPart K 0)) (b8:Binds K d8 ["box"] []) (m8:mg "kind_of"=some (.ref f8)) (k8:PySem.W.keepIn K (.ref f8)=true)
    (G9:FnOk P w K mg base CX0 1 f9 d9 ["box"] (spPart K 3)) (b9:Binds K d9 ["box"] []) (m9:mg "what_of"=some (.ref f9)) (k9:PySem.W.keepIn K (.ref f9)=true):FnOk P w K mg base CX0 6 f fd ["thing"] (spBox K):=by
  refine F.ok scIsBox (fun vs H Q E h=>?_) (fun cdv A outer s H vs Q E hr h=>?_)
  · obtain ⟨v,d,e,_⟩:=h
    rw [e]
    rfl
  · obtain ⟨v,d,e,hv,ha,k⟩:=h
    subst e
    have hr1:=hr.mono (j:=1) (by decide)
    have hr5:=hr.mono (j:=5) (by decide)
    refine ⟨_,pss_cons (ps_if (pt_not (pw_and (pt_val (pe_call G1 hr1 (by rfl) m1 k1 b1 .nil pass0 (pa_cons (pv 0) (pa_cons pe_int pa_nil)))) (pw_and (pt_val (pe_call G2 hr1 (by rfl) m2 k2 b2 .nil pass0 (pa_cons (pe_call G3 hr1 (by rfl) m3 k3 b3 .nil pass0 (pa_cons (pv 0) pa_nil)) pa_nil))) (pw_and1 (pt_val (pe_call G4 hr5 (by rfl) m4 k4 b4 .nil pass0 (pa_cons (pe_call G5 hr1 (by rfl) m5 k5 b5 .nil pass0 (pa_cons (pv 0) pa_nil)) pa_nil)))))).pt) (pss_one (ps_ret pe_bl)) pss_nil)
      (pss_one (ps_ret (pe_and (pe_callB call_isinst (by rfl) N.inst PyProof.Rows.boot_isinstance (pa_cons (pe_call G6 hr1 (by rfl) m6 k6 b6 .nil pass0 (pa_cons (pv 0) pa_nil)) (pa_cons (pe_bltn (v:=.ty "tuple") (by rfl) N.tuple PyProof.Rows.boot_tuple rfl (by decide)) pa_nil))) (pe_one (pe_call G7 hr5 (by rfl) m7 k7 b7 .nil pass0 (pa_cons (pe_call G8 hr1 (by rfl) m8 k8 b8 .nil pass0 (pa_cons (pv 0) pa_nil)) (pa_cons (pe_call G9 hr1 (by rfl) m9 k9 b9 .nil pass0 (pa_cons (pv 0) pa_nil)) (pa_cons (pe_callB call_len_seq (by rfl) N.len PySem.boot_len (pa_cons (pe_call G6 hr1 (by rfl) m6 k6 b6 .nil pass0 (pa_cons (pv 0) pa_nil)) pa_nil)) pa_nil)))))))),?_⟩
    try rw [show (cxOf CX0 P w K mg base nIsBox "is_box" (defScope sIsBox) f cdv A outer s H E).nox.K=K from rfl]
    refine seq_abs fun N1 hN=>?_
    refine ⟨_,rfl,v,_,_,rfl,hv,fun H1 s1=>⟨_,rfl,ite2 (fun h5=>?_) (fun h5=>iteT ?_)⟩⟩
    rotate_left
    · have z:=k H1 s1
      rw [box_no h5] at z
      exact z
    obtain ⟨kd,n,o,wh,pp,rfl⟩:=tup5 h5
    have hk:=ha kd n o wh pp rfl
    have kz:∀ H':Hp,Same H H'→Q (.bl ((n.name && o.own) && partsW kd wh pp)) H':=k
    have hv1:=hv.same s1
    refine ⟨_,rfl,v,_,n,rfl,hv1,rfl,fun x1 g1=>⟨x1,n,rfl,g1,fun H2 s2=>⟨_,rfl,ite2 (fun q=>?_) (fun q=>iteT ?_)⟩⟩⟩
    · have hv2:=hv1.same s2
      refine ⟨_,rfl,v,_,o,rfl,hv2,rfl,fun x2 g2=>⟨x2,o,rfl,g2,fun H3 s3=>⟨_,rfl,ite2 (fun q'=>?_) (fun q'=>?_)⟩⟩⟩
      · have q':o.own=false:=by
          cases z:o.own with
          | false=>rfl
          | true=>rw [z] at q'; cases q'
        have z:=kz H3 (Same.trans s1 (Same.trans s2 s3))
        rw [q',Bool.and_false,Bool.false_and] at z
        exact z
      · have q':o.own=true:=by
          cases z:o.own with
          | true=>rfl
          | false=>rw [z] at q'; exact absurd rfl q'
        refine hN _ _ ?_
        clear hN N1
        have s13:=Same.trans s1 (Same.trans s2 s3)
        have hv3:=hv.same s13
        have kz2:∀ H':Hp,Same H3 H'→Q (.bl (partsW kd wh pp)) H':=fun H' s'=>by
          have z:=kz H' (Same.trans s13 s')
          rw [q,q',Bool.true_and,Bool.true_and] at z
          exact z
        refine ⟨_,rfl,v,_,pp,rfl,hv3,rfl,fun x3 g3=>?_⟩
        obtain ⟨T,t1,t2⟩:=g3.asTup
        refine ⟨_,"tuple",_,_,rfl,t1,t2,_,rfl,ite2 (fun hp=>?_) (fun hp=>?_)⟩
        · cases pp with
          | tup l =>
            refine ⟨_,rfl,v,_,_,rfl,hv3,rfl,fun x4 g4=>?_⟩
            refine ⟨_,rfl,v,_,wh,rfl,hv3,rfl,fun x5 g5=>?_⟩
            refine ⟨_,rfl,v,_,.tup l,rfl,hv3,rfl,fun x6 g6=>?_⟩
            cases g6 with
            | @tup p xs l2 e hl he =>
              refine ⟨p,xs,rfl,.inr (SqT.of e),x4,x5,kd,wh,_,rfl,hk,g4,g5,fun H4 s4=>?_⟩
              have z:=kz2 H4 s4
              rw [hl]
              exact z
          | _=>cases hp
        · have z:=kz2 H3 (Same.refl _)
          have e0:pp.isTup=false:=by
            cases z:pp.isTup with
            | false=>rfl
            | true=>exact absurd z hp
          have e1:partsW kd wh pp=false:=by
            cases pp with
            | tup l=>cases e0
            | _=>rfl
          rw [e1] at z
          exact z
    · have z:=kz H2 (Same.trans s1 s2)
      rw [Bool.eq_false_iff.mpr q,Bool.false_and,Bool.false_and] at z
      exact z
end
end B06
namespace B06
open PySem L2 S2
abbrev sFree:=sIsFree
abbrev sFirst:=sFirstPlace
abbrev sTakeC:=sTake
abbrev sPut:=sPutCells
def Kp (st:Addr) (H H':Hp):Prop:=∀ b o,b ≠ st→H b=some o→H' b=some o
theorem Kp.refl {st:Addr} (H:Hp):Kp st H H:=fun _ _ _ h=>h
theorem Kp.trans {st:Addr} {H H1 H2:Hp} (a:Kp st H H1) (b:Kp st H1 H2):Kp st H H2:=fun c o n h=>b c o n (a c o n h)
theorem Kp.of {st:Addr} {H H':Hp} (s:Same H H'):Kp st H H':=fun b o _ h=>s b o h
theorem Kp.store {st:Addr} {H:Hp} {o:HO}:Kp st H (upd H st o):=fun b o' n h=>by rw [upd_ne n]; exact h
abbrev Tk:=Nat→Nat→Bool
def freeB (T:Tk) (row col w h:Nat):Bool:=(List.range h).all fun d=>(List.range w).all fun a=>!T (row + d) (col + a)
theorem free_iff {T:Tk} {row col w h:Nat}:freeB T row col w h=true ↔ ∀ d,d < h→∀ a,a < w→T (row + d) (col + a)=false:=by
  unfold freeB
  rw [List.all_eq_true]
  constructor
  · intro z d hd a ha
    have:=List.all_eq_true.mp (z d (List.mem_range.mpr hd)) a (List.mem_range.mpr ha)
    simpa using this
  · intro z d hd
    refine List.all_eq_true.mpr fun a ha=>?_
    rw [z d (List.mem_range.mp hd) a (List.mem_range.mp ha)]
    rfl
theorem free_no {T:Tk} {row col w h d a:Nat} (hd:d < h) (ha:a < w) (t:T (row + d) (col + a)=true):freeB T row col w h=false:=by
  cases e:freeB T row col w h with
  | false=>rfl
  | true=>rw [free_iff.mp e d hd a ha] at t; cases t
def rowS (T:Tk) (n w h:Nat):Nat→Nat→Nat × Nat
  | 0,row=>(row,0)
  | f + 1,row=>match (List.range n).find? (fun c=>freeB T row c w h) with
    | some c=>(row,c)
    | none=>rowS T n w h f (row + 1)
def firstF (T:Tk) (B n w h:Nat):Nat × Nat:=rowS T n w h (B + 1) 0
def Bd (T:Tk) (B:Nat):Prop:=∀ r c,B ≤ r→T r c=false
theorem find_range {n:Nat} {p:Nat→Bool} {i:Nat} (hi:i < n) (hp:p i=true) (hb:∀ j,j < i→p j=false):(List.range n).find? p=some i:=by
  rw [List.find?_range_eq_some]
  exact ⟨hp,List.mem_range.mpr hi,fun j hj=>by rw [hb j hj]; rfl⟩
theorem find_none {n:Nat} {p:Nat→Bool} (hb:∀ j,j < n→p j=false):(List.range n).find? p=none:=by
  rw [List.find?_eq_none]
  intro x hx
  rw [hb x (List.mem_range.mp hx)]
  exact Bool.false_ne_true
theorem rowS_hit {T:Tk} {n w h f row i:Nat} (hi:i < n) (hp:freeB T row i w h=true) (hb:∀ j,j < i→freeB T row j w h=false):rowS T n w h (f + 1) row=(row,i):=by
  rw [rowS,find_range hi hp hb]
theorem rowS_miss {T:Tk} {n w h f row:Nat} (hb:∀ j,j < n→freeB T row j w h=false):rowS T n w h (f + 1) row=rowS T n w h f (row + 1):=by
  rw [rowS,find_none hb]
theorem free_at_bound {T:Tk} {B c w h:Nat} (hB:Bd T B):freeB T B c w h=true:=free_iff.mpr fun d _ a _=>hB _ _ (Nat.le_add_right _ _)
structure FirstOk (T:Tk) (B n w h:Nat) (p:Nat × Nat):Prop where
  row:p.1 ≤ B
  col:p.2 < n
  free:freeB T p.1 p.2 w h=true
  above:∀ r c,r < p.1→c < n→freeB T r c w h=false
  ahead:∀ c,c < p.2→freeB T p.1 c w h=false
theorem rowS_ok {T:Tk} {B n w h:Nat} (hB:Bd T B) (hn:0 < n):∀ (f row:Nat),f + row=B + 1→0 < f→(∀ r c,r < row→c < n→freeB T r c w h=false)→FirstOk T B n w h (rowS T n w h f row)
  | 0,row,_,h0,_=>absurd h0 (Nat.lt_irrefl _)
  | f + 1,row,e,_,hb=>by
    cases hf:(List.range n).find? (fun c=>freeB T row c w h) with
    | some c =>
      obtain ⟨h1,h2,h3⟩:=(List.find?_range_eq_some).mp hf
      have er:rowS T n w h (f + 1) row=(row,c):=by rw [rowS,hf]
      rw [er]
      exact ⟨by show row ≤ B; omega,List.mem_range.mp h2,h1,hb,fun c' hc'=>by
        have:=h3 c' hc'
        simpa using this⟩
    | none =>
      have hno:∀ c,c < n→freeB T row c w h=false:=fun c hc=>by
        have:=List.find?_eq_none.mp hf c (List.mem_range.mpr hc)
        exact Bool.eq_false_iff.mpr this
      have hrow:row ≠ B:=fun z=>by
        subst z
        have:=hno 0 hn
        rw [free_at_bound hB] at this
        cases this
      rw [rowS_miss hno]
      exact rowS_ok hB hn f (row + 1) (by omega) (by omega) fun r c hr hc=>by
        by_cases z:r=row
        · rw [z]; exact hno c hc
        · exact hb r c (by omega) hc
theorem first_ok {T:Tk} {B n w h:Nat} (hB:Bd T B) (hn:0 < n):FirstOk T B n w h (firstF T B n w h):=rowS_ok hB hn (B + 1) 0 rfl (Nat.succ_pos _) fun r c hr=>absurd hr (Nat.not_lt_zero _)
def cover (T:Tk) (r c w h:Nat):Tk:=fun x y=>T x y || (decide (r ≤ x) && (decide (x < r + h) && (decide (c ≤ y) && decide (y < c + w))))
def coverP (T:Tk) (r c w d a:Nat):Tk:=fun x y=>T x y || ((decide (r ≤ x) && (decide (x < r + d) && (decide (c ≤ y) && decide (y < c + w)))) || (decide (x=r + d) && (decide (c ≤ y) && decide (y < c + a))))
theorem coverP_zero (T:Tk) (r c w:Nat):coverP T r c w 0 0=T:=by
  funext x y
  unfold coverP
  have e1:(decide (r ≤ x) && (decide (x < r + 0) && (decide (c ≤ y) && decide (y < c + w))))=false:=by
    by_cases h:r ≤ x
    · rw [decide_eq_false (show ¬ x < r + 0 by omega)]; simp
    · rw [decide_eq_false h]; rfl
  have e2:(decide (x=r + 0) && (decide (c ≤ y) && decide (y < c + 0)))=false:=by
    by_cases h:c ≤ y
    · rw [decide_eq_false (show ¬ y < c + 0 by omega)]; simp
    · rw [decide_eq_false h]; simp
  rw [e1,e2]
  simp
theorem coverP_step (T:Tk) (r c w d a:Nat) (x y:Nat):coverP T r c w d (a + 1) x y=(coverP T r c w d a x y || (decide (x=r + d) && decide (y=c + a))):=by
  unfold coverP
  rw [Bool.eq_iff_iff]
  simp only [Bool.or_eq_true,Bool.and_eq_true,decide_eq_true_eq]
  constructor
  · rintro (h | h | ⟨h1,h2,h3⟩)
    · exact .inl (.inl h)
    · exact .inl (.inr (.inl h))
    · by_cases e:y=c + a
      · exact .inr ⟨h1,e⟩
      · exact .inl (.inr (.inr ⟨h1,h2,by omega⟩))
  · rintro ((h | h | ⟨h1,h2,h3⟩) | ⟨h1,h2⟩)
    · exact .inl h
    · exact .inr (.inl h)
    · exact .inr (.inr ⟨h1,h2,by omega⟩)
    · exact .inr (.inr ⟨h1,by omega,by omega⟩)
theorem coverP_row (T:Tk) (r c w d:Nat):coverP T r c w d w=coverP T r c w (d + 1) 0:=by
  funext x y
  unfold coverP
  rw [Bool.eq_iff_iff]
  simp only [Bool.or_eq_true,Bool.and_eq_true,decide_eq_true_eq]
  constructor
  · rintro (h | h | ⟨h1,h2,h3⟩)
    · exact .inl h
    · exact .inr (.inl ⟨h.1,by omega,h.2.2⟩)
    · exact .inr (.inl ⟨by omega,by omega,h2,h3⟩)
  · rintro (h | ⟨h1,h2,h3,h4⟩ | h)
    · exact .inl h
    · by_cases e:x=r + d
      · exact .inr (.inr ⟨e,h3,h4⟩)
      · exact .inr (.inl ⟨h1,by omega,h3,h4⟩)
    · exact absurd h.2.2 (by omega)
theorem coverP_end (T:Tk) (r c w h:Nat):coverP T r c w h 0=cover T r c w h:=by
  funext x y
  unfold coverP cover
  rw [Bool.eq_iff_iff]
  simp only [Bool.or_eq_true,Bool.and_eq_true,decide_eq_true_eq]
  constructor
  · rintro (h | h | h)
    · exact .inl h
    · exact .inr h
    · exact absurd h.2.2 (by omega)
  · rintro (h | h)
    · exact .inl h
    · exact .inr (.inl h)
theorem cover_bd {T:Tk} {B r c w h:Nat} (hB:Bd T B) (hr:r ≤ B):Bd (cover T r c w h) (B + h):=fun x y hx=>by
  unfold cover
  rw [hB x y (by omega),decide_eq_false (show ¬ x < r + h by omega)]
  simp
abbrev PutSt:=Tk × Nat × List (Nat × Nat)
def putS (cols:Nat) (sps:List (Nat × Nat)):Nat→PutSt
  | 0=>(fun _ _=>false,0,[])
  | i + 1 =>
    (cover (putS cols sps i).1 (firstF (putS cols sps i).1 (putS cols sps i).2.1 (cols - (sps.getD i (1,1)).1 + 1) (sps.getD i (1,1)).1 (sps.getD i (1,1)).2).1 (firstF (putS cols sps i).1 (putS cols sps i).2.1 (cols - (sps.getD i (1,1)).1 + 1) (sps.getD i (1,1)).1 (sps.getD i (1,1)).2).2 (sps.getD i (1,1)).1 (sps.getD i (1,1)).2,
      (putS cols sps i).2.1 + (sps.getD i (1,1)).2,(putS cols sps i).2.2 ++ [firstF (putS cols sps i).1 (putS cols sps i).2.1 (cols - (sps.getD i (1,1)).1 + 1) (sps.getD i (1,1)).1 (sps.getD i (1,1)).2])
def plAt (cols:Nat) (sps:List (Nat × Nat)) (i:Nat):Nat × Nat:=firstF (putS cols sps i).1 (putS cols sps i).2.1 (cols - (sps.getD i (1,1)).1 + 1) (sps.getD i (1,1)).1 (sps.getD i (1,1)).2
theorem putS_bd (cols:Nat) (sps:List (Nat × Nat)):∀ i,Bd (putS cols sps i).1 (putS cols sps i).2.1
  | 0=>fun _ _ _=>rfl
  | i + 1=>cover_bd (putS_bd cols sps i) (first_ok (putS_bd cols sps i) (Nat.succ_pos _)).row
theorem plAt_ok (cols:Nat) (sps:List (Nat × Nat)) (i:Nat):FirstOk (putS cols sps i).1 (putS cols sps i).2.1 (cols - (sps.getD i (1,1)).1 + 1) (sps.getD i (1,1)).1 (sps.getD i (1,1)).2 (plAt cols sps i):=first_ok (putS_bd cols sps i) (Nat.succ_pos _)
theorem putS_len (cols:Nat) (sps:List (Nat × Nat)):∀ i,(putS cols sps i).2.2.length=i
  | 0=>rfl
  | i + 1=>by
    show ((putS cols sps i).2.2 ++ [_]).length=i + 1
    rw [List.length_append,putS_len cols sps i]
    rfl
theorem putS_snoc (cols:Nat) (sps:List (Nat × Nat)) (i:Nat):(putS cols sps (i + 1)).2.2=(putS cols sps i).2.2 ++ [plAt cols sps i]:=rfl
theorem putS_take {cols:Nat} {sps:List (Nat × Nat)}:∀ n i,i ≤ n→(putS cols sps n).2.2.take i=(putS cols sps i).2.2
  | 0,i,h=>by
    have:i=0:=by omega
    subst this
    rfl
  | n + 1,i,h=>by
    by_cases e:i=n + 1
    · subst e
      exact List.take_of_length_le (by rw [putS_len]; exact Nat.le_refl _)
    · rw [putS_snoc,List.take_append_of_le_length (by rw [putS_len]; omega)]
      exact putS_take n i (by omega)
theorem plAt_get {cols:Nat} {sps:List (Nat × Nat)} {n i:Nat} (h:i < n):(putS cols sps n).2.2[i]?=some (plAt cols sps i):=by
  have e:=putS_take (cols:=cols) (sps:=sps) n (i + 1) h
  rw [putS_snoc] at e
  have:((putS cols sps n).2.2.take (i + 1))[i]?=some (plAt cols sps i):=by
    rw [e,List.getElem?_append_right (by rw [putS_len]; exact Nat.le_refl _),putS_len,Nat.sub_self]
    rfl
  rw [List.getElem?_take,if_pos (Nat.lt_succ_self i)] at this
  exact this
theorem putS_depth (cols:Nat) (sps:List (Nat × Nat)) (hs:∀ j,(sps.getD j (1,1)).2 ≤ 100):∀ i,(putS cols sps i).2.1 ≤ 100 * i
  | 0=>Nat.le_refl _
  | i + 1=>by
    have ih:=putS_depth cols sps hs i
    have:=hs i
    show (putS cols sps i).2.1 + (sps.getD i (1,1)).2 ≤ 100 * (i + 1)
    omega
def DT (kvs:List (List Key × V)) (T:Tk):Prop:=∀ r c:Nat,(valV kvs [Sum.inl (r:Int),Sum.inl (c:Int)]).isSome=T r c
theorem DT.nil:DT [] (fun _ _=>false):=fun _ _=>rfl
theorem key_iff {r c x y:Nat}:([Sum.inl (r:Int),Sum.inl (c:Int)]:List Key)=[Sum.inl (x:Int),Sum.inl (y:Int)] ↔ r=x∧c=y:=by
  constructor
  · intro h
    injection h with h1 h2
    injection h2 with h2 _
    injection h1 with h1
    injection h2 with h2
    exact ⟨Int.ofNat.inj h1,Int.ofNat.inj h2⟩
  · rintro ⟨rfl,rfl⟩
    rfl
theorem DT.put {kvs:List (List Key × V)} {T T':Tk} {x y:Nat} {v:V} (h:DT kvs T) (ht:∀ a b,T' a b=(T a b || (decide (a=x) && decide (b=y)))):DT (putK kvs [Sum.inl (x:Int),Sum.inl (y:Int)] v) T':=fun r c=>by
  rw [valV_put,ht]
  by_cases e:r=x∧c=y
  · rw [if_pos (key_iff.mpr e),decide_eq_true e.1,decide_eq_true e.2]
    simp
  · rw [if_neg (fun z=>e (key_iff.mp z)),h r c]
    have:(decide (r=x) && decide (c=y))=false:=by
      rw [Bool.eq_false_iff]
      intro z
      rw [Bool.and_eq_true,decide_eq_true_eq,decide_eq_true_eq] at z
      exact e z
    rw [this,Bool.or_false]
theorem Kp.same {st:Addr} {H H1 H2:Hp} (k:Kp st H1 H2) (s:Same H H1) (h:H st=none):Same H H2:=fun b o hb=>k b o (fun z=>by rw [z,h] at hb; cases hb) (s b o hb)
theorem rows_kp {st:Addr} {H H2:Hp} {as:List Addr} {rows:List (List V)} {kvs:List (List Key × V)} (h:RowsOf H as rows) (k:Kp st H H2) (hd:H st=some (.dT kvs)):RowsOf H2 as rows:=⟨h.1,fun i p r e1 e2=>by
  have hp:=h.2 i p r e1 e2
  exact k p _ (fun z=>by rw [z,hd] at hp; cases hp) hp⟩
theorem rows_updL {H:Hp} {as:List Addr} {rows:List (List V)} {l:Addr} {xs:List V} {o:HO} (h:RowsOf H as rows) (hl:H l=some (.lst xs)):RowsOf (upd H l o) as rows:=⟨h.1,fun i p r e1 e2=>by
  have hp:=h.2 i p r e1 e2
  rw [upd_ne (ne_of hp hl (by intro z; cases z))]
  exact hp⟩
def spV (p:Nat × Nat):List V:=[.int (p.1:Int),.int (p.2:Int)]
def spFree:Sp:=fun vs H Q _=>∃ (dd p:Addr) (kvs:List (List Key × V)) (T:Tk) (row col w h:Nat),vs=[.ref dd,.int (row:Int),.int (col:Int),.ref p]∧H dd=some (.dT kvs)∧DT kvs T∧H p=some (.tup [.int (w:Int),.int (h:Int)])∧row ≤ 100000∧col ≤ 1000∧w ≤ 100∧h ≤ 100∧∀ H',Same H H'→Q (.bl (freeB T row col w h)) H'
def spFirst:Sp:=fun vs H Q _=>∃ (dd p:Addr) (kvs:List (List Key × V)) (T:Tk) (B cols w h:Nat),vs=[.ref dd,.int (cols:Int),.ref p]∧H dd=some (.dT kvs)∧DT kvs T∧Bd T B∧B ≤ 50000∧H p=some (.tup [.int (w:Int),.int (h:Int)])∧0 < w∧w ≤ cols∧cols ≤ 100∧h ≤ 100 ∧
  ∀ (t:Addr) (H':Hp),Same H H'→H' t=some (.tup (spV (firstF T B (cols - w + 1) w h)))→Q (.ref t) H'
def spTakeC:Sp:=fun vs H Q _=>∃ (dd q p:Addr) (kvs:List (List Key × V)) (T:Tk) (r c w h:Nat),vs=[.ref dd,.ref q,.ref p]∧H dd=some (.dT kvs)∧DT kvs T∧H q=some (.tup [.int (r:Int),.int (c:Int)])∧H p=some (.tup [.int (w:Int),.int (h:Int)])∧w ≤ 12∧h ≤ 12∧kvs.length ≤ 50000 ∧
  ∀ (kvs':List (List Key × V)) (H':Hp),Kp dd H H'→H' dd=some (.dT kvs')→DT kvs' (cover T r c w h)→kvs'.length ≤ kvs.length + 144→Q .non H'
def spPut:Sp:=fun vs H Q _=>∃ (a:Addr) (sa:List Addr) (sps:List (Nat × Nat)) (cols:Nat),vs=[.int (cols:Int),.ref a]∧H a=some (.lst (sa.map V.ref))∧RowsOf H sa (sps.map spV)∧(∀ sp ∈ sps,0 < sp.1∧sp.1 ≤ cols∧sp.2 ≤ 12)∧cols ≤ 12∧sps.length ≤ 100 ∧
  ∀ (l:Addr) (pa:List Addr) (H':Hp),H l=none→Same H H'→H' l=some (.lst (pa.map V.ref))→RowsOf H' pa ((putS cols sps sps.length).2.2.map spV)→Q (.ref l) H'
section
variable {P:Program} {w:World} {K:PySem.W.Frag} {mg:Str→Option Value} {base:Heap}
theorem scFree:FnScope ["taken","row","column","span","down","across"] ["taken","row","column","span"] (defScope sFree):=⟨rfl,rfl,rfl,by decide +kernel,rfl,by decide +kernel,by decide +kernel⟩
set_option maxHeartbeats 4000000 in
theorem ok_free {f:Addr} {fd:FuncData} (F:Fun K "is_free" "is_free" sFree f fd) (N:Names mg):FnOk P w K mg base CX0 1 f fd ["taken","row","column","span"] spFree:=by
  refine F.ok scFree (fun vs H Q E h=>?_) (fun cdv A outer s H vs Q E hr h=>?_)
  · obtain ⟨dd,p,kvs,T,row,col,w,h,e,_⟩:=h
    rw [e]
    rfl
  · obtain ⟨dd,p,kvs,T,row,col,w,h,e,hd,hT,hp,b1,b2,b3,b4,k⟩:=h
    subst e
    have hu:(A.deeper (PyProof.Rows.envOfC "is_free" (defScope sFree) s.heap.objs.size f cdv)).units + 1 < cLine:=by have:=hr.units; omega
    refine ⟨_,pss_cons (ps_for PassesOwn.never rfl (pi_range2 (by rfl) N.range (pa_cons (pv 1) (pa_cons (pe_op op_add (pv 1) (pe_ix ix_tup (pv 3) pe_int (fun _ _=>rfl))) pa_nil))) (pg_name (i:=4) scFree.nd rfl (Or.inl rfl))
        (pss_one (ps_for PassesOwn.never rfl (pi_range2 (by rfl) N.range (pa_cons (pv 2) (pa_cons (pe_op op_add (pv 2) (pe_ix ix_tup (pv 3) pe_int (fun _ _=>rfl))) pa_nil))) (pg_name (i:=5) scFree.nd rfl (Or.inl rfl))
          (pss_one (ps_if (pt_cmp (pc_din hu (pe_tup (pa_cons (pv 4) (pa_cons (pv 5) pa_nil))) (pv 0))) (pss_one (ps_ret pe_bl)) pss_nil)))))
      (pss_one (ps_ret pe_bl)),?_⟩
    have a0:∀ x y:V,atI [x,y] 0=some x:=fun x y=>rfl
    have a1:∀ x y:V,atI [x,y] 1=some y:=fun x y=>rfl
    refine ⟨_,rfl,_,rfl,_,rfl,p,_,_,_,rfl,rfl,SqT.of hp,a1 _ _,_,_,rfl,rfl,(row:Int),(row:Int) + (h:Int),rfl,⟨by omega,by omega,by omega,by omega⟩,?_⟩
    have en:((row:Int) + (h:Int) - (row:Int)).toNat=h:=by omega
    rw [en]
    refine for_range (lo:=(row:Int)) (n:=h) (fun i σ H9=>(∃ (u4 u5:Option V),σ=[some (.ref dd),some (.int (row:Int)),some (.int (col:Int)),some (.ref p),u4,u5])∧Same H H9∧∀ d,d < i→∀ a,a < w→T (row + d) (col + a)=false)
      ⟨⟨none,none,rfl⟩,Same.refl _,fun d hd=>absurd hd (Nat.not_lt_zero _)⟩ ?_ ?_
    · rintro d σ H1 hd1 ⟨⟨u4,u5,rfl⟩,s1,hfr⟩
      have hp1:=s1 _ _ hp
      refine ⟨_,rfl,_,rfl,_,rfl,p,_,_,_,rfl,rfl,SqT.of hp1,a0 _ _,_,_,rfl,rfl,(col:Int),(col:Int) + (w:Int),rfl,⟨by omega,by omega,by omega,by omega⟩,?_⟩
      have en2:((col:Int) + (w:Int) - (col:Int)).toNat=w:=by omega
      rw [en2]
      refine for_range (lo:=(col:Int)) (n:=w) (fun a σ H9=>(∃ (u5:Option V),σ=[some (.ref dd),some (.int (row:Int)),some (.int (col:Int)),some (.ref p),some (.int ((row:Int) + (d:Int))),u5])∧Same H1 H9∧∀ b,b < a→T (row + d) (col + b)=false)
        ⟨⟨_,rfl⟩,Same.refl _,fun b hb=>absurd hb (Nat.not_lt_zero _)⟩ ?_ ?_
      · rintro a σ H2 ha ⟨⟨u5,rfl⟩,s2,hfa⟩
        refine ⟨_,rfl,_,rfl,(by show 2 ≤ sizeLine; decide),fun t ht=>?_⟩
        have s3:Same H2 (upd H2 t (.tup [V.int ((row:Int) + (d:Int)),V.int ((col:Int) + (a:Int))])):=Same.put (Same.refl _) ht
        have h3:(upd H2 t (.tup [V.int ((row:Int) + (d:Int)),V.int ((col:Int) + (a:Int))])) t=some (.tup (([Sum.inl ((row + d:Nat):Int),Sum.inl ((col + a:Nat):Int)]:List Key).map kV)):=by
          rw [upd_same]
          show some (HO.tup [_,_])=some (HO.tup [_,_])
          rw [show ((row + d:Nat):Int)=(row:Int) + (d:Int) by omega,show ((col + a:Nat):Int)=(col:Int) + (a:Int) by omega]
          rfl
        generalize upd H2 t (.tup [V.int ((row:Int) + (d:Int)),V.int ((col:Int) + (a:Int))])=H3 at *
        have S3:Same H H3:=Same.trans s1 (Same.trans s2 s3)
        have g:=DGet.t (S3 _ _ hd) h3
        refine ⟨_,rfl,dd,_,rfl,g,_,rfl,?_⟩
        rw [hT]
        cases ht2:T (row + d) (col + a) with
        | true =>
          refine iteT ?_
          have:=k H3 S3
          rw [free_no hd1 ha ht2] at this
          exact this
        | false =>
          refine iteF ⟨⟨_,rfl⟩,Same.trans s2 s3,fun b hb=>?_⟩
          by_cases e:b=a
          · rw [e]; exact ht2
          · exact hfa b (by omega)
      · rintro σ H2 ⟨⟨u5,rfl⟩,s2,hfa⟩
        refine ⟨⟨_,_,rfl⟩,Same.trans s1 s2,fun d' hd'=>?_⟩
        by_cases e:d'=d
        · rw [e]; exact hfa
        · exact hfr d' (by omega)
    · rintro σ H1 ⟨⟨u4,u5,rfl⟩,s1,hfr⟩
      have:=k H1 s1
      rw [free_iff.mpr hfr] at this
      exact this
theorem scFirst:FnScope ["taken","columns","span","tried","row","column"] ["taken","columns","span"] (defScope sFirst):=⟨rfl,rfl,rfl,by decide +kernel,rfl,by decide +kernel,by decide +kernel⟩
set_option maxHeartbeats 4000000 in
theorem ok_first {f f1:Addr} {fd d1:FuncData} (F:Fun K "first_place" "first_place" sFirst f fd) (N:Names mg) (G1:FnOk P w K mg base CX0 1 f1 d1 ["taken","row","column","span"] spFree) (b1:Binds K d1 ["taken","row","column","span"] []) (m1:mg "is_free"=some (.ref f1)) (k1:PySem.W.keepIn K (.ref f1)=true) :
    FnOk P w K mg base CX0 2 f fd ["taken","columns","span"] spFirst:=by
  refine F.ok scFirst (fun vs H Q E h=>?_) (fun cdv A outer s H vs Q E hr h=>?_)
  · obtain ⟨dd,p,kvs,T,B,cols,w,h,e,_⟩:=h
    rw [e]
    rfl
  · obtain ⟨dd,p,kvs,T,B,cols,w,h,e,hd,hT,hB,hB5,hp,c1,c2,c3,c4,k⟩:=h
    subst e
    refine ⟨_,pss_cons (ps_set (i:=3) scFirst.nd rfl (Or.inl rfl) (pe_callB (call_max2 rfl) (by rfl) N.max PyProof.Rows.boot_max (pa_cons (pe_op op_add (pe_op op_sub (pv 1) (pe_ix ix_tup (pv 2) pe_int (fun _ _=>rfl))) pe_int) (pa_cons pe_int pa_nil))))
      (pss_cons (ps_set (i:=4) scFirst.nd rfl (Or.inl rfl) pe_int)
      (pss_one (ps_while PassesOwn.never (pt_val pe_bl)
        (pss_cons (ps_for PassesOwn.never rfl (pi_range1 (by rfl) N.range (pa_cons (pv 3) pa_nil)) (pg_name (i:=5) scFirst.nd rfl (Or.inl rfl))
          (pss_one (ps_if (pt_val (pe_call G1 hr (by rfl) m1 k1 b1 .nil pass0 (pa_cons (pv 0) (pa_cons (pv 4) (pa_cons (pv 5) (pa_cons (pv 2) pa_nil)))))) (pss_one (ps_ret (pe_tup (pa_cons (pv 4) (pa_cons (pv 5) pa_nil))))) pss_nil)))
        (pss_one (ps_set (i:=4) scFirst.nd rfl (Or.inl rfl) (pe_op op_add (pv 4) pe_int))))))),?_⟩
    have a0:∀ x y:V,atI [x,y] 0=some x:=fun x y=>rfl
    refine ⟨_,rfl,_,rfl,p,_,_,_,rfl,rfl,SqT.of hp,a0 _ _,_,_,rfl,rfl,_,_,rfl,rfl,_,_,rfl,?_⟩
    have etr:(if (1:Int) > (cols:Int) - (w:Int) + 1 then (1:Int) else (cols:Int) - (w:Int) + 1)=((cols - w + 1:Nat):Int):=by split <;> omega
    rw [etr]
    have hn:0 < cols - w + 1:=Nat.succ_pos _
    have hn2:cols - w + 1 ≤ 100:=by omega
    generalize cols - w + 1=n at *
    clear etr
    refine ⟨fun m σ H9=>∃ (row:Nat) (u5:Option V),σ=[some (.ref dd),some (.int (cols:Int)),some (.ref p),some (.int (n:Int)),some (.int (row:Int)),u5]∧Same H H9∧row ≤ B∧m=B + 1 - row∧rowS T n w h (B + 1 - row) row=firstF T B n w h,⟨_,0,none,rfl,Same.refl _,Nat.zero_le _,rfl,rfl⟩,?_⟩
    rintro m σ H1 ⟨row,u5,rfl,s1,hrow,rfl,heq⟩
    refine ⟨_,rfl,iteT ?_⟩
    refine ⟨fun σ' H'=>∃ (u5:Option V),σ'=[some (.ref dd),some (.int (cols:Int)),some (.ref p),some (.int (n:Int)),some (.int ((row + 1:Nat):Int)),u5]∧Same H H'∧row + 1 ≤ B∧rowS T n w h (B + 1 - (row + 1)) (row + 1)=firstF T B n w h,fun σ' H' ⟨u5,e1,e2,e3,e4⟩=>⟨B + 1 - (row + 1),by omega,row + 1,u5,e1,e2,e3,rfl,e4⟩,?_⟩
    refine ⟨_,rfl,(n:Int),rfl,by omega,by omega,?_⟩
    rw [show ((n:Int)).toNat=n by omega]
    have ef:B + 1 - row=(B - row) + 1:=by omega
    rw [ef] at heq
    refine for_range (lo:=0) (n:=n) (fun i σ H9=>(∃ (u5:Option V),σ=[some (.ref dd),some (.int (cols:Int)),some (.ref p),some (.int (n:Int)),some (.int (row:Int)),u5])∧Same H H9∧∀ c,c < i→freeB T row c w h=false)
      ⟨⟨_,rfl⟩,s1,fun c hc=>absurd hc (Nat.not_lt_zero _)⟩ ?_ ?_
    · rintro i σ H2 hi ⟨⟨u5,rfl⟩,s2,hno⟩
      refine ⟨_,rfl,_,rfl,_,rfl,_,rfl,dd,p,kvs,T,row,i,w,h,(by rw [show (0:Int) + (i:Int)=(i:Int) by omega]; rfl),s2 _ _ hd,hT,s2 _ _ hp,by omega,by omega,by omega,by omega,fun H3 s3=>⟨_,rfl,?_⟩⟩
      have S3:=Same.trans s2 s3
      cases hfb:freeB T row i w h with
      | true =>
        refine iteT ?_
        rw [rowS_hit hi hfb hno] at heq
        refine ⟨_,rfl,_,rfl,(by show 2 ≤ sizeLine; decide),fun t ht=>?_⟩
        refine k t _ (Same.put S3 (same_none S3 ht)) ?_
        rw [← heq,upd_same]
        show some (HO.tup [V.int (row:Int),V.int (0 + (i:Int))])=some (HO.tup [V.int (row:Int),V.int (i:Int)])
        rw [show (0:Int) + (i:Int)=(i:Int) by omega]
      | false =>
        refine iteF ⟨⟨_,rfl⟩,S3,fun c hc=>?_⟩
        by_cases e:c=i
        · rw [e]; exact hfb
        · exact hno c (by omega)
    · rintro σ H2 ⟨⟨u5,rfl⟩,s2,hno⟩
      have hlt:row ≠ B:=fun z=>by
        have:=hno 0 hn
        rw [z,free_at_bound hB] at this
        cases this
      rw [rowS_miss hno] at heq
      refine ⟨_,rfl,_,_,rfl,rfl,?_⟩
      refine (show ∃ u5,_ from ⟨u5,?_,s2,by omega,by rw [show B + 1 - (row + 1)=B - row by omega]; exact heq⟩)
      rw [show ((row + 1:Nat):Int)=(row:Int) + 1 by omega]
      rfl
theorem scTakeC:FnScope ["taken","place","span","down","across"] ["taken","place","span"] (defScope sTakeC):=⟨rfl,rfl,rfl,by decide +kernel,rfl,by decide +kernel,by decide +kernel⟩
set_option maxHeartbeats 4000000 in
theorem ok_takeC {f:Addr} {fd:FuncData} (F:Fun K "take" "take" sTakeC f fd) (N:Names mg):FnOk P w K mg base CX0 1 f fd ["taken","place","span"] spTakeC:=by
  refine F.ok scTakeC (fun vs H Q E h=>?_) (fun cdv A outer s H vs Q E hr h=>?_)
  · obtain ⟨dd,q,p,kvs,T,r,c,w,h,e,_⟩:=h
    rw [e]
    rfl
  · obtain ⟨dd,q,p,kvs,T,r,c,w,h,e,hd,hT,hq,hp,b1,b2,b3,k⟩:=h
    subst e
    have hu:(A.deeper (PyProof.Rows.envOfC "take" (defScope sTakeC) s.heap.objs.size f cdv)).units + 1 < cLine:=by have:=hr.units; omega
    refine ⟨_,pss_one (ps_for PassesOwn.never rfl (pi_range1 (by rfl) N.range (pa_cons (pe_ix ix_tup (pv 2) pe_int (fun _ _=>rfl)) pa_nil)) (pg_name (i:=3) scTakeC.nd rfl (Or.inl rfl))
        (pss_one (ps_for PassesOwn.never rfl (pi_range1 (by rfl) N.range (pa_cons (pe_ix ix_tup (pv 2) pe_int (fun _ _=>rfl)) pa_nil)) (pg_name (i:=4) scTakeC.nd rfl (Or.inl rfl))
          (pss_one (ps_dput hu (pv 0) (pe_tup (pa_cons (pe_op op_add (pe_ix ix_tup (pv 1) pe_int (fun _ _=>rfl)) (pv 3)) (pa_cons (pe_op op_add (pe_ix ix_tup (pv 1) pe_int (fun _ _=>rfl)) (pv 4)) pa_nil))) pe_bl rfl))))),?_⟩
    have a0:∀ x y:V,atI [x,y] 0=some x:=fun x y=>rfl
    have a1:∀ x y:V,atI [x,y] 1=some y:=fun x y=>rfl
    have npd:p ≠ dd:=fun z=>by rw [z,hd] at hp; cases hp
    have nqd:q ≠ dd:=fun z=>by rw [z,hd] at hq; cases hq
    refine ⟨_,rfl,p,_,_,_,rfl,rfl,SqT.of hp,a1 _ _,(h:Int),rfl,by omega,by omega,?_⟩
    rw [show ((h:Int)).toNat=h by omega]
    refine for_range (lo:=0) (n:=h) (fun d σ H9=>∃ (kvs':List (List Key × V)) (u3 u4:Option V),σ=[some (.ref dd),some (.ref q),some (.ref p),u3,u4]∧Kp dd H H9∧H9 dd=some (.dT kvs')∧DT kvs' (coverP T r c w d 0)∧kvs'.length ≤ kvs.length + d * w)
      ⟨kvs,none,none,rfl,Kp.refl _,hd,(by rw [coverP_zero]; exact hT),by omega⟩ ?_ ?_
    · rintro d σ H1 hd1 ⟨kv1,u3,u4,rfl,s1,hd2,hT1,hl1⟩
      refine ⟨_,rfl,p,_,_,_,rfl,rfl,SqT.of (s1 _ _ npd hp),a0 _ _,(w:Int),rfl,by omega,by omega,?_⟩
      rw [show ((w:Int)).toNat=w by omega]
      have hdw:d * w ≤ 11 * 12:=Nat.mul_le_mul (by omega) b1
      refine for_range (lo:=0) (n:=w) (fun a σ H9=>∃ (kvs':List (List Key × V)) (u4:Option V),σ=[some (.ref dd),some (.ref q),some (.ref p),some (.int (0 + (d:Int))),u4]∧Kp dd H H9∧H9 dd=some (.dT kvs')∧DT kvs' (coverP T r c w d a)∧kvs'.length ≤ kvs.length + (d * w + a))
        ⟨kv1,_,rfl,s1,hd2,hT1,by omega⟩ ?_ ?_
      · rintro a σ H2 ha ⟨kv2,u4,rfl,s2,hd3,hT2,hl2⟩
        have hq2:=s2 _ _ nqd hq
        refine ⟨_,rfl,_,rfl,q,_,_,_,rfl,rfl,SqT.of hq2,a0 _ _,_,rfl,_,_,rfl,rfl,_,rfl,q,_,_,_,rfl,rfl,SqT.of hq2,a1 _ _,_,rfl,_,_,rfl,rfl,(by show 2 ≤ sizeLine; decide),fun t ht=>?_⟩
        have s3:Same H2 (upd H2 t (.tup [V.int ((r:Int) + (0 + (d:Int))),V.int ((c:Int) + (0 + (a:Int)))])):=Same.put (Same.refl _) ht
        have h3:(upd H2 t (.tup [V.int ((r:Int) + (0 + (d:Int))),V.int ((c:Int) + (0 + (a:Int)))])) t=some (.tup (([Sum.inl ((r + d:Nat):Int),Sum.inl ((c + a:Nat):Int)]:List Key).map kV)):=by
          rw [upd_same]
          show some (HO.tup [_,_])=some (HO.tup [_,_])
          rw [show ((r + d:Nat):Int)=(r:Int) + (0 + (d:Int)) by omega,show ((c + a:Nat):Int)=(c:Int) + (0 + (a:Int)) by omega]
          rfl
        dsimp only
        generalize upd H2 t (.tup [V.int ((r:Int) + (0 + (d:Int))),V.int ((c:Int) + (0 + (a:Int)))])=H3 at *
        have hd4:=s3 _ _ hd3
        refine ⟨dd,_,rfl,DPut.t hd4 h3 (small (by omega)),?_⟩
        refine (show ∃ kvs' u4,_ from ⟨_,_,rfl,Kp.trans (Kp.trans s2 (Kp.of s3)) Kp.store,upd_same,DT.put hT2 (coverP_step T r c w d a),?_⟩)
        have:=length_putK kv2 ([Sum.inl ((r + d:Nat):Int),Sum.inl ((c + a:Nat):Int)]:List Key) (V.bl true)
        omega
      · rintro σ H2 ⟨kv2,u4,rfl,s2,hd3,hT2,hl2⟩
        refine ⟨kv2,_,_,rfl,s2,hd3,(by rw [← coverP_row]; exact hT2),by rw [Nat.succ_mul]; omega⟩
    · rintro σ H1 ⟨kv1,u3,u4,rfl,s1,hd2,hT1,hl1⟩
      have hhw:h * w ≤ 12 * 12:=Nat.mul_le_mul b2 b1
      rw [coverP_end] at hT1
      exact k kv1 H1 s1 hd2 hT1 (by omega)
theorem scPut:FnScope ["columns","spans","taken","places","span","place"] ["columns","spans"] (defScope sPut):=⟨rfl,rfl,rfl,by decide +kernel,rfl,by decide +kernel,by decide +kernel⟩
set_option maxHeartbeats 4000000 in
theorem ok_put {f f1 f2:Addr} {fd d1 d2:FuncData} (F:Fun K "put_cells" "put_cells" sPut f fd)
    (G1:FnOk P w K mg base CX0 2 f1 d1 ["taken","columns","span"] spFirst) (b1:Binds K d1 ["taken","columns","span"] []) (m1:mg "first_place"=some (.ref f1)) (k1:PySem.W.keepIn K (.ref f1)=true)
    (G2:FnOk P w K mg base CX0 1 f2 d2 ["taken","place","span"] spTakeC) (b2:Binds K d2 ["taken","place","span"] []) (m2:mg "take"=some (.ref f2)) (k2:PySem.W.keepIn K (.ref f2)=true) :
    FnOk P w K mg base CX0 3 f fd ["columns","spans"] spPut:=by
  refine F.ok scPut (fun vs H Q E h=>?_) (fun cdv A outer s H vs Q E hr h=>?_)
  · obtain ⟨a,sa,sps,cols,e,_⟩:=h
    rw [e]
    rfl
  · obtain ⟨a,sa,sps,cols,e,ha,hR,hsp,hc,hl,k⟩:=h
    subst e
    have hr1:=hr.mono (j:=1) (by decide)
    refine ⟨_,pss_cons (ps_set (i:=2) scPut.nd rfl (Or.inl rfl) pe_dnewT)
      (pss_cons (ps_set (i:=3) scPut.nd rfl (Or.inl rfl) (pe_lst pa_nil))
      (pss_cons (ps_for PassesOwn.never rfl (pi_list (pv 1)) (pg_name (i:=4) scPut.nd rfl (Or.inl rfl))
        (pss_cons (ps_set (i:=5) scPut.nd rfl (Or.inl rfl) (pe_call G1 hr (by rfl) m1 k1 b1 .nil pass0 (pa_cons (pv 2) (pa_cons (pv 0) (pa_cons (pv 4) pa_nil)))))
        (pss_cons (ps_expr (pe_call G2 hr1 (by rfl) m2 k2 b2 .nil pass0 (pa_cons (pv 2) (pa_cons (pv 5) (pa_cons (pv 4) pa_nil)))))
        (pss_one (ps_expr (pe_bm PySem.F.plainAttrs_list PySem.F.slot_list_append PySem.F.type_list_append mt_append (pv 3) (pa_cons (pv 5) pa_nil)))))))
      (pss_one (ps_ret (pv 3))))),?_⟩
    refine fun dd hdd=>?_
    have s1:Same H (upd H dd (.dT [])):=Same.put (Same.refl _) hdd
    have h1:(upd H dd (.dT [])) dd=some (.dT []):=upd_same
    generalize upd H dd (.dT [])=H1 at *
    refine ⟨smallE (by simp),fun lp hlp=>?_⟩
    have s2:Same H1 (upd H1 lp (.lst [])):=Same.put (Same.refl _) hlp
    have h2:(upd H1 lp (.lst [])) lp=some (.lst []):=upd_same
    have ndl:lp ≠ dd:=Ne.symm (ne_of_none h1 hlp)
    have hlp0:H lp=none:=same_none s1 hlp
    generalize upd H1 lp (.lst [])=H2 at *
    have s02:=Same.trans s1 s2
    have lsa:sa.length=sps.length:=by rw [hR.1,List.length_map]
    refine ⟨_,rfl,a,rfl,⟨_,SqL.of (s02 _ _ ha)⟩,for_list (K:=K) (a:=a) (xs:=sa.map V.ref) (fun i σ H9=>∃ (kvs:List (List Key × V)) (pa:List Addr) (u4 u5:Option V),σ=[some (.int (cols:Int)),some (.ref a),some (.ref dd),some (.ref lp),u4,u5]∧Same H H9∧H9 dd=some (.dT kvs)∧DT kvs (putS cols sps i).1∧kvs.length ≤ 144 * i∧H9 lp=some (.lst (pa.map V.ref))∧RowsOf H9 pa ((putS cols sps i).2.2.map spV))
      ⟨[],[],none,none,rfl,s02,s2 _ _ h1,DT.nil,Nat.zero_le _,h2,RowsOf.nil⟩ (fun i σ H9 _ ⟨_,_,_,_,_,z,_⟩=>SqL.of (z _ _ ha)) ?_ ?_⟩
    · rintro i x σ H3 hx ⟨kvs,pa,u4,u5,rfl,s3,hd3,hT3,hk3,hl3,hr3⟩
      obtain ⟨p,r,rfl,ep,er,hp⟩:=hR.get hx
      rw [List.getElem?_map] at er
      cases esp:sps[i]? with
      | none=>rw [esp] at er; cases er
      | some sp =>
        rw [esp] at er
        cases er
        have hi:=get_lt esp
        obtain ⟨q1,q2,q3⟩:=hsp sp (List.mem_of_getElem? esp)
        have eg:sps.getD i (1,1)=sp:=by rw [List.getD_eq_getElem?_getD,esp]; rfl
        have hdp:=putS_depth cols sps (fun j=>by
          rw [List.getD_eq_getElem?_getD]
          cases ej:sps[j]? with
          | none=>show 1 ≤ 100; decide
          | some s'=>have:=(hsp s' (List.mem_of_getElem? ej)).2.2; show s'.2 ≤ 100; omega) i
        refine ⟨_,rfl,_,rfl,_,rfl,dd,p,kvs,_,(putS cols sps i).2.1,cols,sp.1,sp.2,rfl,hd3,hT3,putS_bd cols sps i,by omega,s3 _ _ hp,q1,q2,by omega,by omega,fun t H4 s4 ht4=>?_⟩
        have epl:firstF (putS cols sps i).1 (putS cols sps i).2.1 (cols - sp.1 + 1) sp.1 sp.2=plAt cols sps i:=by unfold plAt; rw [eg]
        rw [epl] at ht4
        have hd4:=s4 _ _ hd3
        refine ⟨_,rfl,_,rfl,_,rfl,dd,t,p,kvs,_,(plAt cols sps i).1,(plAt cols sps i).2,sp.1,sp.2,rfl,hd4,hT3,ht4,Same.trans s3 s4 _ _ hp,by omega,q3,by omega,fun kv5 H5 s5 hd5 hT5 hk5=>?_⟩
        have ntd:t ≠ dd:=fun z=>by rw [z,hd4] at ht4; cases ht4
        have ht5:=s5 _ _ ntd ht4
        have hl5:=s5 _ _ ndl (s4 _ _ hl3)
        have hr5:RowsOf H5 pa ((putS cols sps i).2.2.map spV):=rows_kp (hr3.same s4) s5 hd4
        have S5:Same H H5:=Kp.same s5 (Same.trans s3 s4) hdd
        have lpa:pa.length=i:=by rw [hr3.1,List.length_map,putS_len]
        refine ⟨_,rfl,.inl ⟨rfl,_,SqL.of hl5⟩,_,rfl,lp,_,_,rfl,rfl,hl5,small (by rw [List.length_map]; omega),?_⟩
        refine (show ∃ kvs pa u4 u5,_ from ⟨kv5,pa ++ [t],_,_,rfl,Same.put S5 hlp0,?_,?_,by omega,?_,?_⟩)
        · rw [upd_ne (Ne.symm ndl)]
          exact hd5
        · have e5:(putS cols sps (i + 1)).1=cover (putS cols sps i).1 (plAt cols sps i).1 (plAt cols sps i).2 sp.1 sp.2:=by
            show cover _ _ _ (sps.getD i (1,1)).1 (sps.getD i (1,1)).2=_
            unfold plAt
            rw [eg]
          rw [e5]
          exact hT5
        · rw [upd_same,List.map_append]
          rfl
        · rw [putS_snoc,List.map_append]
          exact RowsOf.snoc (rows_updL hr5 hl5) (Same.refl _) (by rw [upd_ne (ne_of ht5 hl5 (by intro z; cases z))]; exact ht5)
    · rintro σ H3 ⟨kvs,pa,u4,u5,rfl,s3,hd3,hT3,hk3,hl3,hr3⟩
      rw [List.length_map,lsa] at hr3
      exact ⟨_,rfl,k lp pa H3 hlp0 s3 hl3 hr3⟩
end
end B06
namespace B06
open PySem L2 S2
theorem putS_rows (cols:Nat) (sps:List (Nat × Nat)):∀ i,i ≤ sps.length→(putS cols sps i).2.1=((sps.take i).map (·.2)).sum
  | 0,_=>rfl
  | i + 1,hi=>by
    show (putS cols sps i).2.1 + (sps.getD i (1,1)).2=_
    have e:sps[i]?=some (sps.getD i (1,1)):=by rw [List.getD_eq_getElem?_getD,List.getElem?_eq_getElem (by omega)]; rfl
    rw [putS_rows cols sps i (by omega),List.take_succ,e,List.map_append,List.sum_append]
    simp
end B06
namespace PySem
namespace DT
section
variable {prog:Program} {w:World} {A:Around} {E:Value→Shared→Prop} {s:Shared}
end
end DT
end PySem
namespace PySem
namespace DT
section
variable {prog:Program} {w:World} {A:Around} {E:Value→Shared→Prop} {s:Shared}
end
section
variable {prog:Program} {w:World} {A:Around} {s:Shared} {R:Result→Shared→Prop}
end
section
variable {prog:Program} {w:World} {A:Around} {E:Value→Shared→Prop} {s:Shared}
end
end DT
end PySem
namespace L2
open PySem PySem.Spec PyProof.Rows
section
variable {X:Cx}
end
end L2
namespace PySem
namespace DT
section
variable {prog:Program} {w:World} {A:Around} {E:Value→Shared→Prop} {s:Shared}
theorem nextOf_range_item {it:Addr} {x left step:Int} {Q:Value→Shared→Prop} (hit:IsRangeIter s.heap it x left step) (hleft:0 < left)
    (hQ:∀ h',IsRangeIter h' it (x + step) (left - 1) step→Heap.SameBut it s.heap h'→Q (.int x s.toks) { s with heap:=h',toks:=s.toks + 1 }) :
    wpAny (model prog w) A (Builtin.SmallTypes.nextOf (.ref it)) Q E s:=by
  have hT:s.TypeIs (.ref it) "range_iterator":=⟨_,hit,rfl⟩
  unfold Builtin.SmallTypes.nextOf
  refine wpAny_bind (wpAny_callSpecial?_slot (name:=Str.ofString "__next__") hT F.slot_range_iterator_next
    (call_meets F.slot_range_iterator_next hT F.entry_range_iterator_next (F.args_range_iterator_next_1 _) (AutoRange.range_iterator___next___range_iterator_1 it x left step (by omega)) ⟨hit,?_⟩))
  exact wpAny_pure (hQ _ (Heap.get?_update_self _ (Heap.get?_update_self _ hit rfl) rfl) ((Heap.SameBut.update ..).trans (Heap.SameBut.update ..)))
theorem nextOf_range_end {it:Addr} {x left step:Int} {Q:Value→Shared→Prop} (hh:A.handled=none) (hit:IsRangeIter s.heap it x left step) (hleft:left ≤ 0)
    (hE:∀ h' e,Heap.ExtBut it s.heap h'→(∃ o,h'.get? e=some o∧o.cls=.type "StopIteration")→E (.ref e) { s with heap:=h' }) :
    wpAny (model prog w) A (Builtin.SmallTypes.nextOf (.ref it)) Q E s:=by
  have hT:s.TypeIs (.ref it) "range_iterator":=⟨_,hit,rfl⟩
  unfold Builtin.SmallTypes.nextOf
  refine wpAny_bind (wpAny_callSpecial?_slot (name:=Str.ofString "__next__") hT F.slot_range_iterator_next
    (wpAny_call_entry F.slot_range_iterator_next hT F.entry_range_iterator_next ?_ (F.args_range_iterator_next_1 _)))
  show wpAny _ _ (field (.ref it) 0 >>= _) _ _ s
  refine wpAny_bind (wpAny_field hit rfl (x:=rawInt x) rfl ?_)
  show wpAny _ _ (field (.ref it) 1 >>= _) _ _ s
  refine wpAny_bind (wpAny_field hit rfl (x:=rawInt left) rfl ?_)
  show wpAny _ _ (field (.ref it) 2 >>= _) _ _ s
  refine wpAny_bind (wpAny_field hit rfl (x:=rawInt step) rfl ?_)
  show wpAny _ _ (if left ≤ 0 then _ else _) _ _ s
  rw [if_pos hleft]
  refine wpAny_bind (wpAny_rule ?_)
  refine wpAny_bind ?_
  show wpAny _ _ (newExc (.type "StopIteration") [] >>= _) _ _ _
  refine wpAny_bind ?_
  simp only [newExc,newTuple]
  refine wpAny_bind (wpAny_newObj_type ?_ (by size_fits))
  refine wpAny_bind (m:=firstArgMember _ _) (wpAny_of_eq (a:=Value.none) (by first | rfl | (simp only [firstArgMember]; rfl)) ?_)
  refine wpAny_newObj_type ?_ (by size_fits)
  simp only [raiseNew]
  refine wpAny_bind (wpAny_handled ?_)
  first | rw [show A.in1.handled=none from hh] | rw [hh]
  refine wpAny_bind (wpAny_pure (wpAny_throw ?_))
  exact hE _ _ (((Heap.ExtBut.refl it s.heap).push _).push _) ⟨_,Heap.get?_push_size _ rfl,rfl⟩
theorem zipR_item {z TI TO i1 i2 l1 l2:Addr} {x left:Int} {k2:Nat} {ys:Array Value} {y a b:Value} {Q:Value→Shared→Prop} (D:ZipApart z TI TO i1 i2 l1 l2)
    (hz:IsZip s.heap z TI TO .none) (hTI:IsPair s.heap TI (.ref i1) (.ref i2)) (hTO:IsPair s.heap TO a b)
    (h1:IsRangeIter s.heap i1 x left 1) (h2:s.heap.IsListIter i2 l2 k2) (hl2:s.heap.IsList l2 ys) (hx:0 < left) (hy:ys[k2]?=some y)
    (hQ:∀ h',IsZip h' z TI TO (rawInt s.heap.objs.size)→IsPair h' TO (.int x s.toks) y→IsRangeIter h' i1 (x + 1) (left - 1) 1→h'.IsListIter i2 l2 (k2 + 1)→IsPair h' s.heap.objs.size (.int x s.toks) y→h'.objs.size=s.heap.objs.size + 1 →
      (∀ c o,c ≠ z→c ≠ TO→c ≠ i1→c ≠ i2→s.heap.get? c=some o→h'.get? c=some o)→Q (.ref s.heap.objs.size) { s with heap:=h',toks:=s.toks + 1 }) :
    wpAny (model prog w) A (Builtin.«zip.__next__» ⟨[.ref z],[]⟩) (fun fin s'=>∃ v,fin=.done (.ret v)∧Q v s') E s:=by
  show wpAny _ _ (field (.ref z) 2 >>= _) _ _ _
  refine wpAny_bind (wpAny_field hz rfl (x:=.bool false) rfl ?_)
  show wpAny _ _ (field (.ref z) 3 >>= _) _ _ _
  refine wpAny_bind (wpAny_field hz rfl (x:=.ref TI) rfl ?_)
  refine wpAny_bind (wpAny_seqItems hTI rfl ?_)
  show wpAny _ _ (Builtin.SmallTypes.ownedTupleIsFree (.ref z) >>= _) _ _ _
  refine wpAny_bind ?_
  unfold Builtin.SmallTypes.ownedTupleIsFree
  refine wpAny_bind (wpAny_field hz rfl (x:=.none) rfl (wpAny_pure ?_))
  simp only [if_true]
  refine wpAny_bind (wpAny_rule ?_)
  refine wpAny_bind (wpAny_field hz rfl (x:=.ref TO) rfl ?_)
  refine wpAny_bind (wpAny_setField_rec hz (by simp) fun h₁ hz₁ hs₁=>?_)
  replace hz₁:IsZip h₁ z TI TO .ellipsis:=hz₁
  refine wpAny_bind ?_
  simp only [List.zipIdx_cons,List.zipIdx_nil,List.forIn_cons,List.forIn_nil]
  refine wpAny_bind (wpAny_bind (wpAny_onRaise ?_))
  show wpAny _ _ (Builtin.SmallTypes.nextOf (.ref i1) >>= _) _ _ _
  refine wpAny_bind (nextOf_range_item (s:={ s with heap:=h₁ }) (hs₁.extBut _ _ D.i1z h1) hx fun h₂ h1₂ hs₂=>wpAny_pure ?_)
  have hTO₂:IsPair h₂ TO a b:=hs₂.extBut _ _ D.TOi1 (hs₁.extBut _ _ D.TOz hTO)
  refine wpAny_bind (wpAny_seqItems hTO₂ rfl ?_)
  refine wpAny_bind (wpAny_updateSeq_pair hTO₂ fun h₃ hTO₃ hs₃=>?_)
  replace hTO₃:IsPair h₃ TO (.int x s.toks) b:=hTO₃
  refine wpAny_bind (wpAny_letGo (wpAny_pure ?_))
  refine wpAny_bind (wpAny_bind (wpAny_onRaise ?_))
  show wpAny _ _ (Builtin.SmallTypes.nextOf (.ref i2) >>= _) _ _ _
  refine wpAny_bind (wpAny_nextOf_list_item (((h2.extBut hs₁.extBut D.i2z).extBut hs₂.extBut D.i12.symm).extBut hs₃.extBut D.TOi2.symm)
    (((hl2.extBut hs₁.extBut D.l2z).extBut hs₂.extBut D.l2i1).extBut hs₃.extBut D.l2TO) hy fun h₄ h2₄ hs₄=>wpAny_pure ?_)
  have hTO₄:IsPair h₄ TO (.int x s.toks) b:=hs₄.extBut _ _ D.TOi2 hTO₃
  refine wpAny_bind (wpAny_seqItems hTO₄ rfl ?_)
  refine wpAny_bind (wpAny_updateSeq_pair hTO₄ fun h₅ hTO₅ hs₅=>?_)
  replace hTO₅:IsPair h₅ TO (.int x s.toks) y:=hTO₅
  refine wpAny_bind (wpAny_letGo (wpAny_pure (wpAny_pure ?_)))
  refine wpAny_bind (wpAny_seqItems hTO₅ rfl ?_)
  refine wpAny_bind (wpAny_newTuple ?_)
  have hsz:h₅.objs.size=s.heap.objs.size:=by rw [hs₅.1,hs₄.1,hs₃.1,hs₂.1,hs₁.1]
  have hz₅:IsZip h₅ z TI TO .ellipsis:=hs₅.extBut _ _ D.TOz.symm (hs₄.extBut _ _ D.i2z.symm (hs₃.extBut _ _ D.TOz.symm (hs₂.extBut _ _ D.i1z.symm hz₁)))
  have hk₅:∀ c o,c ≠ z→c ≠ TO→c ≠ i1→c ≠ i2→s.heap.get? c=some o→h₅.get? c=some o:=fun c o c1 c2 c3 c4 e =>
    hs₅.extBut _ _ c2 (hs₄.extBut _ _ c4 (hs₃.extBut _ _ c2 (hs₂.extBut _ _ c3 (hs₁.extBut _ _ c1 e))))
  have h1₅:IsRangeIter h₅ i1 (x + 1) (left - 1) 1:=hs₅.extBut _ _ D.TOi1.symm (hs₄.extBut _ _ D.i12 (hs₃.extBut _ _ D.TOi1.symm h1₂))
  have h2₅:h₅.IsListIter i2 l2 (k2 + 1):=h2₄.extBut hs₅.extBut D.TOi2.symm
  have hzlt:z < h₅.objs.size:=Heap.lt_size hz₅
  have hTOlt:TO < h₅.objs.size:=Heap.lt_size hTO₅
  have hi1lt:i1 < h₅.objs.size:=Heap.lt_size h1₅
  have hi2lt:i2 < h₅.objs.size:=by obtain ⟨_,e,_⟩:=h2₅; exact Heap.lt_size e
  show wpAny _ _ (Builtin.SmallTypes.ownedTupleHandOut (.ref z) (.ref h₅.objs.size) >>= _) _ _ _
  refine wpAny_bind ?_
  unfold Builtin.SmallTypes.ownedTupleHandOut
  have hz₆:IsZip (h₅.push { cls:=.type "tuple",data:=.seq #[.int x s.toks,y] }) z TI TO .ellipsis:=Heap.get?_push_of_some _ hz₅
  refine wpAny_bind (wpAny_setField_rec hz₆ (by simp) fun h₇ hz₇ hs₇=>?_)
  replace hz₇:IsZip h₇ z TI TO (rawInt h₅.objs.size):=hz₇
  refine wpAny_setField_rec hz₇ (by simp) fun h₈ hz₈ hs₈=>?_
  replace hz₈:IsZip h₈ z TI TO (rawInt h₅.objs.size):=hz₈
  have up:∀ c o,c ≠ z→h₅.get? c=some o→h₈.get? c=some o:=fun c o c1 e=>hs₈.extBut _ _ c1 (hs₇.extBut _ _ c1 (Heap.get?_push_of_some _ e))
  have hT₈:IsPair h₈ h₅.objs.size (.int x s.toks) y:=hs₈.extBut _ _ (Nat.ne_of_gt hzlt) (hs₇.extBut _ _ (Nat.ne_of_gt hzlt) (Heap.get?_push_size _ rfl))
  have hz8:h₈.objs.size=h₅.objs.size + 1:=by rw [hs₈.1,hs₇.1,Heap.size_push]
  rw [hsz] at hz₈ hT₈ hz8
  refine wpAny_pure ⟨_,rfl,?_⟩
  show Q (.ref h₅.objs.size) _
  rw [hsz]
  exact hQ h₈ hz₈ (up _ _ D.TOz hTO₅) (up _ _ D.i1z h1₅) (h2₅.at fun o e=>up _ o D.i2z e) hT₈ hz8 fun c o c1 c2 c3 c4 e=>up c o c1 (hk₅ c o c1 c2 c3 c4 e)
theorem zipR_end {z TI TO i1 i2 l1 l2:Addr} {x left:Int} {a b:Value} {Q:Fin→Shared→Prop} (hh:A.handled=none) (D:ZipApart z TI TO i1 i2 l1 l2)
    (hz:IsZip s.heap z TI TO .none) (hTI:IsPair s.heap TI (.ref i1) (.ref i2)) (hTO:IsPair s.heap TO a b)
    (h1:IsRangeIter s.heap i1 x left 1) (hx:left ≤ 0)
    (hE:∀ h' e,(∀ c o,c ≠ z→c ≠ TO→c ≠ i1→c ≠ i2→s.heap.get? c=some o→h'.get? c=some o)→(∃ o,h'.get? e=some o∧o.cls=.type "StopIteration")→E (.ref e) { s with heap:=h' }) :
    wpAny (model prog w) A (Builtin.«zip.__next__» ⟨[.ref z],[]⟩) Q E s:=by
  show wpAny _ _ (field (.ref z) 2 >>= _) _ _ _
  refine wpAny_bind (wpAny_field hz rfl (x:=.bool false) rfl ?_)
  show wpAny _ _ (field (.ref z) 3 >>= _) _ _ _
  refine wpAny_bind (wpAny_field hz rfl (x:=.ref TI) rfl ?_)
  refine wpAny_bind (wpAny_seqItems hTI rfl ?_)
  show wpAny _ _ (Builtin.SmallTypes.ownedTupleIsFree (.ref z) >>= _) _ _ _
  refine wpAny_bind ?_
  unfold Builtin.SmallTypes.ownedTupleIsFree
  refine wpAny_bind (wpAny_field hz rfl (x:=.none) rfl (wpAny_pure ?_))
  simp only [if_true]
  refine wpAny_bind (wpAny_rule ?_)
  refine wpAny_bind (wpAny_field hz rfl (x:=.ref TO) rfl ?_)
  refine wpAny_bind (wpAny_setField_rec hz (by simp) fun h₁ hz₁ hs₁=>?_)
  replace hz₁:IsZip h₁ z TI TO .ellipsis:=hz₁
  refine wpAny_bind ?_
  simp only [List.zipIdx_cons,List.zipIdx_nil,List.forIn_cons,List.forIn_nil]
  refine wpAny_bind (wpAny_bind (wpAny_onRaise ?_))
  show wpAny _ _ (Builtin.SmallTypes.nextOf (.ref i1) >>= _) _ _ _
  refine wpAny_bind (nextOf_range_end (s:={ s with heap:=h₁ }) hh (hs₁.extBut _ _ D.i1z h1) hx fun h₂ e hs₂ he=>?_)
  obtain ⟨oe,hoe,hce⟩:=he
  have hz₂:IsZip h₂ z TI TO .ellipsis:=hs₂ _ _ D.i1z.symm hz₁
  have hez:e ≠ z:=fun x=>by subst x; rw [hz₂] at hoe; cases hoe; simp at hce
  refine wpAny_setField_rec hz₂ (by simp) fun h₃ _ hs₃=>hE h₃ e (fun c o c1 _ c3 _ x=>hs₃.extBut _ _ c1 (hs₂ _ _ c3 (hs₁.extBut _ _ c1 x))) ⟨oe,hs₃.extBut _ _ hez hoe,hce⟩
theorem pyNext_zipR_item {z TI TO i1 i2 l1 l2:Addr} {x left:Int} {k2:Nat} {ys:Array Value} {y a b:Value} {Q:Option Value→Shared→Prop} (D:ZipApart z TI TO i1 i2 l1 l2)
    (hz:IsZip s.heap z TI TO .none) (hTI:IsPair s.heap TI (.ref i1) (.ref i2)) (hTO:IsPair s.heap TO a b)
    (h1:IsRangeIter s.heap i1 x left 1) (h2:s.heap.IsListIter i2 l2 k2) (hl2:s.heap.IsList l2 ys) (hx:0 < left) (hy:ys[k2]?=some y)
    (hQ:∀ h',IsZip h' z TI TO (rawInt s.heap.objs.size)→IsPair h' TO (.int x s.toks) y→IsRangeIter h' i1 (x + 1) (left - 1) 1→h'.IsListIter i2 l2 (k2 + 1)→IsPair h' s.heap.objs.size (.int x s.toks) y→h'.objs.size=s.heap.objs.size + 1 →
      (∀ c o,c ≠ z→c ≠ TO→c ≠ i1→c ≠ i2→s.heap.get? c=some o→h'.get? c=some o)→Q (some (.ref s.heap.objs.size)) { s with heap:=h',toks:=s.toks + 1 }) :
    wpAny (model prog w) A (pyNext (.ref z)) Q E s:=by
  have hT:s.TypeIs (.ref z) "zip":=⟨_,hz,rfl⟩
  unfold pyNext
  exact wpAny_bind (wpAny_attempt (wpAny_callSpecial?_slot (name:=Str.ofString "__next__") hT F.slot_zip_next
    (wpAny_call_entry F.slot_zip_next hT F.entry_zip_next
      (zipR_item D hz hTI hTO h1 h2 hl2 hx hy fun h' a1 a2 a3 a4 a5 a6 a7=>wpAny_pure (hQ h' a1 a2 a3 a4 a5 a6 a7)) (F.args_zip_next_1 _))))
theorem pyNext_zipR_end {z TI TO i1 i2 l1 l2:Addr} {x left:Int} {a b:Value} {Q:Option Value→Shared→Prop} (hh:A.handled=none) (D:ZipApart z TI TO i1 i2 l1 l2)
    (hz:IsZip s.heap z TI TO .none) (hTI:IsPair s.heap TI (.ref i1) (.ref i2)) (hTO:IsPair s.heap TO a b)
    (h1:IsRangeIter s.heap i1 x left 1) (hx:left ≤ 0)
    (hQ:∀ h',(∀ c o,c ≠ z→c ≠ TO→c ≠ i1→c ≠ i2→s.heap.get? c=some o→h'.get? c=some o)→Q none { s with heap:=h' }):wpAny (model prog w) A (pyNext (.ref z)) Q E s:=by
  have hT:s.TypeIs (.ref z) "zip":=⟨_,hz,rfl⟩
  unfold pyNext
  refine wpAny_bind (wpAny_attempt (wpAny_callSpecial?_slot (name:=Str.ofString "__next__") hT F.slot_zip_next
    (wpAny_call_entry F.slot_zip_next hT F.entry_zip_next (zipR_end hh D hz hTI hTO h1 hx fun h' e hk he=>?_) (F.args_zip_next_1 _))))
  obtain ⟨o,ho,hc⟩:=he
  refine wpAny_bind (wpAny_isInstance (T:="StopIteration") (b:=true) ⟨o,ho,hc⟩ isSubtype_stop ?_)
  exact wpAny_pure (hQ _ hk)
end
abbrev zrH1 (h:Heap) (x n c:Int):Heap:=h.push { cls:=.type "range_iterator",data:=.fields #[rawInt x,rawInt n,rawInt c] }
abbrev zrH2 (h:Heap) (x n c:Int) (l2:Addr):Heap:=(zrH1 h x n c).push { cls:=.type "list_iterator",data:=.fields #[.ref l2,.int 0 0] }
abbrev zrH3 (h:Heap) (x n c:Int) (l2:Addr):Heap:=(zrH2 h x n c l2).push { cls:=.type "tuple",data:=.seq #[.ref h.objs.size,.ref (zrH1 h x n c).objs.size] }
abbrev zrH4 (h:Heap) (x n c:Int) (l2:Addr):Heap:=(zrH3 h x n c l2).push { cls:=.type "tuple",data:=.seq #[.none,.none] }
abbrev zrH5 (h:Heap) (x n c:Int) (l2:Addr):Heap:=(zrH4 h x n c l2).push { cls:=.type "zip",data:=.fields #[.none,.bool false,.bool false,.ref (zrH2 h x n c l2).objs.size,.ref (zrH3 h x n c l2).objs.size] }
theorem meets_zipR_new (l1 l2:Addr) (n:Int) (t u v:Tok) (ys:Array Value) (hsm:Builtin.Range.small 0 n 1=true) :
    Meets (Builtin.«zip.__new__» ⟨[.type "zip",.ref l1,.ref l2],[]⟩) (fun _ R s=>IsRange s.heap l1 0 n 1 t u v∧s.heap.IsList l2 ys ∧
      R (.ok (.ret (.ref (zrH4 s.heap 0 (Builtin.Range.rangeSize 0 n 1) 1 l2).objs.size))) { s with heap:=zrH5 s.heap 0 (Builtin.Range.rangeSize 0 n 1) 1 l2 }) :=
  .of_wp fun prog w A R s h=>by
    obtain ⟨hp,g,d,tk,os⟩:=s; obtain ⟨hl1,hl2,h⟩:=h
    have hsub:=sub_zip
    have hL1:IsRange (Shared.heap ⟨hp,g,d,tk,os⟩) l1 0 n 1 t u v:=hl1
    have hL2:Heap.IsList (Shared.heap ⟨hp.push { cls:=.type "range_iterator",data:=.fields #[rawInt 0,rawInt (Builtin.Range.rangeSize 0 n 1),rawInt 1] },g,d,tk,os⟩) l2 ys:=Heap.IsList.push hl2 _
    wp_walk using wpAny_pyIter_range hL1 hsm,wpAny_pyIter_list hL2
    exact ⟨_,rfl,h⟩
end DT
end PySem
namespace PySem
namespace DT
section
variable {prog:Program} {w:World} {A:Around} {E:Value→Shared→Prop} {s:Shared}
theorem call_zipR {l1 l2:Addr} {n:Int} {t u v:Tok} {ys:Array Value} {Q:Value→Shared→Prop} (hsm:Builtin.Range.small 0 n 1=true) (hl1:IsRange s.heap l1 0 n 1 t u v) (hl2:s.heap.IsList l2 ys)
    (h:∀ h',IsZip h' (s.heap.objs.size + 4) (s.heap.objs.size + 2) (s.heap.objs.size + 3) .none→IsPair h' (s.heap.objs.size + 2) (.ref s.heap.objs.size) (.ref (s.heap.objs.size + 1)) →
      IsPair h' (s.heap.objs.size + 3) .none .none→IsRangeIter h' s.heap.objs.size 0 (Builtin.Range.rangeSize 0 n 1) 1→h'.IsListIter (s.heap.objs.size + 1) l2 0→h'.objs.size=s.heap.objs.size + 5 →
      (∀ c o,s.heap.get? c=some o→h'.get? c=some o)→Q (.ref (s.heap.objs.size + 4)) { s with heap:=h' }) :
    wpAny (model prog w) A (call (.type "zip") [.ref l1,.ref l2]) Q E s:=by
  refine callType_new F.called_zip (by decide) (F.typeCall_zip_2 _ _) (F.newCall_zip_2 _ _) (fun obj=>F.args_object_init_3 obj _ _) F.entry_zip_new
    (meets_zipR_new l1 l2 n t u v ys hsm) ⟨hl1,hl2,?_⟩
  generalize Builtin.Range.rangeSize 0 n 1=m at *
  have z1:(zrH1 s.heap 0 m 1).objs.size=s.heap.objs.size + 1:=Heap.size_push ..
  have z2:(zrH2 s.heap 0 m 1 l2).objs.size=s.heap.objs.size + 2:=by rw [Heap.size_push,z1]
  have z3:(zrH3 s.heap 0 m 1 l2).objs.size=s.heap.objs.size + 3:=by rw [Heap.size_push,z2]
  have z4:(zrH4 s.heap 0 m 1 l2).objs.size=s.heap.objs.size + 4:=by rw [Heap.size_push,z3]
  have z5:(zrH5 s.heap 0 m 1 l2).objs.size=s.heap.objs.size + 5:=by rw [Heap.size_push,z4]
  have g5:(zrH5 s.heap 0 m 1 l2).get? (zrH4 s.heap 0 m 1 l2).objs.size=some _:=Heap.get?_push_size _ rfl
  have g4:(zrH5 s.heap 0 m 1 l2).get? (zrH3 s.heap 0 m 1 l2).objs.size=some _:=Heap.get?_push_of_some _ (Heap.get?_push_size _ rfl)
  have g3:(zrH5 s.heap 0 m 1 l2).get? (zrH2 s.heap 0 m 1 l2).objs.size=some _:=Heap.get?_push_of_some _ (Heap.get?_push_of_some _ (Heap.get?_push_size _ rfl))
  have g2:(zrH5 s.heap 0 m 1 l2).get? (zrH1 s.heap 0 m 1).objs.size=some _:=Heap.get?_push_of_some _ (Heap.get?_push_of_some _ (Heap.get?_push_of_some _ (Heap.get?_push_size _ rfl)))
  have g1:(zrH5 s.heap 0 m 1 l2).get? s.heap.objs.size=some _:=Heap.get?_push_of_some _ (Heap.get?_push_of_some _ (Heap.get?_push_of_some _ (Heap.get?_push_of_some _ (Heap.get?_push_size _ rfl))))
  show _∧_
  rw [z2,z3,z4] at g5
  rw [z1,z2] at g3
  rw [z3] at g4
  rw [z1] at g2
  rw [z4]
  exact ⟨⟨_,g5,rfl⟩,h _ g5 g3 g4 g1 ⟨_,g2,rfl,rfl⟩ z5 fun c o x =>
    Heap.get?_push_of_some _ (Heap.get?_push_of_some _ (Heap.get?_push_of_some _ (Heap.get?_push_of_some _ (Heap.get?_push_of_some _ x))))⟩
end
end DT
end PySem
namespace L2
open PySem PySem.Spec PyProof.Rows
def ItzR (K:PySem.W.Frag) (n:Nat) (b:Addr):It :=
  ⟨fun i H=>∃ ys y,SqL K H b ys∧i < n∧ys[i]?=some y,fun i H x H'=>∃ p v,x=.ref p∧H p=none∧H'=upd H p (.tup [.int i,v])∧(∀ ys,SqL K H b ys→ys[i]?=some v),fun i H=>n ≤ i⟩
theorem turn_zipR {P:Program} {w:World} {K:PySem.W.Frag} {es:List Expr} {kk:Nat} {pt:Pos} {z TI TO i1 i2 a b:Addr} (n:Nat) (D:ZipApart z TI TO i1 i2 a b) :
    Turn P w K (.Tuple es kk pt) (ItzR K n b) [z,TI,TO,i1,i2] z (fun i h=>i ≤ n∧IsZip h z TI TO .none∧IsPair h TI (.ref i1) (.ref i2)∧(∃ u v,IsPair h TO u v)∧IsRangeIter h i1 (i:Int) ((n:Int) - i) 1∧h.IsListIter i2 b i) where
  mem:=by simp
  obj:=fun i h st c hc=>by
    obtain ⟨_,hz,hTI,⟨u,v,hTO⟩,h1,⟨o2,h2,c2,d2⟩⟩:=st
    simp only [List.mem_cons,List.not_mem_nil,or_false] at hc
    rcases hc with q | q | q | q | q <;> subst q
    · exact ⟨_,hz,fun v q=>by cases q⟩
    · exact ⟨_,hTI,fun v q=>by cases q⟩
    · exact ⟨_,hTO,fun v q=>by cases q⟩
    · exact ⟨_,h1,fun v q=>by cases q⟩
    · exact ⟨o2,h2,fun v q=>by rw [d2] at q; cases q⟩
  keep:=fun i h h' st kk=>by
    obtain ⟨hi,hz,hTI,⟨u,v,hTO⟩,h1,⟨o2,h2,c2⟩⟩:=st
    exact ⟨hi,kk z (by simp) _ hz,kk TI (by simp) _ hTI,⟨u,v,kk TO (by simp) _ hTO⟩,kk i1 (by simp) _ h1,⟨o2,kk i2 (by simp) _ h2,c2⟩⟩
  item:=by
    intro X hP hw hK hc i pins s σ H E I hf st hg
    subst hP hw hK
    obtain ⟨ys,y,hqb,hin,hy⟩:=hg
    obtain ⟨its2,rv2,p2,hz2⟩:=I.list hqb
    obtain ⟨v,hv,rv'⟩:=rv2.get hy
    obtain ⟨_,hz,hTI,⟨u0,v0,hTO⟩,hi1,hi2⟩:=st
    refine PySem.DT.pyNext_zipR_item D hz hTI hTO hi1 hi2 p2.isList (y:=v) (by omega) (by simpa using hv) fun h' a1 a2 a3 a4 a5 a6 kp=>⟨_,rfl,?_⟩
    refine wpAny_letOwnedTupleGo_zip a1 fun g2 hz2' sb=>?_
    have lz:z < s.heap.objs.size:=Heap.lt_size hz
    have lTI:TI < s.heap.objs.size:=Heap.lt_size hTI
    have lTO:TO < s.heap.objs.size:=Heap.lt_size hTO
    have l1:i1 < s.heap.objs.size:=Heap.lt_size hi1
    have l2:i2 < s.heap.objs.size:=by obtain ⟨o,ho,_⟩:=hi2; exact Heap.lt_size ho
    have nT:H s.heap.objs.size=none:=I.fresh
    have tt2:g2.get? s.heap.objs.size=some { cls:=.type "tuple",data:=.seq #[.int (i:Int) s.toks,v] }:=(sb.2 _ (Nat.ne_of_gt lz)).trans a5
    have I1:Inv X pins σ (upd H s.heap.objs.size (.tup [.int (i:Int),y])) { s with heap:=g2,toks:=s.toks + 1 }:=by
      refine I.turnedNew (t':=s.toks + 1) (ch:=[z,TI,TO,i1,i2]) (fun c o hb q=>?_) hf (Nat.le_refl _) ⟨?_,[.int (i:Int) s.toks,v],.cons ⟨_,rfl⟩ (.cons rv' .nil),⟨_,tt2,rfl,0,rfl⟩⟩
      · simp only [List.mem_cons,List.not_mem_nil,or_false,not_or] at hb
        exact (sb.2 c hb.1).trans (kp c o hb.1 hb.2.2.1 hb.2.2.2.1 hb.2.2.2.2 q)
      · show 2 ≤ sizeLine
        decide
    refine ⟨.ref s.heap.objs.size,_,I1,rfl,⟨_,y,rfl,nT,rfl,fun zs hy'=>?_⟩,⟨hin,hz2',?_,⟨.int (i:Int) s.toks,v,?_⟩,?_,?_⟩,fun c hb=>?_⟩
    · rw [I.list_inj hy' hqb]
      exact hy
    · exact (sb.2 TI D.TIz).trans (kp TI _ D.TIz D.TITO D.TIi1 D.TIi2 hTI)
    · exact (sb.2 TO D.TOz).trans a2
    · have:=(sb.2 i1 D.i1z).trans a3
      rw [show ((i + 1:Nat):Int)=(i:Int) + 1 by omega,show (n:Int) - ((i:Int) + 1)=(n:Int) - i - 1 by omega]
      exact this
    · obtain ⟨o,ho,r⟩:=a4
      exact ⟨o,(sb.2 i2 D.i2z).trans ho,r⟩
    · have hb':=(hf c hb).1
      simp only [List.mem_cons,List.not_mem_nil,or_false] at hb
      rcases hb with q | q | q | q | q <;> subst q
      · rw [upd_ne (Nat.ne_of_lt lz)]; exact hb'
      · rw [upd_ne (Nat.ne_of_lt lTI)]; exact hb'
      · rw [upd_ne (Nat.ne_of_lt lTO)]; exact hb'
      · rw [upd_ne (Nat.ne_of_lt l1)]; exact hb'
      · rw [upd_ne (Nat.ne_of_lt l2)]; exact hb'
  done:=by
    intro X hP hw hK hc i pins s σ H E I hf st hg
    subst hP hw hK
    have hg':n ≤ i:=hg
    obtain ⟨_,hz,hTI,⟨u0,v0,hTO⟩,hi1,hi2⟩:=st
    refine PySem.DT.pyNext_zipR_end (I.ok.hd hc) D hz hTI hTO hi1 (by omega) fun h' kp=>⟨rfl,I.turnedL (t':=s.toks) (ch:=[z,TI,TO,i1,i2]) (fun c o hb q=>?_) hf⟩
    simp only [List.mem_cons,List.not_mem_nil,or_false,not_or] at hb
    exact kp c o hb.1 hb.2.2.1 hb.2.2.2.1 hb.2.2.2.2 q
  self:=fun _ _ _ _ _ st h=>wpAny_pyIter_zip st.2.1 h
section
variable {X:Cx} {es:List Expr} {kk:Nat} {pt:Pos}
def iZipR (K:PySem.W.Frag) (ta:TA) (te:TE):TI:=fun σ H R=>ta σ H fun vs H1=>∃ j:Int,vs=[.int j]∧0 ≤ j∧j < 2 ^ 62∧te σ H1 fun y H2=>∃ b,y=.ref b∧(∃ ys,SqL K H2 b ys)∧R (ItzR K j.toNat b) H2
theorem Inv.addPin {pins:List (Addr × Obj)} {σ:St} {H:Hp} {s:Shared} {p:Addr × Obj} (I:Inv X pins σ H s) (h:s.heap.get? p.1=some p.2∧H p.1=none∧p.1 ≠ X.env.locals∧p.1 ∉ X.fs∧∀ v,p.2.data ≠ .cell v):Inv X (pins ++ [p]) σ H s :=
  ⟨I.ok,I.os,I.bare,I.base,I.loc,I.cell,I.free,I.freeC,fun q hq=>by
    rw [← List.append_assoc] at hq
    rcases List.mem_append.mp hq with z | z
    · exact I.pin q z
    · rw [List.mem_singleton.mp z]; exact h,I.hok,I.len⟩
theorem Inv.dropPin {pins:List (Addr × Obj)} {σ:St} {H:Hp} {s:Shared} {p:Addr × Obj} (I:Inv X (pins ++ [p]) σ H s):Inv X pins σ H s :=
  ⟨I.ok,I.os,I.bare,I.base,I.loc,I.cell,I.free,I.freeC,fun q hq=>I.pin q (by rw [← List.append_assoc]; exact List.mem_append_left _ hq),I.hok,I.len⟩
theorem pi_zipR {r m:Expr} {ta:TA} {te:TE} {p p2 pos pos2:Pos} (hg:Gl X "zip") (hm:X.mg "zip"=none) (hg2:Gl X "range") (hm2:X.mg "range"=none) (ha:PA X [r] ta) (hme:PE X m te)
    (hs:starEach [r] X.env=[(false,eval r X.env)]:=by rfl) (hs1:starEach [.Call (.Name "range" p2) [r] [] pos2,m] X.env=[(false,eval (.Call (.Name "range" p2) [r] [] pos2) X.env),(false,eval m X.env)]:=by rfl) (hs2:starEach [m] X.env=[(false,eval m X.env)]:=by rfl) :
    PI X (.Tuple es kk pt) (.Call (.Name "zip" p) [.Call (.Name "range" p2) [r] [] pos2,m] [] pos) (iZipR X.K ta te):=by
  intro pins s σ H R I h
  refine Call_ (ld_blt I hg hm PyProof.Rows.boot_zip (PyProof.Rows.callWith_type1 ?_ (by rw [hs1,hs2]) (by rw [hs2]; rfl)))
  rw [hs1]
  show wpAny _ _ (spliced ((false,eval (.Call (.Name "range" p2) [r] [] pos2) X.env) :: (false,eval m X.env) :: [])) _ _ s
  refine Calls.spliced_cons ?_
  refine Call_ (ld_blt I hg2 hm2 boot_range (PyProof.Rows.callWith_type1 (thn (ha pos2 pins s σ H _ I h) fun us s1 ⟨vs,H1,I1,r1,q1⟩=>?_) hs rfl))
  obtain ⟨j,e1,j0,j1,q⟩:=q1
  subst e1
  obtain ⟨u,e1,r3⟩:=vals1 r1
  subst e1
  obtain ⟨t,rfl⟩:=r3
  refine call_range_1 ?_
  have hge:=Nat.le_refl s1.heap.objs.size
  have I2:Inv X pins σ H1 { s1 with heap:=s1.heap.push { cls:=.type "range",data:=.fields #[.int 0 s1.toks,.int j t,.int 1 (s1.toks + 1)] },toks:=s1.toks + 1 + 1 }:=I1.kept fun b o e=>Heap.get?_push_of_some _ e
  have I3:=I2.addPin (p:=(s1.heap.objs.size,{ cls:=.type "range",data:=.fields #[.int 0 s1.toks,.int j t,.int 1 (s1.toks + 1)] })) ⟨Heap.get?_push_size _ rfl,I1.hok.fresh hge,Nat.ne_of_gt I1.lt,I1.nofs hge,fun v z=>by cases z⟩
  refine Calls.spliced_cons (thn (hme (pins ++ [_]) _ σ H1 _ I3 q) fun v s2 ⟨y,H2,I4,r2,b,e2,⟨ys,hqb⟩,q2⟩=>?_)
  subst e2
  obtain rfl:v=Value.ref b:=r2
  refine Calls.spliced_nil ?_
  have hpin:=(I4.pin _ (List.mem_append_right _ (List.mem_append_right _ (List.mem_singleton_self _)))).1
  have I5:=I4.dropPin
  obtain ⟨its2,rv2,pl2,hz2⟩:=I5.list hqb
  have la:s1.heap.objs.size < s2.heap.objs.size:=Heap.lt_size hpin
  have lb:b < s2.heap.objs.size:=by obtain ⟨o,ho,_⟩:=pl2.isList; exact Heap.lt_size ho
  refine PySem.DT.call_zipR (l1:=s1.heap.objs.size) (n:=j) (small_one (by omega) (by omega) (by omega) (by omega)) hpin pl2.isList fun h' hz hTI hTO hi1 hi2 hsz kp=>?_
  have I6:Inv X pins σ H2 { s2 with heap:=h' }:=I5.kept (t':=s2.toks) kp
  have ern:Builtin.Range.rangeSize 0 j 1=((j.toNat:Nat):Int) - ((0:Nat):Int):=by rw [rangeSize_one]; split <;> omega
  rw [ern] at hi1
  refine wpAny_pyIter_zip hz ⟨s2.heap.objs.size + 4,[s2.heap.objs.size + 4,s2.heap.objs.size + 2,s2.heap.objs.size + 3,s2.heap.objs.size,s2.heap.objs.size + 1],_,_,H2,rfl,I6,turn_zipR j.toNat (zipApart_new la lb),⟨Nat.zero_le _,hz,hTI,⟨_,_,hTO⟩,hi1,hi2⟩,fun c hb=>?_,q2⟩
  have ge:s2.heap.objs.size ≤ c:=by
    simp only [List.mem_cons,List.not_mem_nil,or_false] at hb
    rcases hb with q | q | q | q | q <;> rw [q]
    · exact Nat.le_add_right _ _
    · exact Nat.le_add_right _ _
    · exact Nat.le_add_right _ _
    · exact Nat.le_refl _
    · exact Nat.le_add_right _ _
  exact I5.fpOk ge (I5.hok.fresh ge)
end
theorem for_zipR {K:PySem.W.Frag} {b:Addr} {n:Nat} {ys:List V} {g:TG} {tb:TS} {D:Ends} {σ:St} {H:Hp} (hn:n ≤ ys.length) (Pv:Nat→St→Hp→Prop) (h0:Pv 0 σ H) (hl:∀ i σ H,i ≤ n→Pv i σ H→SqL K H b ys)
    (hs:∀ i y p σ H,i < n→ys[i]?=some y→H p=none→Pv i σ H→g (.ref p) σ (upd H p (.tup [.int i,y])) fun σ2 H2=>tb { D with nx:=Pv (i + 1),ct:=Pv (i + 1),bk:=D.nx } σ2 H2) (hd:∀ σ H,Pv n σ H→D.nx σ H) :
    ∃ W:Nat→Nat→St→Hp→Prop,(∃ m,W 0 m σ H)∧∀ i m σ H,W i m σ H →
      ((ItzR K n b).stop i H∧D.nx σ H) ∨ ((ItzR K n b).go i H∧∃ N:St→Hp→Prop,(∀ σ' H',N σ' H'→∃ m',m' < m∧W (i + 1) m' σ' H')∧∀ x H',(ItzR K n b).yld i H x H'→g x σ H' fun σ2 H2=>tb { D with nx:=N,ct:=N,bk:=D.nx } σ2 H2):=by
  refine ⟨fun i m σ H=>m=n - i∧i ≤ n∧Pv i σ H,⟨n,by simp,Nat.zero_le _,h0⟩,?_⟩
  rintro i m σ H ⟨rfl,hi,p⟩
  have q:=hl i σ H hi p
  by_cases hlt:i < n
  · have hlt':i < ys.length:=by omega
    refine .inr ⟨⟨ys,ys[i],q,hlt,by simp [hlt']⟩,Pv (i + 1),fun σ' H' p'=>⟨n - (i + 1),by omega,rfl,hlt,p'⟩,fun x H' y=>?_⟩
    obtain ⟨p0,v,e1,hp0,e2,y⟩:=y
    subst e1 e2
    exact hs i v p0 σ _ hlt (y ys q) hp0 p
  · have e:i=n:=by omega
    subst e
    exact .inl ⟨Nat.le_refl _,hd σ H p⟩
end L2
namespace PySem
namespace DT
section
variable {prog:Program} {w:World} {A:Around} {R:Result→Shared→Prop} {I:Addr} {fp wr:List Addr} {n:Nat} {P:Nat→Value→Prop} {St:Nat→Heap→Prop}
theorem maxD_loop (W:Walks prog w A.in1 I fp wr n P St) (bt:Nat→Nat→Bool) (hcmp:CmpOf prog w A.in1 .Gt P bt) (dv:Value) (S:Addr) (hSf:S ∉ fp) :
    ∀ (k j:Nat) (s:Shared) (vb:Value) (c:Nat),n - (j + 1)=k→j + 1 ≤ n→St (j + 1) s.heap→P (argBest bt j) vb →
    s.heap.get? S=some { cls:=.type "list",dict:=none,data:=.seq #[vb,vb] c,slots:=#[] } →
    (∀ v h' tk,P (argBest bt (n - 1)) v→(∀ b o,b ∉ wr→b ≠ S→s.heap.get? b=some o→h'.get? b=some o)→R (.ok (.ret v)) { s with heap:=h',toks:=tk }) →
    codeAny (model prog w) A (.builtin "max.loop" ⟨[.ref I,.none,.ref S],[(Str.ofString "default",dv)]⟩) R s:=by
  have hSw:S ∉ wr:=fun h=>hSf (W.sub _ h)
  have hname:(toString "max" ++ toString ".loop":String)="max.loop":=by decide
  intro k
  induction k with
  | zero =>
    intro j s vb c hk hj hst hPb hS hR
    have hin:j + 1=n:=by omega
    refine codeAny_builtin F.entry_max_loop ?_
    rw [Around.under_plainId F.plain_max_loop _]
    show wpAny _ A.in1 (seqItems? (.ref S) >>= _) _ _ s
    refine wpAny_bind (wpAny_seqItems hS rfl ?_)
    show wpAny _ A.in1 (tryCatch (pyNext (.ref I)) _ >>= _) _ _ s
    refine wpAny_bind (wpAny_tryCatch (W.done s _ _ (hin ▸ hst) fun h' tk hk'=>?_))
    have hS':=hk' S _ hSw hS
    show wpAny _ A.in1 (updateSeq S (fun _=>#[]) >>= _) _ _ _
    refine wpAny_bind ?_
    refine wpAny_updateSeq hS' rfl (wpAny_bind (wpAny_letGo (wpAny_pure ?_)))
    refine hR vb _ tk (by rw [← hin]; exact hPb) fun b o hbw hbS e=>(Heap.get?_update_other _ _ (Ne.symm hbS)).trans (hk' b o hbw e)
  | succ k ih =>
    intro j s vb c hk hj hst hPb hS hR
    have hlt:j + 1 < n:=by omega
    refine codeAny_builtin F.entry_max_loop ?_
    rw [Around.under_plainId F.plain_max_loop _]
    show wpAny _ A.in1 (seqItems? (.ref S) >>= _) _ _ s
    refine wpAny_bind (wpAny_seqItems hS rfl ?_)
    show wpAny _ A.in1 (tryCatch (pyNext (.ref I)) _ >>= _) _ _ s
    refine wpAny_bind (wpAny_tryCatch (W.item (j + 1) s _ _ hlt hst fun v h' tk hP hst' hk'=>?_))
    have hS':=hk' S _ hSw hS
    show wpAny _ A.in1 (tryCatch (holding [v,v] (richCompare .Gt v vb >>= _)) _ >>= _) _ _ _
    refine wpAny_bind (wpAny_tryCatch (wpAny_holding (wpAny_bind (hcmp (j + 1) (argBest bt j) v vb _ _ _ hP hPb ?_))))
    refine wpAny_bind (wpAny_holding (wpAny_truthy_bool ?_))
    refine wpAny_bind (wpAny_letGo (wpAny_pure ?_))
    cases hb:bt (j + 1) (argBest bt j) with
    | true =>
      simp only [if_true]
      refine wpAny_bind ?_
      refine wpAny_updateSeq hS' rfl (wpAny_bind (wpAny_letGo ?_))
      rw [hname]
      refine wpAny_pure ⟨plainId_quiet F.plain_max_loop _,ih (j + 1) _ v _ (by omega) hlt (W.frame _ _ _ hst' fun b hbf o e=>?_) (by simp only [argBest,hb,if_true]; exact hP) (Heap.get?_update_self _ hS' rfl)
        fun v' h'' tk'' hP' hk''=>?_⟩
      · exact (Heap.get?_update_other _ _ (fun h:S=b=>hSf (by rw [h]; exact hbf))).trans e
      · exact hR v' h'' tk'' hP' fun b o hbw hbS e=>hk'' b o hbw hbS ((Heap.get?_update_other _ _ (Ne.symm hbS)).trans (hk' b o hbw e))
    | false =>
      simp only [Bool.false_eq_true,if_false]
      refine wpAny_bind (wpAny_letGo ?_)
      rw [hname]
      refine wpAny_pure ⟨plainId_quiet F.plain_max_loop _,ih (j + 1) _ vb c (by omega) hlt hst' (by simp only [argBest,hb,Bool.false_eq_true,if_false]; exact hPb) hS' fun v' h'' tk'' hP' hk''=>?_⟩
      exact hR v' h'' tk'' hP' fun b o hbw hbS e=>hk'' b o hbw hbS (hk' b o hbw e)
theorem maxD_first (W:Walks prog w A.in1 I fp wr n P St) (bt:Nat→Nat→Bool) (hcmp:CmpOf prog w A.in1 .Gt P bt) (dv:Value) (S:Addr) (hSf:S ∉ fp) (hn:0 < n) {s:Shared} {c:Nat} (hst:St 0 s.heap)
    (hS:s.heap.get? S=some { cls:=.type "list",dict:=none,data:=.seq #[] c,slots:=#[] })
    (hR:∀ v h' tk,P (argBest bt (n - 1)) v→(∀ b o,b ∉ wr→b ≠ S→s.heap.get? b=some o→h'.get? b=some o)→R (.ok (.ret v)) { s with heap:=h',toks:=tk }) :
    codeAny (model prog w) A (.builtin "max.loop" ⟨[.ref I,.none,.ref S],[(Str.ofString "default",dv)]⟩) R s:=by
  have hSw:S ∉ wr:=fun h=>hSf (W.sub _ h)
  have hname:(toString "max" ++ toString ".loop":String)="max.loop":=by decide
  refine codeAny_builtin F.entry_max_loop ?_
  rw [Around.under_plainId F.plain_max_loop _]
  show wpAny _ A.in1 (seqItems? (.ref S) >>= _) _ _ s
  refine wpAny_bind (wpAny_seqItems hS rfl ?_)
  show wpAny _ A.in1 (tryCatch (pyNext (.ref I)) _ >>= _) _ _ s
  refine wpAny_bind (wpAny_tryCatch (W.item 0 s _ _ hn hst fun v h' tk hP hst' hk'=>?_))
  have hS':=hk' S _ hSw hS
  show wpAny _ A.in1 (updateSeq S (fun _=>#[v,v]) >>= _) _ _ _
  refine wpAny_bind ?_
  refine wpAny_updateSeq hS' rfl ?_
  rw [hname]
  refine wpAny_pure ⟨plainId_quiet F.plain_max_loop _,maxD_loop W bt hcmp dv S hSf _ 0 _ v _ rfl hn (W.frame _ _ _ hst' fun b hbf o e=>?_) hP (Heap.get?_update_self _ hS' rfl) fun v' h'' tk'' hP' hk''=>?_⟩
  · exact (Heap.get?_update_other _ _ (fun h:S=b=>hSf (by rw [h]; exact hbf))).trans e
  · exact hR v' h'' tk'' hP' fun b o hbw hbS e=>hk'' b o hbw hbS ((Heap.get?_update_other _ _ (Ne.symm hbS)).trans (hk' b o hbw e))
end
set_option maxHeartbeats 1000000 in
theorem args_maxD (a b:Value):argsOk "max" ⟨[a],[(Str.ofString "default",b)]⟩:=by unfold argsOk; kernel_rfl
section
variable {prog:Program} {w:World} {A:Around} {E:Value→Shared→Prop} {s:Shared} {l:Addr}
theorem max_intListD {xs:Array (Int × Tok)} {dv:Value} {Q:Value→Shared→Prop} (hh:A.handled=none) (hl:s.heap.IsList l (intItems xs))
    (h0:xs.size=0→∀ h' tk,(∀ b o,s.heap.get? b=some o→h'.get? b=some o)→Q dv { s with heap:=h',toks:=tk })
    (h:∀ v h' tk,0 < xs.size→(intItems xs)[argBest (fun i j=>decide (numAt xs i > numAt xs j)) (xs.size - 1)]?=some v→(∀ b o,s.heap.get? b=some o→h'.get? b=some o)→Q v { s with heap:=h',toks:=tk }) :
    wpAny (model prog w) A (call (.builtin "max") [.ref l] [(Str.ofString "default",dv)]) Q E s:=by
  have hname:(toString "max" ++ toString ".loop":String)="max.loop":=by decide
  refine PyProof.Rows.kmk_tree PySem.F.kind_max PySem.F.plain_max PySem.F.entry_max (args_maxD _ _) ?_
  show wpAny _ A.in1 (Builtin.Builtins.bindParams "max" ["key","default"] 0 ⟨[],[(Str.ofString "default",dv)]⟩ >>= _) _ _ s
  refine wpAny_bind (wpAny_of_eq (show Builtin.Builtins.bindParams "max" ["key","default"] 0 ⟨[],[(Str.ofString "default",dv)]⟩=pure [none,some dv] from rfl) ?_)
  refine wpAny_bind (wpAny_pure ?_)
  refine wpAny_bind (iter_intList hl fun s₂ e st hfp hlI=>?_)
  subst e
  refine wpAny_bind (wpAny_newObj_type ?_)
  have hSf:(s.heap.push { cls:=.type "list_iterator",data:=.fields #[.ref l,.int 0 0] }).objs.size ∉ [s.heap.objs.size,l]:=fun hm=>Nat.lt_irrefl _ (hfp _ hm)
  rw [hname]
  have W:=Walks.list (prog:=prog) (w:=w) (A:=A.in1) hh s.heap.objs.size l hlI (intItems xs)
  have hsz:(intItems xs).size=xs.size:=by simp [intItems]
  generalize hg:s.heap.push { cls:=.type "list_iterator",data:=.fields #[.ref l,.int 0 0] }=g at *
  have kg:∀ b o,s.heap.get? b=some o→g.get? b=some o:=fun b o e=>by rw [← hg]; exact Heap.get?_push_of_some _ e
  have st1:=W.frame 0 g (g.push { cls:=.type "list",data:=.seq ([]:List Value).toArray }) st fun b _ o e=>Heap.get?_push_of_some _ e
  have hS1:(g.push { cls:=.type "list",data:=.seq ([]:List Value).toArray }).get? g.objs.size=some { cls:=.type "list",dict:=none,data:=.seq #[] 0,slots:=#[] }:=Heap.get?_push_size _ rfl
  have nI:∀ b o,s.heap.get? b=some o→b ∉ [s.heap.objs.size]:=fun b o e hm=>by
    rw [List.mem_singleton.mp hm] at e
    exact absurd (Heap.lt_size e) (Nat.lt_irrefl _)
  rcases Nat.eq_zero_or_pos xs.size with hz | hp
  · refine wpAny_pure ⟨plainId_quiet F.plain_max_loop _,codeAny_builtin F.entry_max_loop ?_⟩
    rw [Around.under_plainId F.plain_max_loop _]
    show wpAny _ _ (seqItems? (.ref g.objs.size) >>= _) _ _ _
    refine wpAny_bind (wpAny_seqItems hS1 rfl ?_)
    show wpAny _ _ (tryCatch (pyNext (.ref s.heap.objs.size)) _ >>= _) _ _ _
    rw [hsz,hz] at W
    refine wpAny_bind (wpAny_tryCatch (W.done { s with heap:=g.push { cls:=.type "list",data:=.seq ([]:List Value).toArray } } _ _ st1 fun h' tk hk'=>?_))
    refine wpAny_bind (wpAny_rule (wpAny_pure ?_))
    exact h0 hz h' tk fun b o e=>hk' b o (nI b o e) (Heap.get?_push_of_some _ (kg b o e))
  · refine wpAny_pure ⟨plainId_quiet F.plain_max_loop _,maxD_first (s:={ s with heap:=g.push { cls:=.type "list",data:=.seq ([]:List Value).toArray } }) W _ (CmpOf.ints_gt (numAt xs) (fun _ _=>intItems_at)) dv g.objs.size hSf (by rw [hsz]; exact hp) st1 hS1 fun v h' tk hP hk=>?_⟩
    rw [hsz] at hP
    exact h v h' tk hp hP fun b o e=>hk b o (nI b o e) (Nat.ne_of_lt (Heap.lt_size (kg b o e))) (Heap.get?_push_of_some _ (kg b o e))
end
end DT
end PySem
namespace L2
open PySem PySem.Spec PyProof.Rows
section
variable {X:Cx}
def rMaxD (K:PySem.W.Frag):List V→List V→Hp→VK→Prop:=fun xs ws H Q=>∃ (p:Addr) (ns:List Int) (d:Int),xs=[.ref p]∧ws=[.int d]∧SqL K H p (ns.map V.int)∧∀ M:Int,(ns=[]→M=d)→(ns ≠ []→M ∈ ns∧∀ b ∈ ns,b ≤ M)→Q (.int M) H
theorem call_maxD {pins:List (Addr × Obj)} {σ:St} (hc:X.calm=true) {s:Shared} {H:Hp} {xs ws:List V} {us ks:List Value} {Q:VK} (I:Inv X pins σ H s) (r:Vals xs us) (r2:Vals ws ks) (h:rMaxD X.K xs ws H Q) :
    wpAny (model X.prog X.w) X.A (call (.builtin "max") us ([Str.ofString "default"].zip ks)) (EP X pins σ Q) X.xe s:=by
  obtain ⟨p,ns,d,e1,e2,hS,q⟩:=h
  subst e1 e2
  obtain ⟨u,e2,ru⟩:=vals1 r
  subst e2
  obtain rfl:u=Value.ref p:=ru
  obtain ⟨v,e2,rv2⟩:=vals1 r2
  subst e2
  obtain ⟨t2,rfl⟩:=rv2
  obtain ⟨its,rv,pl,hz⟩:=I.list hS
  have ia:=intsAre_of rv
  obtain ⟨zs,ez⟩:=ia.allInts.items
  have en:ns=zs.toList.map (·.1):=by rw [← ia.numsOf,← nums_intItems,← ez]
  have hL:=pl.isList
  rw [ez] at hL
  have elen:ns.length=zs.size:=by rw [en,List.length_map,Array.length_toList]
  refine PySem.DT.max_intListD (I.ok.hd hc) hL (fun hz h' tk hk=>?_) fun v h' tk hs hv hk=>?_
  · exact ⟨.int d,H,I.kept hk,⟨t2,rfl⟩,q d (fun _=>rfl) fun z=>absurd (List.eq_nil_of_length_eq_zero (by omega)) z⟩
  obtain ⟨t,e3⟩:=intItems_at hv
  subst e3
  obtain ⟨g1,g2⟩:=argBest_gt (numAt zs) (zs.size - 1)
  refine ⟨.int _,H,I.kept hk,⟨t,rfl⟩,q _ (fun z=>?_) fun _=>⟨?_,fun b hb=>?_⟩⟩
  · rw [z] at elen
    simp at elen
    omega
  · rw [en,numAt_eq]
    exact getD_mem (by rw [List.length_map,Array.length_toList]; omega)
  · rw [en] at hb
    obtain ⟨j,hj,e4⟩:=mem_getD hb
    subst e4
    rw [List.length_map,Array.length_toList] at hj
    rw [← numAt_eq]
    exact g2 j (by omega)
def tMaxD (K:PySem.W.Frag) (ta tk:TA):TE:=fun σ H Q=>ta σ H fun vs H1=>tk σ H1 fun ws H2=>rMaxD K vs ws H2 Q
theorem pe_maxD {l:Expr} {kws:List Keyword} {ta tk:TA} {p pos:Pos} (hc:X.calm=true)
    (hg:Gl X "max") (hm:X.mg "max"=none) (ha:PA X [l] ta) (hk:PK X kws tk) (hks:(backToKw pos (keywordEach kws X.env)).filterMap (·.1)=[Str.ofString "default"]:=by rfl)
    (he:backTo pos (starEach [l] X.env)=(false,eval l X.env) :: backTo pos (starEach [] X.env):=by rfl) (hpl:(backTo pos (starEach [l] X.env)).any (·.1)=false:=by rfl)
    (hall:(backToKw pos (keywordEach kws X.env)).all (·.1.isSome)=true:=by rfl) (hkw:(backToKw pos (keywordEach kws X.env)).any (·.1.isNone)=false:=by rfl) :
    PE X (.Call (.Name "max" p) [l] kws pos) (tMaxD X.K ta tk):=by
  intro pins s σ H Q I h
  refine wpAny_Call_Name_kw (ld_blt I hg hm PyProof.Rows.boot_max (callWith_bK (thn (ha pos pins s σ H _ I h) fun us s1 ⟨vs,H1,I1,r1,q1⟩=>thn (hk pos pins s1 σ H1 _ I1 q1) fun ks s2 ⟨ws,H2,I2,r2,q2⟩=>?_) he hpl hall hkw))
  rw [hks]
  exact call_maxD hc I2 r1 r2 q2
end
end L2
namespace B06
open PySem L2 S2
theorem pg_twoK {X:Cx} {K:PySem.W.Frag} (hK:X.K=K) {x y:Str} {px py pt:Pos} {kk:Nat} (hc:X.calm=true) (hN:X.N.Nodup) (h0:X.N[0]?=some x) (h1:X.N[1]?=some y) (hx:X.env.scope.names.lookup x=some .local) (hy:X.env.scope.names.lookup y=some .local)
    (ha:(assignEach [.Name x px,.Name y py] X.env).map (·.2)=[assign (.Name x px) X.env,assign (.Name y py) X.env]:=by rfl) (hb:(assignEach [.Name y py] X.env).map (·.2)=[assign (.Name y py) X.env]:=by rfl)
    (hn:(assignEach [.Name x px,.Name y py] X.env).length=2:=by rfl) (hst:(assignEach [.Name x px,.Name y py] X.env).findIdx? (·.1)=none:=by rfl):PG X (.Tuple [.Name x px,.Name y py] kk pt) (gTwo K):=by
  subst hK
  exact pg_tup hc (pgs_cons (pg_name hN h0 (.inl hx) (.inr hx)) (pgs_cons (pg_name hN h1 (.inl hy) (.inr hy)) pgs_nil (by rw [hb]; rfl)) (by rw [ha,hb])) hn hst
def dS (p:Nat × Nat):D:=.tup [.int (p.1:Int),.int (p.2:Int)]
def rfA:V→Addr
  | .ref a=>a
  | _=>0
theorem spans_at {K:PySem.W.Frag} {H:Hp} {v:V} {sps:List (Nat × Nat)} (h:At K H v (.tup (sps.map dS))):∃ (a:Addr) (sa:List Addr),v=.ref a∧H a=some (.tup (sa.map V.ref))∧RowsOf H sa (sps.map spV):=by
  cases h with
  | @tup a xs l h hl he =>
    rw [List.length_map] at hl
    have key:∀ (j:Nat) (x:V),xs[j]?=some x→∃ p,sps[j]?=some p∧x=.ref (rfA x)∧H (rfA x)=some (.tup (spV p)):=fun j x ex=>by
      have hj:j < sps.length:=by rw [← hl]; exact get_lt ex
      have ep:=List.getElem?_eq_getElem hj
      have hx:=he j x (dS sps[j]) ex (by rw [List.getElem?_map,ep]; rfl)
      refine ⟨_,ep,?_⟩
      cases hx with
      | @tup b ys l2 h2 hl2 he2 =>
        refine ⟨rfl,?_⟩
        match ys,hl2,h2,he2 with
        | [y0,y1],_,h2,he2 =>
          have e0:=he2 0 y0 _ rfl rfl
          have e1:=he2 1 y1 _ rfl rfl
          cases e0
          cases e1
          exact h2
    refine ⟨a,xs.map rfA,rfl,?_,?_,fun j p r e1 e2=>?_⟩
    · have e:(xs.map rfA).map V.ref=xs:=by
        rw [List.map_map]
        refine List.ext_getElem? fun j=>?_
        rw [List.getElem?_map]
        cases ex:xs[j]? with
        | none=>rfl
        | some x =>
          obtain ⟨_,_,e,_⟩:=key j x ex
          show some (V.ref (rfA x))=some x
          rw [← e]
      rw [e]
      exact h
    · rw [List.length_map,List.length_map,hl]
    · rw [List.getElem?_map] at e1 e2
      cases ex:xs[j]? with
      | none=>rw [ex] at e1; cases e1
      | some x =>
        obtain ⟨q,eq,_,e⟩:=key j x ex
        rw [ex] at e1
        rw [eq] at e2
        cases e1
        cases e2
        exact e
def gN (l:List (Nat × Nat)) (i:Nat):Nat × Nat:=l.getD i (1,1)
theorem gN_at {l:List (Nat × Nat)} {i:Nat} (h:i < l.length):l[i]?=some (gN l i):=by
  unfold gN
  rw [List.getD_eq_getElem?_getD,List.getElem?_eq_getElem h]
  rfl
def spRowsT:Sp:=fun vs H Q _=>∃ (a b:Addr) (pa sa:List Addr) (ps sps:List (Nat × Nat)),vs=[.ref a,.ref b]∧H a=some (.lst (pa.map V.ref))∧RowsOf H pa (ps.map spV)∧H b=some (.lst (sa.map V.ref))∧RowsOf H sa (sps.map spV)∧ps.length=sps.length∧sps.length ≤ 100 ∧
  ∀ (M:Int) (H':Hp),Same H H'→(sps=[]→M=0)→(sps ≠ []→(∃ i,i < sps.length∧M=((gN ps i).1:Int) + ((gN sps i).2:Int))∧∀ i,i < sps.length→((gN ps i).1:Int) + ((gN sps i).2:Int) ≤ M)→Q (.int M) H'
def spSpans (K:PySem.W.Frag):Sp:=fun vs H Q _=>∃ (v:V) (d0 d1 d2 w0 w1 w2 d4:D) (sps:List (Nat × Nat)),vs=[v]∧At K H v (.tup [d0,d1,d2,.tup [w0,w1,w2,.tup (sps.map dS)],d4])∧∀ (l:Addr) (sa:List Addr) (H':Hp),H l=none→Same H H'→H' l=some (.lst (sa.map V.ref))→RowsOf H' sa (sps.map spV)→Q (.ref l) H'
def sumH (sps:List (Nat × Nat)):Nat:=(sps.map (·.2)).sum
def SpsOk (cols:Nat) (sps:List (Nat × Nat)):Prop:=(∀ sp ∈ sps,0 < sp.1∧sp.1 ≤ cols∧sp.2 ≤ 12)∧cols ≤ 12∧sps.length ≤ 100
def spCellsOf (K:PySem.W.Frag):Sp:=fun vs H Q _=>∃ (v:V) (d0 d1 d2 w1 w2 d4:D) (cols:Nat) (sps:List (Nat × Nat)),vs=[v]∧At K H v (.tup [d0,d1,d2,.tup [.int (cols:Int),w1,w2,.tup (sps.map dS)],d4])∧SpsOk cols sps ∧
  ∀ (l:Addr) (pa:List Addr) (H':Hp),Same H H'→H' l=some (.lst (pa.map V.ref))→RowsOf H' pa ((putS cols sps sps.length).2.2.map spV)→Q (.ref l) H'
def spTabRows (K:PySem.W.Frag):Sp:=fun vs H Q _=>∃ (v:V) (d0 d1 d2 w1 w2 d4:D) (cols:Nat) (sps:List (Nat × Nat)),vs=[v]∧At K H v (.tup [d0,d1,d2,.tup [.int (cols:Int),w1,w2,.tup (sps.map dS)],d4])∧SpsOk cols sps∧∀ (M:Int) (H':Hp),M ≤ (sumH sps:Nat)→Same H H'→Q (.int M) H'
theorem rows_all {cols:Nat} {sps:List (Nat × Nat)} {M:Int} (g0:sps=[]→M=0) (g1:sps ≠ []→(∃ i,i < sps.length∧M=((gN (putS cols sps sps.length).2.2 i).1:Int) + ((gN sps i).2:Int))∧∀ i,i < sps.length→((gN (putS cols sps sps.length).2.2 i).1:Int) + ((gN sps i).2:Int) ≤ M):M ≤ (sumH sps:Nat):=by
  by_cases e:sps=[]
  · rw [g0 e]
    omega
  · obtain ⟨⟨i,hi,e1⟩,_⟩:=g1 e
    have z:=plAt_get (cols:=cols) (sps:=sps) hi
    have z2:(putS cols sps sps.length).2.2[i]?=some (gN (putS cols sps sps.length).2.2 i):=gN_at (by rw [putS_len]; exact hi)
    rw [z] at z2
    rw [← Option.some.inj z2] at e1
    have h3:=(plAt_ok cols sps i).row
    rw [putS_rows cols sps i (by omega)] at h3
    have st:((sps.take i).map (·.2)).sum + (gN sps i).2=((sps.take (i + 1)).map (·.2)).sum:=by
      rw [List.take_succ,gN_at hi,List.map_append,List.sum_append]
      simp
    have mono:((sps.take (i + 1)).map (·.2)).sum ≤ sumH sps:=by
      unfold sumH
      conv=>rhs; rw [← List.take_append_drop (i + 1) sps,List.map_append,List.sum_append]
      omega
    omega
section
variable {P:Program} {w:World} {K:PySem.W.Frag} {mg:Str→Option Value} {base:Heap} {tk:Nat→Tok} {ad:Nat→Addr}
abbrev nSpansOf:List Str:=["box"]
theorem scSpansOf:FnScope nSpansOf ["box"] (defScope sSpansOf):=⟨rfl,rfl,rfl,by decide +kernel,rfl,by decide +kernel,by decide +kernel⟩
set_option maxHeartbeats 16000000 in
theorem ok_spansOf {f f1:Addr} {fd d1:FuncData} (F:Fun K "spans_of" "spans_of" sSpansOf f fd) (N:Names mg)
    (G1:FnOk P w K mg base CX0 1 f1 d1 ["box"] (spPart K 3)) (b1:Binds K d1 ["box"] []) (m1:mg "what_of"=some (.ref f1)) (k1:PySem.W.keepIn K (.ref f1)=true):FnOk P w K mg base CX0 2 f fd ["box"] (spSpans K):=by
  refine F.ok scSpansOf (fun vs H Q E h=>?_) (fun cdv A outer s H vs Q E hr h=>?_)
  · obtain ⟨v,d0,d1,d2,w0,w1,w2,d4,sps,e,_⟩:=h
    rw [e]
    rfl
  · obtain ⟨v,d0,d1,d2,w0,w1,w2,d4,sps,e,hv,k⟩:=h
    subst e
    have hr1:=hr.mono (j:=1) (by decide)
    refine ⟨_,pss_one (ps_ret (pe_callTy call_list_of (by rfl) N.list PyProof.Rows.boot_list (pa_cons (pe_ix ix_tup (pe_call G1 hr1 (by rfl) m1 k1 b1 .nil pass0 (pa_cons (pv 0) pa_nil)) pe_int (fun _ _=>rfl)) pa_nil))),?_⟩
    try rw [show (cxOf CX0 P w K mg base nSpansOf "spans_of" (defScope sSpansOf) f cdv A outer s H E).nox.K=K from rfl]
    refine ⟨_,rfl,v,_,_,rfl,hv,rfl,fun x hx=>?_⟩
    obtain ⟨p,xs,y,rfl,e1,e2,e3⟩:=hx.part (j:=3) rfl
    obtain ⟨q,sa,rfl,f1,f2⟩:=spans_at e3
    refine ⟨p,_,_,_,rfl,rfl,e1,e2,q,_,rfl,.inr (SqT.of f1),fun l hl=>?_⟩
    have s1:Same H (upd H l (.lst (sa.map V.ref))):=Same.put (Same.refl _) hl
    exact k l sa _ hl s1 upd_same (f2.same s1)
abbrev nRowsTaken:List Str:=["places","spans"]
theorem scRowsTaken:FnScope nRowsTaken ["places","spans"] (defScope sRowsTaken):=⟨rfl,rfl,rfl,by decide +kernel,rfl,by decide +kernel,by decide +kernel⟩
theorem scRowsTakenN0:(["place","span","places","spans"]:List Str).Nodup:=by decide +kernel
set_option maxHeartbeats 16000000 in
theorem ok_rowsTaken {f:Addr} {fd:FuncData} (F:Fun K "rows_taken" "rows_taken" sRowsTaken f fd) (N:Names mg):FnOk P w K mg base CX0 1 f fd ["places","spans"] spRowsT:=by
  refine F.ok scRowsTaken (fun vs H Q E h=>?_) (fun cdv A outer s H vs Q E hr h=>?_)
  · obtain ⟨a,b,pa,sa,ps,sps,e,_⟩:=h
    rw [e]
    rfl
  · obtain ⟨a,b,pa,sa,ps,sps,e,ha,hP,hb,hS,hl,hn,k⟩:=h
    subst e
    refine ⟨_,pss_one (ps_ret (pe_maxD rfl (by rfl) N.max (pa_cons (pe_compN (k:=2) (N':=["place","span","places","spans"]) (compScN_mk (fs:=defScope sRowsTaken) (N:=nRowsTaken) rfl rfl (by decide +kernel)) rfl (pi_zip (by rfl) N.zip (pa_cons (pv 0) (pa_cons (pv 1) pa_nil))) (fun _ _ _ _ _=>pg_twoK (K:=K) rfl rfl scRowsTakenN0 rfl rfl rfl rfl) (fun _ _ _ _ _=>pts_nil) (fun _ _ _ _ _=>(pe_op op_add (pe_ix (r:=rIxT K) ix_tup (pv 0) pe_int (fun _ _=>rfl)) (pe_ix (r:=rIxT K) ix_tup (pv 1) pe_int (fun _ _=>rfl))))) pa_nil) (pk_cons pe_int pk_nil))),?_⟩
    try rw [show (cxOf CX0 P w K mg base nRowsTaken "rows_taken" (defScope sRowsTaken) f cdv A outer s H E).nox.K=K from rfl]
    have lp:pa.length=sps.length:=by rw [hP.1,List.length_map,hl]
    have ls:sa.length=sps.length:=by rw [hS.1,List.length_map]
    refine ⟨_,rfl,_,rfl,a,b,rfl,⟨_,SqL.of ha⟩,⟨_,SqL.of hb⟩,?_⟩
    refine comp_zipP (K:=K) (a:=a) (b:=b) (xs:=pa.map V.ref) (ys:=sa.map V.ref) (fun _=>true) (fun i=>V.int (((gN ps i).1:Int) + ((gN sps i).2:Int))) (SqL.of ha) (SqL.of hb) (small (by rw [List.length_map,List.length_map]; omega)) (fun i x y H' Q' _ _ _ hq=>hq _ (Same.refl _)) (fun i x y H' Q' _ ex ey s' hq=>?_) fun DD H1 hD s1 h1=>?_
    · rw [List.getElem?_map] at ex ey
      cases e1:pa[i]? with
      | none=>rw [e1] at ex; cases ex
      | some p =>
        cases e2:sa[i]? with
        | none=>rw [e2] at ey; cases ey
        | some q =>
          rw [e1] at ex
          rw [e2] at ey
          cases ex
          cases ey
          have hi:i < sps.length:=by rw [← lp]; exact get_lt e1
          have hp:H' p=some (.tup (spV (gN ps i))):=s' _ _ (hP.2 i p _ e1 (by rw [List.getElem?_map,gN_at (by omega)]; rfl))
          have hs:H' q=some (.tup (spV (gN sps i))):=s' _ _ (hS.2 i q _ e2 (by rw [List.getElem?_map,gN_at hi]; rfl))
          exact ⟨_,rfl,p,_,_,_,rfl,rfl,SqT.of hp,atI_nat (j:=0) rfl,_,rfl,q,_,_,_,rfl,rfl,SqT.of hs,atI_nat (j:=1) rfl,_,_,rfl,rfl,hq _ (Same.refl _)⟩
    · have em:min (pa.map V.ref).length (sa.map V.ref).length=sps.length:=by rw [List.length_map,List.length_map]; omega
      rw [em,List.filter_eq_self.mpr fun _ _=>rfl] at h1
      refine ⟨DD,(List.range sps.length).map fun i=>((gN ps i).1:Int) + ((gN sps i).2:Int),0,rfl,rfl,SqL.of (by rw [h1,List.map_map]; rfl),fun M m0 m1=>k M H1 s1 (fun e=>m0 (by rw [e]; rfl)) fun e=>?_⟩
      obtain ⟨g1,g2⟩:=m1 fun z=>e (by
        have:=congrArg List.length z
        rw [List.length_map,List.length_range] at this
        exact List.eq_nil_of_length_eq_zero this)
      obtain ⟨i,hi,e1⟩:=List.mem_map.mp g1
      exact ⟨⟨i,List.mem_range.mp hi,e1.symm⟩,fun j hj=>g2 _ (List.mem_map_of_mem (f:=fun i=>((gN ps i).1:Int) + ((gN sps i).2:Int)) (List.mem_range.mpr hj))⟩
abbrev nCellsOf:List Str:=["box"]
theorem scCellsOf:FnScope nCellsOf ["box"] (defScope sCellsOf):=⟨rfl,rfl,rfl,by decide +kernel,rfl,by decide +kernel,by decide +kernel⟩
set_option maxHeartbeats 16000000 in
theorem ok_cellsOf {f f1 f2 f3:Addr} {fd d1 d2 d3:FuncData} (F:Fun K "cells_of" "cells_of" sCellsOf f fd) (N:Names mg)
    (G1:FnOk P w K mg base CX0 3 f1 d1 ["columns","spans"] spPut) (b1:Binds K d1 ["columns","spans"] []) (m1:mg "put_cells"=some (.ref f1)) (k1:PySem.W.keepIn K (.ref f1)=true)
    (G2:FnOk P w K mg base CX0 1 f2 d2 ["box"] (spPart K 3)) (b2:Binds K d2 ["box"] []) (m2:mg "what_of"=some (.ref f2)) (k2:PySem.W.keepIn K (.ref f2)=true)
    (G3:FnOk P w K mg base CX0 2 f3 d3 ["box"] (spSpans K)) (b3:Binds K d3 ["box"] []) (m3:mg "spans_of"=some (.ref f3)) (k3:PySem.W.keepIn K (.ref f3)=true):FnOk P w K mg base CX0 4 f fd ["box"] (spCellsOf K):=by
  refine F.ok scCellsOf (fun vs H Q E h=>?_) (fun cdv A outer s H vs Q E hr h=>?_)
  · obtain ⟨v,d0,d1,d2,w1,w2,d4,cols,sps,e,_⟩:=h
    rw [e]
    rfl
  · obtain ⟨v,d0,d1,d2,w1,w2,d4,cols,sps,e,hv,hs,k⟩:=h
    subst e
    have hr1:=hr.mono (j:=1) (by decide)
    have hr2:=hr.mono (j:=2) (by decide)
    have hr3:=hr.mono (j:=3) (by decide)
    refine ⟨_,pss_one (ps_ret (pe_call G1 hr3 (by rfl) m1 k1 b1 .nil pass0 (pa_cons (pe_ix ix_tup (pe_call G2 hr1 (by rfl) m2 k2 b2 .nil pass0 (pa_cons (pv 0) pa_nil)) pe_int (fun _ _=>rfl)) (pa_cons (pe_call G3 hr2 (by rfl) m3 k3 b3 .nil pass0 (pa_cons (pv 0) pa_nil)) pa_nil)))),?_⟩
    try rw [show (cxOf CX0 P w K mg base nCellsOf "cells_of" (defScope sCellsOf) f cdv A outer s H E).nox.K=K from rfl]
    refine ⟨_,rfl,v,_,_,rfl,hv,rfl,fun x hx=>?_⟩
    obtain ⟨p,xs,y,rfl,e1,e2,e3⟩:=hx.part (j:=0) rfl
    cases e3
    refine ⟨p,_,_,_,rfl,rfl,e1,e2,_,rfl,v,_,_,_,_,_,_,_,sps,rfl,hv,fun l sa H1 hl s1 h1 r1=>?_⟩
    exact ⟨l,sa,sps,cols,rfl,h1,r1,hs.1,hs.2.1,hs.2.2,fun m pa H2 hm s2 h2 r2=>k m pa H2 (Same.trans s1 s2) h2 r2⟩
abbrev nTableRows:List Str:=["box"]
theorem scTableRows:FnScope nTableRows ["box"] (defScope sTableRows):=⟨rfl,rfl,rfl,by decide +kernel,rfl,by decide +kernel,by decide +kernel⟩
set_option maxHeartbeats 16000000 in
theorem ok_tableRows {f f1 f2 f3:Addr} {fd d1 d2 d3:FuncData} (F:Fun K "table_rows" "table_rows" sTableRows f fd) (N:Names mg)
    (G1:FnOk P w K mg base CX0 1 f1 d1 ["places","spans"] spRowsT) (b1:Binds K d1 ["places","spans"] []) (m1:mg "rows_taken"=some (.ref f1)) (k1:PySem.W.keepIn K (.ref f1)=true)
    (G2:FnOk P w K mg base CX0 4 f2 d2 ["box"] (spCellsOf K)) (b2:Binds K d2 ["box"] []) (m2:mg "cells_of"=some (.ref f2)) (k2:PySem.W.keepIn K (.ref f2)=true)
    (G3:FnOk P w K mg base CX0 2 f3 d3 ["box"] (spSpans K)) (b3:Binds K d3 ["box"] []) (m3:mg "spans_of"=some (.ref f3)) (k3:PySem.W.keepIn K (.ref f3)=true):FnOk P w K mg base CX0 5 f fd ["box"] (spTabRows K):=by
  refine F.ok scTableRows (fun vs H Q E h=>?_) (fun cdv A outer s H vs Q E hr h=>?_)
  · obtain ⟨v,d0,d1,d2,w1,w2,d4,cols,sps,e,_⟩:=h
    rw [e]
    rfl
  · obtain ⟨v,d0,d1,d2,w1,w2,d4,cols,sps,e,hv,hs,k⟩:=h
    subst e
    have hr1:=hr.mono (j:=1) (by decide)
    have hr2:=hr.mono (j:=2) (by decide)
    have hr4:=hr.mono (j:=4) (by decide)
    refine ⟨_,pss_one (ps_ret (pe_call G1 hr1 (by rfl) m1 k1 b1 .nil pass0 (pa_cons (pe_call G2 hr4 (by rfl) m2 k2 b2 .nil pass0 (pa_cons (pv 0) pa_nil)) (pa_cons (pe_call G3 hr2 (by rfl) m3 k3 b3 .nil pass0 (pa_cons (pv 0) pa_nil)) pa_nil)))),?_⟩
    try rw [show (cxOf CX0 P w K mg base nTableRows "table_rows" (defScope sTableRows) f cdv A outer s H E).nox.K=K from rfl]
    refine ⟨_,rfl,v,_,_,_,_,_,_,cols,sps,rfl,hv,hs,fun m pa H1 s1 h1 r1=>?_⟩
    refine ⟨_,rfl,v,_,_,_,_,_,_,_,sps,rfl,hv.same s1,fun l sa H2 hl s2 h2 r2=>?_⟩
    refine ⟨m,l,pa,sa,(putS cols sps sps.length).2.2,sps,rfl,s2 _ _ h1,r1.same s2,h2,r2,putS_len cols sps _,hs.2.2,fun M H3 s3 g0 g1=>?_⟩
    exact k M H3 (rows_all g0 g1) (Same.trans s1 (Same.trans s2 s3))
end
end B06
namespace L2
open PySem PySem.Spec PyProof.Rows
section
variable {X:Cx}
theorem call_lenD:CallR X (.builtin "len") (fun xs H Q=>∃ (a:Addr) (kvs:List (Key × V)),xs=[.ref a]∧Rd H a (.dK kvs)∧Q (.int kvs.length) H):=by
  intro pins s σ H xs us Q I r h
  obtain ⟨a,kvs,e,d,q⟩:=h
  subst e
  obtain ⟨u,e2,ru⟩:=vals1 r
  subst e2
  obtain rfl:u=Value.ref a:=ru
  obtain ⟨z,ha,vs,rel,dd⟩:=dk_rd I.hok d
  have hl:=line63
  have hs:sizeLine=16777216:=sizeLine_eq
  have el:=rel.length
  refine call_len_dict ha dd (by omega) ?_
  rw [← el]
  exact ⟨.int _,H,I.tok _,⟨_,rfl⟩,q⟩
end
end L2
namespace B06
open PySem L2 S2
def D.nameS (d:D):Str:=match d with
  | .tup [_,.str n,_,_,_]=>n
  | _=>""
def D.told (d:D):D:=match d with
  | .tup [_,n,_,_,_]=>if n.name=true then n else .non
  | _=>.non
def D.kindS (d:D):Str:=match d with
  | .tup [.str k,_,_,_,_]=>k
  | _=>""
def D.alike (d:D):Int:=match d with
  | .tup [_,_,.tup [_,_,_,_,_,.int g],_,_]=>g
  | _=>0
def D.parts (d:D):List D:=match d with
  | .tup [_,_,_,_,.tup l]=>l
  | _=>[]
abbrev wAlike:List V:=[.str "leaf",.str "row",.str "column",.str "wrap"]
def D.ask (d:D):Prop:=d.bAsk∧(d.box=true→d.kindS="table"→∃ (d0 d1 d2 w1 w2 d4:D) (cols:Nat) (sps:List (Nat × Nat)),d=.tup [d0,d1,d2,.tup [.int (cols:Int),w1,w2,.tup (sps.map dS)],d4]∧SpsOk cols sps∧sumH sps ≤ 60)
def amD (d:D) (dep:Int) (it:Bool) (nms:List Str):Bool:=!d.box || (decide (d.nameS ∈ nms) || decide ((60:Int) ≤ nms.length) || decide (8 < dep) || (decide (0 < d.alike) && !(inV (.str d.kindS) wAlike && !it)))
theorem box_is {d:D} (h:d.box=true):∃ (k n:Str) (a b c e f:D) (g:Int) (w:D) (l:List D),d=.tup [.str k,.str n,.tup [a,b,c,e,f,.int g],w,.tup l]∧(D.str n).name=true∧whatS k w l.length=true:=by
  unfold D.box at h
  split at h
  · rename_i k n o w p
    unfold boxP at h
    rw [Bool.and_eq_true,Bool.and_eq_true] at h
    obtain ⟨⟨hn,ho⟩,hp⟩:=h
    cases p with
    | tup l =>
      cases k with
      | str k =>
        cases n with
        | str n =>
          cases hto:o.tupOf 6 with
          | false =>
            have z:o.own=false:=by
              unfold D.own
              split
              · cases hto
              · rfl
            rw [z] at ho
            cases ho
          | true =>
            obtain ⟨a,b,c,e,f,g,rfl⟩:=tup6 hto
            have z:(a.bounds && b.bounds && (c.between 0 99 && e.between 0 99) && (f.between 0 9 && g.between 0 9))=true:=ho
            simp only [Bool.and_eq_true] at z
            obtain ⟨gi,rfl⟩:=between_int z.2.2
            exact ⟨k,n,a,b,c,e,f,gi,w,l,rfl,hn,hp⟩
        | _=>cases hn
      | _=>cases hp
    | _=>cases hp
  · cases h
def kvT (nms:List Str):List (Key × V):=nms.map fun n=>(Sum.inr n,V.bl true)
theorem kvT_len (nms:List Str):(kvT nms).length=nms.length:=by unfold kvT; rw [List.length_map]
theorem val_kvT {nm:Str}:∀ (nms:List Str),(valV (kvT nms) (.inr nm)).isSome=decide (nm ∈ nms)
  | []=>rfl
  | n :: l=>by
    show (valV ((Sum.inr n,V.bl true) :: kvT l) (.inr nm)).isSome=_
    by_cases e:n=nm
    · subst e
      rw [valV_pos rfl,decide_eq_true List.mem_cons_self]
      rfl
    · rw [valV_neg (fun z=>e (Sum.inr.inj z)),val_kvT l]
      exact decide_eq_decide.mpr ⟨fun z=>List.mem_cons_of_mem _ z,fun z=>(List.mem_cons.mp z).resolve_left (Ne.symm e)⟩
def spAlike (K:PySem.W.Frag):Sp:=fun vs H Q _=>∃ (v:V) (d0 d1 a b c e f d3 d4:D) (g:Int),vs=[v]∧At K H v (.tup [d0,d1,.tup [a,b,c,e,f,.int g],d3,d4])∧Q (.int g) H
def spTold (K:PySem.W.Frag):Sp:=fun vs H Q _=>∃ (v:V) (d:D),vs=[v]∧At K H v d∧∀ (x:V) (H':Hp),Same H H'→At K H' x d.told→Q x H'
def spMay (K:PySem.W.Frag):Sp:=fun vs H Q _=>∃ (v:V) (k:Str) (d1 d2 d3 d4:D) (it:Bool),vs=[v,.bl it]∧At K H v (.tup [.str k,d1,d2,d3,d4])∧Q (.bl (inV (.str k) wAlike && !it)) H
def spAmiss (K:PySem.W.Frag):Sp:=fun vs H Q _=>∃ (v:V) (d:D) (dep:Int) (it:Bool) (dN:Addr) (nms:List Str),vs=[v,.int dep,.bl it,.ref dN]∧At K H v d∧d.ask∧Rd H dN (.dK (kvT nms)) ∧
  ∀ H':Hp,Same H H'→Q (.bl (amD d dep it nms)) H'
theorem told_no {d:D} (h:¬ d.tupOf 5=true):d.told=.non:=by
  unfold D.told
  split
  · exact absurd rfl h
  · rfl
section
variable {P:Program} {w:World} {K:PySem.W.Frag} {mg:Str→Option Value} {base:Heap} {tk:Nat→Tok} {ad:Nat→Addr}
abbrev nAlikeOf:List Str:=["box"]
theorem scAlikeOf:FnScope nAlikeOf ["box"] (defScope sAlikeOf):=⟨rfl,rfl,rfl,by decide +kernel,rfl,by decide +kernel,by decide +kernel⟩
set_option maxHeartbeats 16000000 in
theorem ok_alikeOf {f f1:Addr} {fd d1:FuncData} (F:Fun K "alike_of" "alike_of" sAlikeOf f fd) (N:Names mg)
    (G1:FnOk P w K mg base CX0 1 f1 d1 ["box"] (spPart K 2)) (b1:Binds K d1 ["box"] []) (m1:mg "own_of"=some (.ref f1)) (k1:PySem.W.keepIn K (.ref f1)=true):FnOk P w K mg base CX0 2 f fd ["box"] (spAlike K):=by
  refine F.ok scAlikeOf (fun vs H Q E h=>?_) (fun cdv A outer s H vs Q E hr h=>?_)
  · obtain ⟨v,d0,d1,a,b,c,e,f0,d3,d4,g,e,_⟩:=h
    rw [e]
    rfl
  · obtain ⟨v,d0,d1,a,b,c,e,f0,d3,d4,g,e,hv,k⟩:=h
    subst e
    have hr1:=hr.mono (j:=1) (by decide)
    refine ⟨_,pss_one (ps_ret (pe_ix ix_tup (pe_call G1 hr1 (by rfl) m1 k1 b1 .nil pass0 (pa_cons (pv 0) pa_nil)) pe_int (fun _ _=>rfl))),?_⟩
    try rw [show (cxOf CX0 P w K mg base nAlikeOf "alike_of" (defScope sAlikeOf) f cdv A outer s H E).nox.K=K from rfl]
    refine ⟨_,rfl,v,_,_,rfl,hv,rfl,fun x hx=>?_⟩
    obtain ⟨p,xs,y,rfl,e1,e2,e3⟩:=hx.part (j:=5) rfl
    cases e3
    exact ⟨p,_,_,_,rfl,rfl,e1,e2,k⟩
abbrev nNameTold:List Str:=["thing"]
theorem scNameTold:FnScope nNameTold ["thing"] (defScope sNameTold):=⟨rfl,rfl,rfl,by decide +kernel,rfl,by decide +kernel,by decide +kernel⟩
set_option maxHeartbeats 16000000 in
theorem ok_nameTold {f f1 f2 f3:Addr} {fd d1 d2 d3:FuncData} (F:Fun K "name_told" "name_told" sNameTold f fd) (N:Names mg)
    (G1:FnOk P w K mg base CX0 1 f1 d1 ["thing","many"] (spAsk2 K D.tupOf)) (b1:Binds K d1 ["thing","many"] []) (m1:mg "is_tuple_of"=some (.ref f1)) (k1:PySem.W.keepIn K (.ref f1)=true)
    (G2:FnOk P w K mg base CX0 1 f2 d2 ["thing"] (spAsk1 K D.name)) (b2:Binds K d2 ["thing"] []) (m2:mg "is_name"=some (.ref f2)) (k2:PySem.W.keepIn K (.ref f2)=true)
    (G3:FnOk P w K mg base CX0 1 f3 d3 ["box"] (spPart K 1)) (b3:Binds K d3 ["box"] []) (m3:mg "name_of"=some (.ref f3)) (k3:PySem.W.keepIn K (.ref f3)=true):FnOk P w K mg base CX0 2 f fd ["thing"] (spTold K):=by
  refine F.ok scNameTold (fun vs H Q E h=>?_) (fun cdv A outer s H vs Q E hr h=>?_)
  · obtain ⟨v,d,e,_⟩:=h
    rw [e]
    rfl
  · obtain ⟨v,d,e,hv,k⟩:=h
    subst e
    have hr1:=hr.mono (j:=1) (by decide)
    refine ⟨_,pss_cons (ps_if (pw_and (pt_val (pe_call G1 hr1 (by rfl) m1 k1 b1 .nil pass0 (pa_cons (pv 0) (pa_cons pe_int pa_nil)))) (pw_and1 (pt_val (pe_call G2 hr1 (by rfl) m2 k2 b2 .nil pass0 (pa_cons (pe_call G3 hr1 (by rfl) m3 k3 b3 .nil pass0 (pa_cons (pv 0) pa_nil)) pa_nil))))).pt (pss_one (ps_ret (pe_call G3 hr1 (by rfl) m3 k3 b3 .nil pass0 (pa_cons (pv 0) pa_nil)))) pss_nil)
      (pss_one (ps_ret pe_non)),?_⟩
    try rw [show (cxOf CX0 P w K mg base nNameTold "name_told" (defScope sNameTold) f cdv A outer s H E).nox.K=K from rfl]
    refine seq_abs fun N1 hN=>?_
    refine ⟨_,rfl,v,_,_,rfl,hv,fun H1 s1=>⟨_,rfl,ite2 (fun h5=>?_) (fun h5=>iteF ?_)⟩⟩
    rotate_left
    · refine hN _ _ ?_
      have e:=told_no h5
      exact k .non H1 s1 (by rw [e]; exact .non)
    obtain ⟨kd,n,o,wh,pp,rfl⟩:=tup5 h5
    have et:(D.tup [kd,n,o,wh,pp]).told=if n.name=true then n else .non:=rfl
    rw [et] at k
    refine ⟨_,rfl,v,_,_,rfl,hv.same s1,rfl,fun x1 g1=>⟨x1,_,rfl,g1,fun H2 s2=>⟨_,rfl,ite2 (fun hn=>?_) (fun hn=>?_)⟩⟩⟩
    · refine ⟨_,rfl,v,_,_,rfl,hv.same (Same.trans s1 s2),rfl,fun x2 g2=>?_⟩
      exact k x2 H2 (Same.trans s1 s2) (by rw [if_pos hn]; exact g2)
    · refine hN _ _ ?_
      exact k .non H2 (Same.trans s1 s2) (by rw [if_neg hn]; exact .non)
abbrev nMayBeAlike:List Str:=["box","in_table"]
theorem scMayBeAlike:FnScope nMayBeAlike ["box","in_table"] (defScope sMayBeAlike):=⟨rfl,rfl,rfl,by decide +kernel,rfl,by decide +kernel,by decide +kernel⟩
set_option maxHeartbeats 16000000 in
theorem ok_mayBeAlike {f f1:Addr} {fd d1:FuncData} (CC:Cst K mg tk ad) (F:Fun K "may_be_alike" "may_be_alike" sMayBeAlike f fd) (N:Names mg)
    (G1:FnOk P w K mg base CX0 1 f1 d1 ["box"] (spPart K 0)) (b1:Binds K d1 ["box"] []) (m1:mg "kind_of"=some (.ref f1)) (k1:PySem.W.keepIn K (.ref f1)=true):FnOk P w K mg base CX0 2 f fd ["box","in_table"] (spMay K):=by
  refine F.ok scMayBeAlike (fun vs H Q E h=>?_) (fun cdv A outer s H vs Q E hr h=>?_)
  · obtain ⟨v,kd,d1,d2,d3,d4,it,e,_⟩:=h
    rw [e]
    rfl
  · obtain ⟨v,kd,d1,d2,d3,d4,it,e,hv,k⟩:=h
    subst e
    have hr1:=hr.mono (j:=1) (by decide)
    refine ⟨_,pss_one (ps_ret (pe_and (pe_cmpR (r:=rIn K false) op_in_seq (pe_call G1 hr1 (by rfl) m1 k1 b1 .nil pass0 (pa_cons (pv 0) pa_nil)) (pe_glob (v:=.ref (ad 4)) (by rfl) CC.tALIKE_KINDS rfl) (by rfl)) (pe_one (pe_not (pv 1))))),?_⟩
    try rw [show (cxOf CX0 P w K mg base nMayBeAlike "may_be_alike" (defScope sMayBeAlike) f cdv A outer s H E).nox.K=K from rfl]
    refine ⟨_,rfl,v,_,_,rfl,hv,rfl,fun x hx=>?_⟩
    cases hx
    refine ⟨_,_,rfl,.inr (CC.sALIKE_KINDS H),rfl,by decide,_,rfl,ite2 (fun h=>?_) (fun h=>?_)⟩
    · have h':inV (.str kd) wAlike=true:=h
      rw [h',Bool.true_and] at k
      exact ⟨_,rfl,_,rfl,k⟩
    · have h':inV (.str kd) wAlike=false:=Bool.eq_false_iff.mpr h
      rw [h',Bool.false_and] at k
      exact k
abbrev nIsAmiss:List Str:=["thing","depth","in_table","names"]
theorem scIsAmiss:FnScope nIsAmiss ["thing","depth","in_table","names"] (defScope sIsAmiss):=⟨rfl,rfl,rfl,by decide +kernel,rfl,by decide +kernel,by decide +kernel⟩
set_option maxHeartbeats 16000000 in
theorem ok_isAmiss {f f1 f2 f3 f4 f5 f6:Addr} {fd d1 d2 d3 d4 d5 d6:FuncData} (CC:Cst K mg tk ad) (F:Fun K "is_amiss" "is_amiss" sIsAmiss f fd) (N:Names mg)
    (G1:FnOk P w K mg base CX0 6 f1 d1 ["thing"] (spBox K)) (b1:Binds K d1 ["thing"] []) (m1:mg "is_box"=some (.ref f1)) (k1:PySem.W.keepIn K (.ref f1)=true)
    (G2:FnOk P w K mg base CX0 1 f2 d2 ["box"] (spPart K 1)) (b2:Binds K d2 ["box"] []) (m2:mg "name_of"=some (.ref f2)) (k2:PySem.W.keepIn K (.ref f2)=true)
    (G3:FnOk P w K mg base CX0 2 f3 d3 ["box"] (spAlike K)) (b3:Binds K d3 ["box"] []) (m3:mg "alike_of"=some (.ref f3)) (k3:PySem.W.keepIn K (.ref f3)=true)
    (G4:FnOk P w K mg base CX0 2 f4 d4 ["box","in_table"] (spMay K)) (b4:Binds K d4 ["box","in_table"] []) (m4:mg "may_be_alike"=some (.ref f4)) (k4:PySem.W.keepIn K (.ref f4)=true)
    (G5:FnOk P w K mg base CX0 1 f5 d5 ["box"] (spPart K 0)) (b5:Binds K d5 ["box"] []) (m5:mg "kind_of"=some (.ref f5)) (k5:PySem.W.keepIn K (.ref f5)=true)
    (G6:FnOk P w K mg base CX0 5 f6 d6 ["box"] (spTabRows K)) (b6:Binds K d6 ["box"] []) (m6:mg "table_rows"=some (.ref f6)) (k6:PySem.W.keepIn K (.ref f6)=true):FnOk P w K mg base CX0 7 f fd ["thing","depth","in_table","names"] (spAmiss K):=by
  refine F.ok scIsAmiss (fun vs H Q E h=>?_) (fun cdv A outer s H vs Q E hr h=>?_)
  · obtain ⟨v,d,dep,it,dN,nms,e,_⟩:=h
    rw [e]
    rfl
  · obtain ⟨v,d,dep,it,dN,nms,e,hv,hg,hN,k⟩:=h
    subst e
    have hr1:=hr.mono (j:=1) (by decide)
    have hr2:=hr.mono (j:=2) (by decide)
    have hr5:=hr.mono (j:=5) (by decide)
    have hr6:=hr.mono (j:=6) (by decide)
    have hu:(A.deeper (PyProof.Rows.envOfC "is_amiss" (defScope sIsAmiss) s.heap.objs.size f cdv)).units + 1 < cLine:=by have:=hr.units; omega
    refine ⟨_,pss_cons (ps_if (pt_not (pt_val (pe_call G1 hr6 (by rfl) m1 k1 b1 .nil pass0 (pa_cons (pv 0) pa_nil)))) (pss_one (ps_ret pe_bl)) pss_nil)
      (pss_cons (ps_if (pw_or (pt_cmp (pc_din hu (pe_call G2 hr1 (by rfl) m2 k2 b2 .nil pass0 (pa_cons (pv 0) pa_nil)) (pv 3))) (pw_or (pt_cmpR op_ge (pe_callB call_lenD (by rfl) N.len PySem.boot_len (pa_cons (pv 3) pa_nil)) (pe_glob (v:=.int 60) (by rfl) CC.cBOXES_MOST ⟨_,rfl⟩) (nomark _)) (pw_or1 (pt_cmpR op_gt (pv 1) (pe_glob (v:=.int 8) (by rfl) CC.cDEEPEST ⟨_,rfl⟩) (nomark _))))).pt (pss_one (ps_ret pe_bl)) pss_nil)
      (pss_cons (ps_if (pw_and (pt_cmpR op_gt (pe_call G3 hr2 (by rfl) m3 k3 b3 .nil pass0 (pa_cons (pv 0) pa_nil)) pe_int (nomark _)) (pw_and1 (pt_not (pt_val (pe_call G4 hr2 (by rfl) m4 k4 b4 .nil pass0 (pa_cons (pv 0) (pa_cons (pv 2) pa_nil))))))).pt (pss_one (ps_ret pe_bl)) pss_nil)
      (pss_one (ps_ret (pe_and (pe_cmpR op_eq (pe_call G5 hr1 (by rfl) m5 k5 b5 .nil pass0 (pa_cons (pv 0) pa_nil)) pe_str (nomark _)) (pe_one (pe_cmpR op_gt (pe_call G6 hr5 (by rfl) m6 k6 b6 .nil pass0 (pa_cons (pv 0) pa_nil)) (pe_glob (v:=.int 60) (by rfl) CC.cTABLE_ROWS ⟨_,rfl⟩) (nomark _)))))))),?_⟩
    try rw [show (cxOf CX0 P w K mg base nIsAmiss "is_amiss" (defScope sIsAmiss) f cdv A outer s H E).nox.K=K from rfl]
    have kz1:∀ H':Hp,Same H H'→Q (.bl (!d.box || (decide (d.nameS ∈ nms) || decide ((60:Int) ≤ nms.length) || decide (8 < dep) || (decide (0 < d.alike) && !(inV (.str d.kindS) wAlike && !it))))) H':=k
    refine seq_abs fun N1 hN=>?_
    refine ⟨_,rfl,v,d,rfl,hv,hg.1,fun H1 s1=>⟨_,rfl,ite2 (fun h=>?_) (fun h=>?_)⟩⟩
    · have z:=kz1 H1 s1
      rw [h,Bool.true_or] at z
      exact z
    have hb:d.box=true:=by
      cases z:d.box with
      | true=>rfl
      | false=>rw [z] at h; exact absurd rfl h
    have htab:=hg.2 hb
    obtain ⟨kd,nm,a,b,c,e,f0,g,wh,l,rfl,hnm,hwh⟩:=box_is hb
    have kz2:∀ H':Hp,Same H H'→Q (.bl (decide (nm ∈ nms) || decide ((60:Int) ≤ nms.length) || decide (8 < dep) || (decide (0 < g) && !(inV (.str kd) wAlike && !it)))) H':=fun H' s'=>by
      have z:=kz1 H' s'
      rw [Bool.eq_false_iff.mpr h,Bool.false_or] at z
      exact z
    clear kz1 k
    refine hN _ _ ?_
    clear hN N1
    have hv1:=hv.same s1
    have hN1:=hN.keep fun o e=>s1 _ _ e
    refine seq_abs fun N1 hN=>?_
    refine ⟨_,rfl,v,_,_,rfl,hv1,rfl,fun x g=>?_⟩
    cases g
    refine ⟨_,rfl,dN,_,rfl,.inl ⟨_,.inr nm,hN1,rfl,rfl⟩,?_⟩
    rw [val_kvT]
    refine ⟨_,rfl,ite2 (fun q1=>?_) (fun q1=>?_)⟩
    · have z:=kz2 H1 s1
      rw [q1,Bool.true_or,Bool.true_or,Bool.true_or] at z
      exact iteT z
    refine ⟨_,rfl,dN,_,rfl,hN1,_,_,rfl,rfl,_,rfl,ite2 (fun q2=>?_) (fun q2=>?_)⟩
    · rw [kvT_len] at q2
      have z:=kz2 H1 s1
      rw [q2,Bool.or_true,Bool.true_or,Bool.true_or] at z
      exact iteT z
    rw [kvT_len] at q2
    refine ⟨_,rfl,_,_,rfl,rfl,_,rfl,ite2 (fun q3=>?_) (fun q3=>?_)⟩
    · have z:=kz2 H1 s1
      rw [q3,Bool.or_true,Bool.true_or] at z
      exact z
    have kz3:∀ H':Hp,Same H H'→Q (.bl (decide (0 < g) && !(inV (.str kd) wAlike && !it))) H':=fun H' s'=>by
      have z:=kz2 H' s'
      rw [Bool.eq_false_iff.mpr q1,Bool.eq_false_iff.mpr q2,Bool.eq_false_iff.mpr q3,Bool.false_or,Bool.false_or,Bool.false_or] at z
      exact z
    clear kz2
    refine hN _ _ ?_
    clear hN N1
    refine seq_abs fun N1 hN=>?_
    have rest:(decide (0 < g) && !(inV (.str kd) wAlike && !it))=false→N1 [some v,some (.int dep),some (.bl it),some (.ref dN)] H1:=fun hz=>hN _ _ (by
      clear hN
      rw [hz] at kz3
      refine ⟨_,rfl,v,_,_,rfl,hv1,rfl,fun x g=>?_⟩
      cases g
      refine ⟨rfl,_,rfl,ite2 (fun q4=>?_) (fun q4=>?_)⟩
      · have e:kd="table":=by
          have:=of_decide_eq_true q4
          injection this
        obtain ⟨d0,d1,d2,w1,w2,d4,cols,sps,ew,hs,h60⟩:=htab e
        rw [ew] at hv1
        refine ⟨_,rfl,v,_,_,_,_,_,_,cols,sps,rfl,hv1,hs,fun M H2 hM s2=>⟨_,_,rfl,rfl,?_⟩⟩
        have z:=kz3 H2 (Same.trans s1 s2)
        show Q (.bl (decide ((60:Int) < M))) H2
        rw [decide_eq_false (show ¬ (60:Int) < M by omega)]
        exact z
      · exact kz3 H1 s1)
    refine ⟨_,rfl,v,_,_,_,_,_,_,_,_,_,g,rfl,hv1,_,_,rfl,rfl,_,rfl,ite2 (fun q5=>?_) (fun q5=>iteF (rest (by rw [Bool.eq_false_iff.mpr q5]; rfl)))⟩
    refine ⟨_,rfl,_,rfl,v,kd,_,_,_,_,it,rfl,hv1,_,rfl,ite2 (fun q6=>?_) (fun q6=>?_)⟩
    · have z:=kz3 H1 s1
      rw [q5,q6] at z
      exact z
    · exact rest (by rw [Bool.eq_false_iff.mpr q6,Bool.and_false])
end
end B06
namespace B06
open PySem L2 S2
def spBad (C:Addr):Sp:=fun vs H Q _=>∃ (a:Addr) (v:V),vs=[.ref a,v]∧H a=some (xo C a none)∧∀ dx,H dx=none→Q .non (upd (upd H dx (.xd [("name",v)])) a (xo C a (some dx)))
def tellV (d:D):V:=match d with
  | .str s=>.str s
  | _=>.non
theorem told_at {K:PySem.W.Frag} {H:Hp} {x:V} {d:D} (h:At K H x d.told):x=tellV d.told:=by
  have key:d.told=.non ∨ ∃ s,d.told=.str s:=by
    unfold D.told
    split
    · rename_i n _ _ _
      by_cases q:n.name=true
      · rw [if_pos q]
        cases n with
        | str s=>exact .inr ⟨s,rfl⟩
        | _=>cases q
      · rw [if_neg q]
        exact .inl rfl
    · exact .inl rfl
  rcases key with e | ⟨s,e⟩
  · rw [e] at h ⊢
    cases h
    rfl
  · rw [e] at h ⊢
    cases h
    rfl
def seqE (f:D→List Str→Except D (List Str)):List D→List Str→Except D (List Str)
  | [],n=>.ok n
  | d :: l,n=>match f d n with
    | .ok n'=>seqE f l n'
    | .error x=>.error x
theorem seq_app (f:D→List Str→Except D (List Str)):∀ (a b:List D) (n:List Str),seqE f (a ++ b) n=match seqE f a n with | .ok n'=>seqE f b n' | .error x=>.error x
  | [],b,n=>rfl
  | d :: a,b,n=>by
    show (match f d n with | .ok n'=>seqE f (a ++ b) n' | .error x=>.error x)=match (match f d n with | .ok n'=>seqE f a n' | .error x=>.error x) with | .ok n'=>seqE f b n' | .error x=>.error x
    cases f d n with
    | error x=>rfl
    | ok n'=>exact seq_app f a b n'
def lookF:Nat→D→Int→Bool→List Str→Except D (List Str)
  | 0,_,_,_,_=>.error .oth
  | h + 1,d,dep,it,nms=>if amD d dep it nms=true then .error d.told else seqE (fun p n=>lookF h p (dep + 1) (it || decide (V.str d.kindS=V.str "table")) n) d.parts (nms ++ [d.nameS])
def GoodF:Nat→D→Prop
  | 0,_=>False
  | h + 1,d=>d.ask∧(d.box=true→∀ p ∈ d.parts,GoodF h p)
def spLook (K:PySem.W.Frag) (CT:Addr) (h:Nat):Sp:=fun vs H Q E=>∃ (v:V) (d:D) (dep:Int) (it:Bool) (dN:Addr) (nms:List Str),vs=[v,.int dep,.bl it,.ref dN]∧GoodF h d∧At K H v d∧H dN=some (.dK (kvT nms)) ∧
  (∀ (nms':List Str) (H':Hp),lookF h d dep it nms=.ok nms'→Kp dN H H'→H' dN=some (.dK (kvT nms'))→Q .non H') ∧
  ∀ (r:D) (dx:Addr) (H':Hp),lookF h d dep it nms=.error r→Kp dN H H'→H' dx=some (.xd [("name",tellV r)])→E (.ref CT) (some dx) H'
theorem At.kp {K:PySem.W.Frag} {H H':Hp} {dN:Addr} {kvs kvs':List (Key × V)} (k:Kp dN H H') (hN:H dN=some (.dK kvs)) (hN':H' dN=some (.dK kvs')) {v:V} {d:D} (h:At K H v d):At K H' v d:=by
  induction h with
  | non=>exact .non
  | bl b=>exact .bl b
  | int i=>exact .int i
  | str x hx=>exact .str x hx
  | tup h hl _ ih=>exact .tup (k _ _ (fun z=>by rw [z,hN] at h; cases h) h) hl ih
  | oth h=>exact .oth (k _ _ (fun z=>by rw [z,hN] at h; cases h) h)
theorem putT {nms:List Str} {nm:Str} (h:nm ∉ nms):putK (kvT nms) (.inr nm) (.bl true)=kvT (nms ++ [nm]):=by
  rw [putK_new (.bl true) (by
    have z:=val_kvT (nm:=nm) nms
    rw [decide_eq_false h] at z
    cases e:valV (kvT nms) (.inr nm) with
    | none=>rfl
    | some v=>rw [e] at z; cases z)]
  unfold kvT
  rw [List.map_append]
  rfl
theorem take_seq {f:D→List Str→Except D (List Str)} {l:List D} {i:Nat} {d:D} {n n':List Str} (h:l[i]?=some d) (e:seqE f (l.take i) n=.ok n'):seqE f (l.take (i + 1)) n=f d n':=by
  rw [List.take_succ,h,seq_app,e]
  show (match f d n' with | .ok n''=>seqE f [] n'' | .error x=>.error x)=f d n'
  cases f d n' <;> rfl
theorem seq_stop {f:D→List Str→Except D (List Str)} {l:List D} {i:Nat} {d:D} {n n':List Str} {x:D} (h:l[i]?=some d) (e:seqE f (l.take i) n=.ok n') (hx:f d n'=.error x):seqE f l n=.error x:=by
  have z:seqE f (l.take (i + 1)) n=.error x:=by rw [take_seq h e,hx]
  rw [← List.take_append_drop (i + 1) l,seq_app,z]
theorem amD_no {d:D} {dep:Int} {it:Bool} {nms:List Str} (h:¬ amD d dep it nms=true):d.box=true∧d.nameS ∉ nms∧nms.length < 60:=by
  unfold amD at h
  rw [Bool.not_eq_true,Bool.or_eq_false_iff,Bool.or_eq_false_iff,Bool.or_eq_false_iff,Bool.or_eq_false_iff] at h
  obtain ⟨h0,⟨⟨h1,h2⟩,_⟩,_⟩:=h
  refine ⟨?_,of_decide_eq_false h1,by have:=of_decide_eq_false h2; omega⟩
  cases z:d.box with
  | true=>rfl
  | false=>rw [z] at h0; cases h0
section
variable {P:Program} {w:World} {K:PySem.W.Frag} {mg:Str→Option Value} {base:Heap} {tk:Nat→Tok} {ad:Nat→Addr}
theorem scBad:FnScope ["self","name"] ["self","name"] (defScope sBadboxInit):=⟨rfl,rfl,rfl,by decide +kernel,rfl,by decide +kernel,by decide +kernel⟩
theorem ok_bad {f C:Addr} {fd:FuncData} (F:Fun K "__init__" "BadBox.__init__" sBadboxInit f fd) (ec:ExcC K C) (hf:PySem.W.findIn K (.ref C) "name"=some none):FnOk P w K mg base CX0 1 f fd ["self","name"] (spBad C):=by
  refine F.ok scBad (fun vs H Q E h=>?_) (fun cdv A outer s H vs Q E hr h=>?_)
  · obtain ⟨a,v,e,_⟩:=h
    rw [e]
    rfl
  · obtain ⟨a,v,e,ha,k⟩:=h
    subst e
    refine ⟨_,pss_one (ps_fldX (pv 0) (pv 1) rfl),?_⟩
    exact ⟨_,rfl,_,rfl,a,C,rfl,ha,ec,hf,fun dx hdx=>k dx hdx⟩
abbrev nLook:List Str:=["thing","depth","in_table","names","part"]
theorem scLook:FnScope nLook ["thing","depth","in_table","names"] (defScope sLookThrough):=⟨rfl,rfl,rfl,by decide +kernel,rfl,by decide +kernel,by decide +kernel⟩
set_option maxHeartbeats 16000000 in
theorem ok_look {f f1 f2 f3 f4 f5 CT fI:Addr} {fd d1 d2 d3 d4 d5 dI:FuncData} (F:Fun K "look_through" "look_through" sLookThrough f fd) (N:Names mg) (bS:Binds K fd ["thing","depth","in_table","names"] []) (mS:mg "look_through"=some (.ref f)) (kS:PySem.W.keepIn K (.ref f)=true)
    (O:ownIn K CT fI=true) (hfn:PySem.W.isFn K (.ref fI)=true) (kT:PySem.W.keepIn K (.ref CT)=true) (mT:mg "BadBox"=some (.ref CT)) (GI:FnOk P w K mg base CX0 1 fI dI ["self","name"] (spBad CT)) (bI:Binds K dI ["self","name"] [])
    (G1:FnOk P w K mg base CX0 7 f1 d1 ["thing","depth","in_table","names"] (spAmiss K)) (b1:Binds K d1 ["thing","depth","in_table","names"] []) (m1:mg "is_amiss"=some (.ref f1)) (k1:PySem.W.keepIn K (.ref f1)=true)
    (G2:FnOk P w K mg base CX0 2 f2 d2 ["thing"] (spTold K)) (b2:Binds K d2 ["thing"] []) (m2:mg "name_told"=some (.ref f2)) (k2:PySem.W.keepIn K (.ref f2)=true)
    (G3:FnOk P w K mg base CX0 1 f3 d3 ["box"] (spPart K 1)) (b3:Binds K d3 ["box"] []) (m3:mg "name_of"=some (.ref f3)) (k3:PySem.W.keepIn K (.ref f3)=true)
    (G4:FnOk P w K mg base CX0 1 f4 d4 ["box"] (spPart K 4)) (b4:Binds K d4 ["box"] []) (m4:mg "parts_of"=some (.ref f4)) (k4:PySem.W.keepIn K (.ref f4)=true)
    (G5:FnOk P w K mg base CX0 1 f5 d5 ["box"] (spPart K 0)) (b5:Binds K d5 ["box"] []) (m5:mg "kind_of"=some (.ref f5)) (k5:PySem.W.keepIn K (.ref f5)=true):∀ h:Nat,FnOk P w K mg base (Fly P w) (8 + h) f fd ["thing","depth","in_table","names"] (spLook K CT h)
  | 0=>by
    refine F.okE (k:=7) scLook (fun vs H Q E h=>?_) (fun cdv A outer s H vs Q E hr h=>?_)
    · obtain ⟨v,d,dep,it,dN,nms,e,hh,_⟩:=h
      rw [e]
      rfl
    · obtain ⟨v,d,dep,it,dN,nms,e,hh,_⟩:=h
      exact hh.elim
  | h + 1=>by
    have GS:=ok_look F N bS mS kS O hfn kT mT GI bI G1 b1 m1 k1 G2 b2 m2 k2 G3 b3 m3 k3 G4 b4 m4 k4 G5 b5 m5 k5 h
    refine F.okE (k:=8 + h) scLook (fun vs H Q E h=>?_) (fun cdv A outer s H vs Q E hr hsp=>?_)
    · obtain ⟨v,d,dep,it,dN,nms,e,hh,_⟩:=h
      rw [e]
      rfl
    · obtain ⟨v,d,dep,it,dN,nms,e,hg,hv,hN,q1,q2⟩:=hsp
      subst e
      have hr1:=hr.mono (j:=1) (by omega)
      have hr2:=hr.mono (j:=2) (by omega)
      have hr7:=hr.mono (j:=7) (by omega)
      have hu:(A.deeper (PyProof.Rows.envOfC "look_through" (defScope sLookThrough) s.heap.objs.size f cdv)).units + 1 < cLine:=by have:=hr.units; omega
      refine ⟨_,pss_cons (ps_if (pt_val (pe_call G1 hr7 (by rfl) m1 k1 b1 .nil pass0 (pa_cons (pv 0) (pa_cons (pv 1) (pa_cons (pv 2) (pa_cons (pv 3) pa_nil)))))) (pss_one (ps_raiseI O hfn kT GI hr2 rfl mT bI (pa_cons (pe_call G2 hr2 (by rfl) m2 k2 b2 .nil pass0 (pa_cons (pv 0) pa_nil)) pa_nil))) pss_nil)
        (pss_cons (ps_dput hu (pv 3) (pe_call G3 hr1 (by rfl) m3 k3 b3 .nil pass0 (pa_cons (pv 0) pa_nil)) pe_bl rfl)
        (pss_one (ps_for PassesOwn.leaving rfl (pi_tup (pe_call G4 hr1 (by rfl) m4 k4 b4 .nil pass0 (pa_cons (pv 0) pa_nil))) (pg_name (i:=4) scLook.nd rfl (Or.inl rfl))
          (pss_one (ps_expr (pe_call GS hr (by rfl) mS kS bS .nil (fly_pass fun _ _ _ z=>z) (pa_cons (pv 4) (pa_cons (pe_op op_add (pv 1) pe_int) (pa_cons (pe_or (pv 2) (pe_one (pe_cmpR op_eq (pe_call G5 hr1 (by rfl) m5 k5 b5 .nil pass0 (pa_cons (pv 0) pa_nil)) pe_str (nomark _)))) (pa_cons (pv 3) pa_nil)))))))))),?_⟩
      obtain ⟨hg,hgs⟩:=hg
      have hN1:∀ H1,Same H H1→H1 dN=some (.dK (kvT nms)):=fun H1 s1=>s1 _ _ hN
      refine ⟨_,rfl,_,rfl,_,rfl,_,rfl,v,d,dep,it,dN,nms,rfl,hv,hg,.inl hN,fun H1 s1=>⟨_,rfl,ite2 (fun ha=>?_) (fun ha=>?_)⟩⟩
      · refine ⟨_,rfl,v,d,rfl,hv.same s1,fun x H2 s2 hx=>⟨by show 1 ≤ 1000; decide,fun a hA=>?_⟩⟩
        have ex:=told_at hx
        subst ex
        refine ⟨a,_,rfl,upd_same,fun dd hd=>⟨rfl,dd,upd_same,?_⟩⟩
        have nda:dd ≠ a:=fun z=>by rw [z,upd_same] at hd; cases hd
        have hd3:H2 dd=none:=by rw [upd_ne nda] at hd; exact hd
        refine q2 d.told dd _ (by rw [lookF,if_pos ha]) (fun b o _ e=>?_) ?_
        · have e3:=Same.trans s1 s2 b o e
          rw [del_ne (ne_of_none e3 hA),upd_ne (ne_of_none e3 hA),upd_ne (ne_of_none e3 hd3),upd_ne (ne_of_none e3 hA)]
          exact e3
        · rw [del_ne nda,upd_ne nda,upd_same]
      · obtain ⟨hb,hno,hlt⟩:=amD_no ha
        have hgs:=hgs hb
        have elook:lookF (h + 1) d dep it nms=seqE (fun p n=>lookF h p (dep + 1) (it || decide (V.str d.kindS=V.str "table")) n) d.parts (nms ++ [d.nameS]):=by rw [lookF,if_neg ha]
        rw [elook] at q1 q2
        clear elook ha hg
        obtain ⟨kd,nm,oa,ob,oc,oe,of,og,wh,l,rfl,hnm,hwh⟩:=box_is hb
        have hno:nm ∉ nms:=hno
        have hgs:∀ p ∈ l,GoodF h p:=hgs
        have q1:∀ (nms':List Str) (H':Hp),seqE (fun p n=>lookF h p (dep + 1) (it || decide (V.str kd=V.str "table")) n) l (nms ++ [nm])=.ok nms'→Kp dN H H'→H' dN=some (.dK (kvT nms'))→Q .non H':=q1
        have q2:∀ (r:D) (dx:Addr) (H':Hp),seqE (fun p n=>lookF h p (dep + 1) (it || decide (V.str kd=V.str "table")) n) l (nms ++ [nm])=.error r→Kp dN H H'→H' dx=some (.xd [("name",tellV r)])→E (.ref CT) (some dx) H':=q2
        have hv1:=hv.same s1
        have hNa:=hN1 H1 s1
        refine ⟨_,rfl,_,rfl,v,_,_,rfl,hv1,rfl,fun x g=>?_⟩
        cases g
        refine ⟨dN,_,rfl,DPut.k (k:=.inr nm) hNa (small (by rw [kvT_len]; omega)),?_⟩
        rw [putT hno]
        have k12:Kp dN H1 (upd H1 dN (.dK (kvT (nms ++ [nm])))):=Kp.store
        have hN2:(upd H1 dN (.dK (kvT (nms ++ [nm])))) dN=some (.dK (kvT (nms ++ [nm]))):=upd_same
        generalize upd H1 dN (.dK (kvT (nms ++ [nm])))=H2 at *
        have hv2:=hv1.kp k12 hNa hN2
        have k02:Kp dN H H2:=(Kp.of s1).trans k12
        refine ⟨_,rfl,v,_,_,rfl,hv2,rfl,fun x g=>?_⟩
        cases g with
        | @tup p xs l hp hlen hit =>
          have npN:p ≠ dN:=fun z=>by rw [z,hN2] at hp; cases hp
          refine ⟨p,rfl,⟨_,SqT.of hp⟩,for_tup (K:=K) (a:=p) (xs:=xs) (fun i σ G=>∃ (v4:Option V) (nm':List Str),σ=[some v,some (.int dep),some (.bl it),some (.ref dN),v4]∧Kp dN H2 G∧G dN=some (.dK (kvT nm'))∧seqE (fun p n=>lookF h p (dep + 1) (it || decide (V.str kd=V.str "table")) n) (l.take i) (nms ++ [nm])=.ok nm') ⟨none,_,rfl,Kp.refl _,hN2,rfl⟩ (fun i σ G _ ⟨_,_,_,kG,_⟩=>SqT.of (kG _ _ npN hp)) ?_ ?_⟩
          · rintro i y σ G hy ⟨v4,nm',rfl,kG,hG,hr'⟩
            have hi:i < l.length:=by rw [← hlen]; exact get_lt hy
            obtain ⟨b,eb⟩:∃ b,l[i]?=some b:=⟨_,List.getElem?_eq_getElem hi⟩
            have hyG:=(hit i y _ hy eb).kp kG hN2 hG
            have hvG:=hv2.kp kG hN2 hG
            have hgb:=hgs b (List.mem_of_getElem? eb)
            have ok1:∀ c nms',c=(it || decide (V.str kd=V.str "table"))→lookF h b (dep + 1) c nm'=.ok nms'→seqE (fun p n=>lookF h p (dep + 1) (it || decide (V.str kd=V.str "table")) n) (l.take (i + 1)) (nms ++ [nm])=.ok nms':=fun c nms' ec e=>by subst ec; exact (take_seq eb hr').trans e
            have no1:∀ c x,c=(it || decide (V.str kd=V.str "table"))→lookF h b (dep + 1) c nm'=.error x→seqE (fun p n=>lookF h p (dep + 1) (it || decide (V.str kd=V.str "table")) n) l (nms ++ [nm])=.error x:=fun c x ec e=>by subst ec; exact seq_stop eb hr' e
            refine ⟨_,rfl,_,rfl,_,_,rfl,rfl,_,rfl,it,rfl,ite2 (fun hit'=>?_) (fun hit'=>?_)⟩
            · have ec:true=(it || decide (V.str kd=V.str "table")):=by rw [hit',Bool.true_or]
              exact ⟨_,rfl,y,b,dep + 1,true,dN,nm',rfl,hgb,hyG,hG,fun nms' H' e kp' hn'=>(show ∃ (v4:Option V) (nm':List Str),_ from ⟨_,nms',rfl,kG.trans kp',hn',ok1 _ nms' ec e⟩),fun x dx H' e kp' hx=>q2 x dx H' (no1 _ x ec e) (k02.trans (kG.trans kp')) hx⟩
            · have ec:decide (V.str kd=V.str "table")=(it || decide (V.str kd=V.str "table")):=by rw [Bool.eq_false_iff.mpr hit',Bool.false_or]
              refine ⟨_,rfl,v,_,_,rfl,hvG,rfl,fun x g=>?_⟩
              cases g
              exact ⟨rfl,_,rfl,y,b,dep + 1,_,dN,nm',rfl,hgb,hyG,hG,fun nms' H' e kp' hn'=>(show ∃ (v4:Option V) (nm':List Str),_ from ⟨_,nms',rfl,kG.trans kp',hn',ok1 _ nms' ec e⟩),fun x dx H' e kp' hx=>q2 x dx H' (no1 _ x ec e) (k02.trans (kG.trans kp')) hx⟩
          · rintro σ G ⟨v4,nm',rfl,kG,hG,hr'⟩
            rw [hlen,List.take_length] at hr'
            exact q1 nm' G hr' (k02.trans kG) hG
end
end B06
namespace B06
open PySem L2 S2
def spCheck (K:PySem.W.Frag) (CT:Addr):Sp:=fun vs H Q E=>∃ (v:V) (d:D),vs=[v]∧GoodF 12 d∧At K H v d∧(∀ (nms':List Str) (H':Hp),lookF 12 d 1 false []=.ok nms'→Same H H'→Q .non H') ∧
  ∀ (r:D) (dx:Addr) (H':Hp),lookF 12 d 1 false []=.error r→Same H H'→H' dx=some (.xd [("name",tellV r)])→E (.ref CT) (some dx) H'
section
variable {P:Program} {w:World} {K:PySem.W.Frag} {mg:Str→Option Value} {base:Heap} {tk:Nat→Tok} {ad:Nat→Addr}
theorem scCheck:FnScope ["thing"] ["thing"] (defScope sCheckTree):=⟨rfl,rfl,rfl,by decide +kernel,rfl,by decide +kernel,by decide +kernel⟩
theorem ok_check {f f1 CT:Addr} {fd d1:FuncData} (F:Fun K "check_tree" "check_tree" sCheckTree f fd)
    (G1:FnOk P w K mg base (Fly P w) 20 f1 d1 ["thing","depth","in_table","names"] (spLook K CT 12)) (b1:Binds K d1 ["thing","depth","in_table","names"] []) (m1:mg "look_through"=some (.ref f1)) (k1:PySem.W.keepIn K (.ref f1)=true):FnOk P w K mg base (Fly P w) 21 f fd ["thing"] (spCheck K CT):=by
  refine F.okE scCheck (fun vs H Q E h=>?_) (fun cdv A outer s H vs Q E hr h=>?_)
  · obtain ⟨v,d,e,_⟩:=h
    rw [e]
    rfl
  · obtain ⟨v,d,e,hg,hv,q1,q2⟩:=h
    subst e
    refine ⟨_,pss_one (ps_expr (pe_call G1 hr (by rfl) m1 k1 b1 .nil (fly_pass fun _ _ _ z=>z) (pa_cons (pv 0) (pa_cons pe_int (pa_cons pe_bl (pa_cons pe_dnewK pa_nil)))))),?_⟩
    refine ⟨_,rfl,fun dN hdN=>?_⟩
    have s1:Same H (upd H dN (.dK (kvT []))):=Same.put (Same.refl _) hdN
    have h1:(upd H dN (.dK (kvT []))) dN=some (.dK (kvT [])):=upd_same
    have kp:∀ H',Kp dN (upd H dN (.dK (kvT []))) H'→Same H H':=fun H' k b o e=>k b o (ne_of_none e hdN) (s1 b o e)
    exact ⟨v,d,1,false,dN,[],rfl,hg,hv.same s1,h1,fun nms' H' e k _=>q1 nms' H' e (kp H' k),fun nm dx H' e k hx=>q2 nm dx H' e (kp H' k) hx⟩
end
end B06
namespace L2
open PySem PySem.Spec PyProof.Rows
section
variable {es:List Expr} {env:Env}
theorem star_tup {a k p}:starEach (Expr.Tuple a k p :: es) env=(false,eval (Expr.Tuple a k p) env) :: starEach es env:=rfl
theorem star_lst {a p}:starEach (Expr.List a p :: es) env=(false,eval (Expr.List a p) env) :: starEach es env:=rfl
theorem star_con {a k p}:starEach (Expr.Constant a k p :: es) env=(false,eval (Expr.Constant a k p) env) :: starEach es env:=rfl
theorem star_nam {a p}:starEach (Expr.Name a p :: es) env=(false,eval (Expr.Name a p) env) :: starEach es env:=rfl
theorem star_bin {a o b p}:starEach (Expr.BinOp a o b p :: es) env=(false,eval (Expr.BinOp a o b p) env) :: starEach es env:=rfl
theorem star_cal {f a k p}:starEach (Expr.Call f a k p :: es) env=(false,eval (Expr.Call f a k p) env) :: starEach es env:=rfl
theorem star_sub {f a p}:starEach (Expr.Subscript f a p :: es) env=(false,eval (Expr.Subscript f a p) env) :: starEach es env:=rfl
end
structure PEo (X:Cx) (e:Expr) (t:TE):Prop where
  out:PE X e t
structure PAo (X:Cx) (e:List Expr) (t:TA):Prop where
  out:PA X e t
structure PSo (X:Cx) (e:Stmt) (t:TS):Prop where
  out:PS X e t
structure PSso (X:Cx) (e:List Stmt) (t:TS):Prop where
  out:PSs X e t
structure PTo (X:Cx) (e:Expr) (t:TT):Prop where
  out:PT X e t
structure POo (X:Cx) (e:Option Expr) (t:TO):Prop where
  out:PO X e t
theorem pvO (i:Nat) {x:Str} {pos:Pos} (hN:X.N[i]?=some x:=by rfl) (hv:Vis X.env.scope x:=by first | exact Or.inl rfl | exact Or.inr (Or.inl rfl) | exact Or.inr (Or.inr rfl)) (hd:(x == ("__debug__":Str))=false:=by decide) (hcd:(x == ("__classdict__":Str))=false:=by decide):PEo X (.Name x pos) (tVar i):=⟨pv i hN hv hd hcd⟩
theorem pe_intO {i j pos}:PEo X (.Constant (.int i) j pos) (tC (.int i)):=⟨pe_int ⟩
theorem pe_nonO {j pos}:PEo X (.Constant .none j pos) (tC .non):=⟨pe_non ⟩
theorem pe_strO {x j pos}:PEo X (.Constant (.str x) j pos) (tC (.str x)):=⟨pe_str ⟩
theorem pe_tupO {x1} (h:PAo X es t):PEo X (.Tuple es x1 pos) (tTup t):=⟨pe_tup h.out⟩
theorem pe_lstO (h:PAo X es t):PEo X (.List es pos) (tLst t):=⟨pe_lst h.out⟩
theorem pe_opO {op:Operator} {r:R2} (ho:OpR X (binaryOp op) r) (ha:PEo X a ta) (hb:PEo X b tb):PEo X (.BinOp a op b pos) (tOp r ta tb):=⟨pe_op ho ha.out hb.out⟩
theorem pe_unO {op:UnaryOp} {r:V→Hp→VK→Prop} (ho:UnR X (unaryOp op) r) (ha:PEo X a ta):PEo X (.UnaryOp op a pos) (tUn r ta):=⟨pe_un ho ha.out⟩
theorem pe_callO (F:FnOk X.prog X.w X.K X.mg X.base CX k f fd ps sp) (hr:Room k X.A) (hg:Gl X x) (hm:X.mg x=some (.ref f)) (hk:PySem.W.keepIn X.K (.ref f)=true) (hb:Binds X.K fd ps ds) (hd:Vals dvs ds) (hx:Passes CX X E) (ha:PAo X (e :: es) t) (hdb:(x == ("__debug__":Str))=false:=by decide) (he:starEach (e :: es) X.env=(false,eval e X.env) :: starEach es X.env:=by first | exact star_tup | exact star_con | exact star_nam | exact star_bin | exact star_lst | exact star_un | exact star_cal | exact star_sub | rfl) (hpl:(backTo pos (starEach es X.env)).any (·.1)=false:=by rfl):PEo X (.Call (.Name x p) (e :: es) [] pos) (tCall sp dvs E t):=⟨pe_call F hr hg hm hk hb hd hx ha.out hdb he hpl⟩
theorem pe_callTyO (hc:CallR X (.type T) r) (hg:Gl X x) (hm:X.mg x=none) (hv:bootBuiltins x=some (.type T)) (ha:PAo X (e :: es) t) (hn:x ≠ "__name__":=by decide) (hdb:(x == ("__debug__":Str))=false:=by decide) (he:starEach (e :: es) X.env=(false,eval e X.env) :: starEach es X.env:=by first | exact star_tup | exact star_con | exact star_nam | exact star_bin | exact star_lst | exact star_un | exact star_cal | exact star_sub | rfl) (hpl:(backTo pos (starEach es X.env)).any (·.1)=false:=by rfl):PEo X (.Call (.Name x p) (e :: es) [] pos) (tCB r t):=⟨pe_callTy hc hg hm hv ha.out hn hdb he hpl⟩
theorem pe_sliceO {lo hi:Option Expr} {r:V→Option Int→Option Int→Hp→VK→Prop} (hr:SlR X r) (he:PEo X e te) (hl:POo X lo tl) (hu:POo X hi th):PEo X (.Subscript e (.Slice lo hi none p2) pos) (tSl r te tl th):=⟨pe_slice hr he.out hl.out hu.out⟩
theorem po_noneO :POo X none tNoPart:=⟨po_none ⟩
theorem po_someO (h:PEo X e te):POo X (some e) (tPart te):=⟨po_some h.out⟩
theorem pe_ixO {r:R2} (hr:IxR X r) (ha:PEo X a ta) (hb:PEo X b tb) (hs:PlainIx b):PEo X (.Subscript a b pos) (tOp r ta tb):=⟨pe_ix hr ha.out hb.out hs⟩
theorem ps_setO {i:Nat} {x:Str} {e:Expr} {te:TE} {pos':Pos} (hN:X.N.Nodup) (hi:X.N[i]?=some x) (hx:Loc X.env.scope x) (he:PEo X e te) (hs:swapsWith e (some (.Name x pos')) pos.line X.env=pure false:=by rfl) (hf:X.fn x=true ∨ X.env.scope.names.lookup x=some .local:=by first | exact .inl rfl | exact .inr rfl | assumption):PSo X (.Assign [.Name x pos'] e pos) (tAsg te (gName i)):=⟨ps_set hN hi hx he.out hs hf⟩
theorem ps_asgO {tg e:Expr} {te:TE} {g:TG} (he:PEo X e te) (hg:PG X tg g) (hs:swapsWithSole [tg] e pos.line X.env=pure false:=by rfl) (hw:swappedStores [tg] e X.env=pure none:=by rfl) (h1:(assignEach [tg] X.env).map (·.2)=[assign tg X.env]:=by rfl):PSo X (.Assign [tg] e pos) (tAsg te g):=⟨ps_asg he.out hg hs hw h1⟩
theorem ps_retO (he:PEo X e te):PSo X (.Return (some e) pos) (tRet te):=⟨ps_ret he.out⟩
theorem ps_ifO {c:Expr} {a b:List Stmt} {tc:TT} (hc:PTo X c tc) (ha:PSso X a t) (hb:PSso X b u):PSo X (.If c a b pos) (tIfS tc t u):=⟨ps_if hc.out ha.out hb.out⟩
theorem pt_cmpRO {op:CmpOp} {r:R2} (ho:OpR X (compareOp op) r) (ha:PEo X a ta) (hb:PEo X b tb) (hm:behindInMarks op b=false):PTo X (.Compare a [op] [b] pos) (tTest (tOp r ta tb)):=⟨pt_cmpR ho ha.out hb.out hm⟩
theorem pss_consO {st:Stmt} {rest:List Stmt} (h1:PSo X st t) (h2:PSso X rest u):PSso X (st :: rest) (tSeq t u):=⟨pss_cons h1.out h2.out⟩
theorem pss_oneO {st:Stmt} (h1:PSo X st t):PSso X [st] t:=⟨pss_one h1.out⟩
theorem pss_nilO :PSso X [] tNext:=⟨pss_nil ⟩
theorem pa_nilO :PAo X [] tNil:=⟨pa_nil ⟩
theorem pa_consO (ha:PEo X e te) (hr:PAo X es t) (hs:starEach (e :: es) X.env=(false,eval e X.env) :: starEach es X.env:=by first | exact star_tup | exact star_con | exact star_nam | exact star_bin | exact star_lst | exact star_un | exact star_cal | exact star_sub | rfl):PAo X (e :: es) (tCons te t):=⟨pa_cons ha.out hr.out hs⟩
theorem Fun.okO {P:Program} {w:World} {K:PySem.W.Frag} {mg:Str→Option Value} {base:Heap} {x qual:Str} {st:Stmt} {f:Addr} {fd:FuncData} {N ps:List Str} {k:Nat} {sp:Sp} (F:Fun K x qual st f fd) (S:FnScope N ps (defScope st)) (len:∀ vs H Q E,sp vs H Q E→vs.length=ps.length)
    (hbody:∀ (cdv:Value) (A:Around) (outer:List Env) (s:Shared) (H:Hp) (vs:List V) (Q:VK) (E:XK),Room k (A.deeper (envOfC qual (defScope st) s.heap.objs.size f cdv))→sp vs H Q E →
      ∃ t,PSso (cxOf CX0 P w K mg base N qual (defScope st) f cdv A outer s H E).nox (defBody st) t∧t { nx:=fun _ H'=>Q .non H',rt:=Q } (start N vs) H):FnOk P w K mg base CX0 (k + 1) f fd ps sp :=
  F.ok S len fun cdv A outer s H vs Q E hr h=>by
    obtain ⟨t,⟨hd⟩,hw⟩:=hbody cdv A outer s H vs Q E hr h
    exact ⟨t,hd,hw⟩
end L2
namespace L2
open PySem PySem.Spec PySem.W PyProof.Rows
section
variable {X:Cx}
def cutS (z:Str) (lo hi:Option Int):Str:=if (Builtin.Str.strSliceIndices lo hi 1 z.length).length == z.length then z else ⟨((Builtin.Str.strSliceIndices lo hi 1 z.length).filterMap (z.cps[·]?)).toArray⟩
theorem cutS_le (z:Str) (lo hi:Option Int):(cutS z lo hi).length ≤ z.length:=by
  unfold cutS
  split
  · exact Nat.le_refl _
  · show ((Builtin.Str.strSliceIndices lo hi 1 z.length).filterMap (z.cps[·]?)).toArray.size ≤ _
    rw [List.size_toArray]
    exact Nat.le_trans (List.length_filterMap_le _ _) (sliceIndices_le _ _ _)
def rSlX:V→Option Int→Option Int→Hp→VK→Prop:=fun x lo hi H Q=>∃ z,x=.str z∧z.length ≤ sizeLine∧Q (.str (cutS z lo hi)) H
theorem sl_strX:SlR X rSlX:=by
  intro pins s σ H x v vl vu lo hi sl Q I rx hs pl pu h
  obtain ⟨z,e1,hz,q⟩:=h
  subst e1
  obtain ⟨t,e2⟩:=(show ∃ t,v=Value.str z t from rx)
  subst e2
  refine ⟨"str",_,F.slot_str_getitem.lookup,typeIs_str s z t,?_⟩
  have parts:∀ {v:Value} {o:Option Int},IsPart v o→∃ l:Option (Int × Tok),v=partValue l∧l.map (·.1)=o:=fun {v o} p=>by
    cases p with
    | none=>exact ⟨none,rfl,rfl⟩
    | int i t=>exact ⟨some (i,t),rfl,rfl⟩
  obtain ⟨l,el,ml⟩:=parts pl
  obtain ⟨u,eu,mu⟩:=parts pu
  subst el eu
  refine wpAny_getItem_str_slice (l:=l) (u:=u) (st:=none) hs rfl ?_
  have le:=cutS_le z lo hi
  have ep:slicePicked z l u none=Builtin.Str.strSliceIndices lo hi 1 z.length:=by unfold slicePicked; rw [ml,mu]; rfl
  unfold sliceMade
  rw [ep]
  unfold cutS at q le
  by_cases c:((Builtin.Str.strSliceIndices lo hi 1 z.length).length == z.length)=true
  · rw [if_pos (by rw [c]; rfl)]
    rw [if_pos c] at q
    exact ⟨.str z,H,I,⟨t,rfl⟩,q⟩
  · rw [if_neg (by intro w; exact c (by simpa using w))]
    rw [if_neg c] at q le
    exact ⟨Nat.le_trans le hz,.str _,H,I.tok _,⟨_,rfl⟩,q⟩
end
end L2
namespace L2
open PySem
section
variable {prog:Program} {w:World} {A:Around} {R:Result→Shared→Prop} {I Z:Addr} {fp wr:List Addr} {n:Nat} {P:Nat→Value→Prop} {St:Nat→Heap→Prop} {Ok:Heap→Prop}
end
section
variable {prog:Program} {w:World} {A:Around} {E:Value→Shared→Prop} {s:Shared}
end
end L2
namespace L2
open PySem PySem.Spec PySem.W PyProof.Rows
section
variable {X:Cx}
end
end L2
namespace DV
open PySem PySem.W PyProof.Rows
section
variable {prog:Program} {w:World} {A:Around} {E:Value→Shared→Prop} {s:Shared} {Q:Value→Shared→Prop}
end
open PySem.SeqAt
open PySem.AutoSeq1 (wpAny_loadPart')
open PySem.MeetsSeq PySem.MeetsSeq2 PySem.MeetsSeq3
section
variable {prog:Program} {w:World} {A:Around} {E:Value→Shared→Prop} {s:Shared}
end
end DV
namespace DV
open PySem
end DV
namespace L2
open PySem PySem.Spec PySem.W PyProof.Rows
section
variable {X:Cx}
end
end L2
namespace L2
open PySem PySem.Spec PySem.W PyProof.Rows
section
variable {X:Cx}
end
end L2
namespace L2
open PySem PySem.Spec PyProof.Rows
theorem tuple_addW0 (l b:Addr) (items items2:Array Value) (n n2:Nat) (dd dd2:Option Addr) (sl sl2:Array (Option Value)) (hc0:items.isEmpty=true) :
    Meets (Builtin.«tuple.__add__» ⟨[.ref l,.ref b],[]⟩) (fun _ R s=>s.heap.get? l=some { cls:=.type "tuple",dict:=dd,data:=.seq items n,slots:=sl }∧s.heap.get? b=some { cls:=.type "tuple",dict:=dd2,data:=.seq items2 n2,slots:=sl2 }∧R (.ok (.ret (Value.ref b))) { s with heap:=s.heap,toks:=s.toks }) :=
  .of_wp fun prog w A R s h=>by obtain ⟨hp,g,d,tk,os⟩:=s; obtain ⟨hl,hb,h⟩:=h; have f1:=AutoSeq1.idx_int; have f2:=AutoSeq1.sub_tuple_tuple; have f3:=AutoSeq1.sub_list_list; have f4:=AutoSeq1.sub_tuple_list; have f5:=AutoSeq1.sub_list_tuple; wp_walk using wpAny_loadPart' hl,wpAny_loadPart' hb; exact ⟨_,rfl,h⟩
section
variable {X:Cx}
def rCatT0 (K:PySem.W.Frag):R2:=fun x y H Q=>∃ a b ys,x=.ref a∧y=.ref b∧SqT K H a []∧SqT K H b ys∧Q (.ref b) H
theorem op_catT0:OpR X (binaryOp .Add) (rCatT0 X.K):=by
  intro pins s σ H x y v u Q I rx ry h
  obtain ⟨a,b,ys,rfl,rfl,ha,hb,q⟩:=h
  cases rx
  cases ry
  obtain ⟨its,r1,p1,_⟩:=I.tuple ha
  obtain ⟨its2,r2,p2,_⟩:=I.tuple hb
  cases r1
  obtain ⟨⟨cls,dd,data,sl⟩,ho,hc,n,hd⟩:=id p1
  obtain ⟨⟨cls2,dd2,data2,sl2⟩,ho2,hc2,n2,hd2⟩:=id p2
  simp only at hc hd hc2 hd2
  subst hc hd hc2 hd2
  exact concat_meets ⟨_,ho,rfl⟩ ⟨_,ho2,rfl⟩ noFill_tuple_add seq_tuple_add PySem.F.slot_tuple_add PySem.F.entry_tuple_add (PySem.F.args_tuple_add_2 _ _)
      (tuple_addW0 a b _ _ n n2 dd dd2 sl sl2 rfl) ⟨ho,ho2,⟨.ref b,H,I,rfl,q⟩⟩
def rCatA (K:PySem.W.Frag):R2:=fun x y H Q=>∃ a b xs ys,x=.ref a∧y=.ref b∧SqT K H a xs∧SqT K H b ys∧xs.length + ys.length ≤ sizeLine∧(xs=[]→Q (.ref b) H)∧(xs ≠ []→ys=[]→Q (.ref a) H)∧(∀ p,H p=none→Q (.ref p) (upd H p (.tup (xs ++ ys))))
theorem op_catA:OpR X (binaryOp .Add) (rCatA X.K):=by
  intro pins s σ H x y v u Q I rx ry h
  obtain ⟨a,b,xs,ys,rfl,rfl,ha,hb,hz,q0,q1,q2⟩:=h
  by_cases e:xs=[]
  · subst e
    exact op_catT0 pins s σ H _ _ v u Q I rx ry ⟨a,b,ys,rfl,rfl,ha,hb,q0 rfl⟩
  · exact op_catT pins s σ H _ _ v u Q I rx ry ⟨a,b,xs,ys,rfl,rfl,ha,hb,e,hz,q1 e,fun _=>q2⟩
end
end L2
namespace L2
open PySem PySem.Spec PyProof.Rows
theorem vals_refs:∀ {ds:List Addr} {us:List Value},Vals (ds.map V.ref) us→us=ds.map Value.ref
  | [],_,.nil=>rfl
  | d :: ds,_,.cons r1 r2=>by
    have e:_=Value.ref d:=r1
    rw [e,vals_refs r2]
    rfl
section
variable {X:Cx}
def rInstXs (K:PySem.W.Frag):List V→Hp→VK→Prop:=fun xs H Q=>∃ (a C tp:Addr) (ds:List Addr) (od:Option Addr) (b:Bool),xs=[.ref a,.ref tp]∧H a=some (xh C a od)∧(∀ dx,od=some dx→∃ fs,H dx=some (.xd fs))∧ExcC K C∧SqT K H tp (ds.map V.ref)∧PySem.W.kitAny K (.ref C) (ds.map Value.ref)=some b∧Q (.bl b) H
theorem call_isinstXs:CallR X (.builtin "isinstance") (rInstXs X.K):=by
  intro pins s σ H xs us Q I r h
  obtain ⟨a,C,tp,ds,od,b,e1,ea,ed,ec,ht,ek,q⟩:=h
  subst e1
  obtain ⟨u,v,e3,r1,r2⟩:=vals2 r
  subst e3
  obtain rfl:u=Value.ref a:=r1
  obtain rfl:v=Value.ref tp:=r2
  obtain ⟨o,e1,e2,e3,e4⟩:=xh_get I.hok ea
  have IA:∃ ox od,PySem.W.InstAt s.heap a ox C od:=by
    cases od with
    | none=>exact ⟨o,none,e1,e2,e4,by rw [e3]; exact True.intro⟩
    | some dx =>
      obtain ⟨fs,hfs⟩:=ed dx rfl
      obtain ⟨ob,hob⟩:=(I.hok dx _ hfs).ex
      exact ⟨o,some ob,e1,e2,e4,by rw [e3]; exact hob⟩
  obtain ⟨its,rv,p1,_⟩:=I.tuple ht
  have e:=vals_refs rv
  subst e
  obtain ⟨⟨cls,dd,data,sl⟩,ho,hc,n,hd⟩:=id p1
  simp only at hc hd
  subst hc hd
  exact PySem.W.kia_tup (kitx_exc ec) I.kIn IA ho ek (fun z=>nomatch z) fun tk=>⟨.bl b,H,I.tok tk,rfl,q⟩
end
end L2
namespace L2
open PySem PySem.Spec PyProof.Rows
end L2
namespace B06
open PySem L2 S2
def Ats (K:PySem.W.Frag) (H:Hp) (xs:List V) (ds:List D):Prop:=xs.length=ds.length∧∀ (j:Nat) (x:V) (d:D),xs[j]?=some x→ds[j]?=some d→At K H x d
theorem At.kpL {K:PySem.W.Frag} {H H':Hp} {dN:Addr} {xs ys:List V} (k:Kp dN H H') (hN:H dN=some (.lst xs)) (hN':H' dN=some (.lst ys)) {v:V} {d:D} (h:At K H v d):At K H' v d:=by
  induction h with
  | non=>exact .non
  | bl b=>exact .bl b
  | int i=>exact .int i
  | str x hx=>exact .str x hx
  | tup h hl _ ih=>exact .tup (k _ _ (fun z=>by rw [z,hN] at h; cases h) h) hl ih
  | @oth a es h =>
    by_cases q:a=dN
    · subst q
      exact .oth hN'
    · exact .oth (k _ _ q h)
theorem Ats.nil {K:PySem.W.Frag} {H:Hp}:Ats K H [] []:=⟨rfl,fun j x d e=>nomatch e⟩
theorem Ats.same {K:PySem.W.Frag} {H H':Hp} {xs:List V} {ds:List D} (h:Ats K H xs ds) (s:Same H H'):Ats K H' xs ds:=⟨h.1,fun j x d e1 e2=>(h.2 j x d e1 e2).same s⟩
theorem Ats.snoc {K:PySem.W.Frag} {H:Hp} {xs:List V} {ds:List D} {x:V} {d:D} (h:Ats K H xs ds) (hx:At K H x d):Ats K H (xs ++ [x]) (ds ++ [d]):=by
  refine ⟨by rw [List.length_append,List.length_append,h.1]; rfl,fun j y e e1 e2=>?_⟩
  by_cases q:j < xs.length
  · rw [List.getElem?_append_left q] at e1
    rw [List.getElem?_append_left (by rw [← h.1]; exact q)] at e2
    exact h.2 j y e e1 e2
  · rw [List.getElem?_append_right (by omega)] at e1
    rw [List.getElem?_append_right (by rw [← h.1]; omega),← h.1] at e2
    have e0:j - xs.length=0:=by
      have:=get_lt e1
      simp at this
      omega
    rw [e0] at e1 e2
    cases e1
    cases e2
    exact hx
theorem Ats.tup {K:PySem.W.Frag} {H:Hp} {a:Addr} {xs:List V} {ds:List D} (h:Ats K H xs ds) (e:H a=some (.tup xs)):At K H (.ref a) (.tup ds):=.tup e h.1 h.2
theorem comp_At {α:Type} {K:PySem.W.Frag} {J:It} {l:List α} {tt:TT} {te:TE} {σ:St} {H:Hp} {Q:VK} (inj:α→V) (f:α→D) (hJ:IsIt J H (l.map inj)) (hn:l.length < sizeLine)
    (ht:∀ (x:α) (H':Hp) (Q':Bool→Hp→Prop),x ∈ l→Same H H'→(∀ H'',Same H' H''→Q' true H'')→tt (some (inj x) :: σ) H' Q')
    (he:∀ (x:α) (H':Hp) (Q':VK),x ∈ l→Same H H'→(∀ v H'',Same H' H''→At K H'' v (f x)→Q' v H'')→te (some (inj x) :: σ) H' Q')
    (hd:∀ (DD:Addr) (xs:List V) (H':Hp),H DD=none→Same H H'→H' DD=some (.lst xs)→Ats K H' xs (l.map f)→Q (.ref DD) H'):CompGo J H σ tt te Q:=by
  intro DD hD
  refine ⟨fun i m H'=>m=l.length - i∧i ≤ l.length∧Same H H'∧∃ xs:List V,H' DD=some (.lst xs)∧Ats K H' xs ((l.take i).map f),⟨_,rfl,Nat.zero_le _,Same.put1 (Same.refl H) hD,[],upd_same,.nil⟩,?_⟩
  rintro i m H' ⟨rfl,hi,s1,xs,hl,hr⟩
  by_cases hlt:i < l.length
  · refine .inr ⟨hJ.1 i H' s1 (by rw [List.length_map]; exact hlt),fun x H2 y=>?_⟩
    obtain ⟨e,eu⟩:=hJ.2.2 i x H' H2 s1 y
    subst e
    have ex:l[i]?=some l[i]:=List.getElem?_eq_getElem hlt
    rw [List.getElem?_map,ex] at eu
    cases eu
    have hm:=List.mem_of_getElem? ex
    generalize l[i]=x at *
    refine ht x _ _ hm s1 fun H3 s3=>iteT (he x _ _ hm (Same.trans s1 s3) fun v H4 s4' hv=>?_)
    have s4:=Same.trans s3 s4'
    have hl4:=s4 _ _ hl
    have hr4:=hr.same s4
    have k5:Kp DD H4 (upd H4 DD (.lst (xs ++ [v]))):=Kp.store
    refine ⟨_,hl4,?_,_,Nat.sub_succ_lt_self _ _ hlt,rfl,hlt,Same.put1 (Same.trans s1 s4) hD,xs ++ [v],upd_same,?_⟩
    · rw [hr.1,List.length_map,List.length_take]
      omega
    · rw [List.take_succ,ex,List.map_append]
      exact Ats.snoc ⟨hr4.1,fun j x d e1 e2=>(hr4.2 j x d e1 e2).kpL k5 hl4 upd_same⟩ (hv.kpL k5 hl4 upd_same)
  · have e:i=l.length:=by omega
    have:=hJ.2.1 H' s1
    rw [List.length_map] at this
    rw [e]
    refine .inl ⟨this,?_⟩
    rw [e,List.take_length] at hr
    exact hd DD xs H' hD s1 hl hr
def Ev (K:PySem.W.Frag) (σ:St) (H0:Hp) (te:TE) (d:D):Prop:=∀ (H:Hp) (Q:VK),Same H0 H→(∀ v H',Same H H'→At K H' v d→Q v H')→te σ H Q
def EvL (K:PySem.W.Frag) (σ:St) (H0:Hp) (ta:TA) (ds:List D):Prop:=∀ (H:Hp) (Q:List V→Hp→Prop),Same H0 H→(∀ xs H',Same H H'→Ats K H' xs ds→Q xs H')→ta σ H Q
def EvS (K:PySem.W.Frag) (σ:St) (H0:Hp) (te:TE) (ds:List D):Prop:=∀ (H:Hp) (Q:VK),Same H0 H→(∀ l xs H',Same H H'→H' l=some (.lst xs)→Ats K H' xs ds→Q (.ref l) H')→te σ H Q
def NumE (K:PySem.W.Frag) (σ:St) (H0:Hp) (tn:TE) (n:Int):Prop:=∀ (H:Hp) (Q:VK),Same H0 H→Q (.int n) H→tn σ H Q
section
variable {K:PySem.W.Frag} {σ:St} {H0:Hp} {v:V} {d e:D} {ds es l:List D} {ta tb tx tn te:TE} {tl:TA} {E:XK} {m n:Int} {i j:Nat} {x y:Str}
theorem Ats.cons {H:Hp} {v:V} {xs:List V} {d:D} {ds:List D} (h:At K H v d) (g:Ats K H xs ds):Ats K H (v :: xs) (d :: ds):=by
  refine ⟨by rw [List.length_cons,List.length_cons,g.1],fun j y e e1 e2=>?_⟩
  cases j with
  | zero=>cases e1; cases e2; exact h
  | succ j=>exact g.2 j y e e1 e2
theorem Ats.app {H:Hp} {xs ys:List V} {ds es:List D} (h:Ats K H xs ds) (g:Ats K H ys es):Ats K H (xs ++ ys) (ds ++ es):=by
  refine ⟨by rw [List.length_append,List.length_append,h.1,g.1],fun j y e e1 e2=>?_⟩
  by_cases q:j < xs.length
  · rw [List.getElem?_append_left q] at e1
    rw [List.getElem?_append_left (by rw [← h.1]; exact q)] at e2
    exact h.2 j y e e1 e2
  · rw [List.getElem?_append_right (by omega)] at e1
    rw [List.getElem?_append_right (by rw [← h.1]; omega),← h.1] at e2
    exact g.2 _ y e e1 e2
theorem Ats.drop {H:Hp} {xs:List V} {ds:List D} (h:Ats K H xs ds) (a:Nat):Ats K H (xs.drop a) (ds.drop a):=by
  refine ⟨by rw [List.length_drop,List.length_drop,h.1],fun j y e e1 e2=>?_⟩
  rw [List.getElem?_drop] at e1 e2
  exact h.2 _ y e e1 e2
theorem Ats.take {H:Hp} {xs:List V} {ds:List D} (h:Ats K H xs ds) (a:Nat):Ats K H (xs.take a) (ds.take a):=by
  refine ⟨by rw [List.length_take,List.length_take,h.1],fun j y e e1 e2=>?_⟩
  rw [List.getElem?_take] at e1 e2
  split at e1
  · rename_i q
    rw [if_pos q] at e2
    exact h.2 _ y e e1 e2
  · cases e1
theorem At.tupS {H:Hp} {v:V} {l:List D} (h:At K H v (.tup l)):∃ a xs,v=.ref a∧H a=some (.tup xs)∧Ats K H xs l:=by
  cases h with
  | @tup a xs l h hl he=>exact ⟨a,xs,rfl,h,hl,he⟩
theorem nume_c:NumE K σ H0 (tC (.int n)) n:=fun H Q _ k=>k
theorem nume_var (h:σ[i]?=some (some (.int n))):NumE K σ H0 (tVar i) n:=fun H Q _ k=>⟨_,h,k⟩
theorem nume_neg (h:NumE K σ H0 tn n):NumE K σ H0 (tUn (rU fun i=>.int (-i)) tn) (-n):=fun H Q s k=>h H _ s ⟨n,rfl,k⟩
theorem nume_add (h:NumE K σ H0 ta m) (g:NumE K σ H0 tb n):NumE K σ H0 (tOp (rI0 fun i j=>.int (i + j)) ta tb) (m + n):=fun H Q s k=>h H _ s (g H _ s ⟨m,n,rfl,rfl,k⟩)
theorem nume_sub (h:NumE K σ H0 ta m) (g:NumE K σ H0 tb n):NumE K σ H0 (tOp (rI0 fun i j=>.int (i - j)) ta tb) (m - n):=fun H Q s k=>h H _ s (g H _ s ⟨m,n,rfl,rfl,k⟩)
theorem nume_op {C:Int→Int→Prop} {f:Int→Int→Int} (h:NumE K σ H0 ta m) (g:NumE K σ H0 tb n) (c:C m n):NumE K σ H0 (tOp (rI C fun i j=>.int (f i j)) ta tb) (f m n):=fun H Q s k=>h H _ s (g H _ s ⟨m,n,rfl,rfl,c,k⟩)
theorem ev_num (h:NumE K σ H0 tn n):Ev K σ H0 tn (.int n):=fun H Q s k=>h H _ s (k _ H (Same.refl _) (.int n))
theorem ev_int:Ev K σ H0 (tC (.int n)) (.int n):=fun H Q _ k=>k _ H (Same.refl _) (.int n)
theorem ev_non:Ev K σ H0 (tC .non) .non:=fun H Q _ k=>k _ H (Same.refl _) .non
theorem ev_bl {b:Bool}:Ev K σ H0 (tC (.bl b)) (.bl b):=fun H Q _ k=>k _ H (Same.refl _) (.bl b)
theorem ev_str (h:x.length ≤ 100000):Ev K σ H0 (tC (.str x)) (.str x):=fun H Q _ k=>k _ H (Same.refl _) (.str x (smallE h))
theorem ev_var (h:σ[i]?=some (some v)) (hv:At K H0 v d):Ev K σ H0 (tVar i) d:=fun H Q s k=>⟨v,h,k v H (Same.refl _) (hv.same s)⟩
theorem evl_nil:EvL K σ H0 tNil []:=fun H Q _ k=>k _ H (Same.refl _) Ats.nil
theorem evl_cons (h:Ev K σ H0 te d) (g:EvL K σ H0 tl ds):EvL K σ H0 (tCons te tl) (d :: ds):=fun H Q s k=>h H _ s fun v H1 s1 hv=>g H1 _ (Same.trans s s1) fun xs H2 s2 ha=>k _ H2 (Same.trans s1 s2) (Ats.cons (hv.same s2) ha)
theorem ev_tup (h:EvL K σ H0 tl ds) (hl:ds.length ≤ 100000):Ev K σ H0 (tTup tl) (.tup ds):=fun H Q s k=>h H _ s fun xs H1 s1 ha=>⟨smallE (by rw [ha.1]; exact hl),fun p hp=>k _ _ (Same.trans s1 (Same.put (Same.refl _) hp)) (Ats.tup (ha.same (Same.put (Same.refl _) hp)) upd_same)⟩
theorem evs_lst (h:EvL K σ H0 tl ds) (hl:ds.length ≤ 100000):EvS K σ H0 (tLst tl) ds:=fun H Q s k=>h H _ s fun xs H1 s1 ha=>⟨smallE (by rw [ha.1]; exact hl),fun p hp=>k p xs _ (Same.trans s1 (Same.put (Same.refl _) hp)) upd_same (ha.same (Same.put (Same.refl _) hp))⟩
theorem ev_lst (h:EvS K σ H0 te ds):Ev K σ H0 te .oth:=fun H Q s k=>h H _ s fun l xs H1 s1 hl _=>k _ H1 s1 (.oth hl)
theorem evs_var {a:Addr} {xs:List V} (h:σ[i]?=some (some (.ref a))) (hl:H0 a=some (.lst xs)) (ha:Ats K H0 xs ds):EvS K σ H0 (tVar i) ds:=fun H Q s k=>⟨_,h,k a xs H (Same.refl _) (s _ _ hl) (ha.same s)⟩
theorem ev_ix (h:Ev K σ H0 te (.tup l)) (hn:NumE K σ H0 tn (j:Int)) (hj:l[j]?=some d):Ev K σ H0 (tOp (rIxT K) te tn) d:=fun H Q s k=>h H _ s fun v H1 s1 hv=>hn H1 _ (Same.trans s s1) (by
  obtain ⟨p,xs,x,ep,a1,b1,c1⟩:=hv.part hj
  exact ⟨p,xs,(j:Int),x,ep,rfl,a1,b1,k x H1 s1 c1⟩)
theorem evs_ix (h:EvS K σ H0 te l) (hn:NumE K σ H0 tn n) (hj:n=((j:Nat):Int)) (hd:l[j]?=some d):Ev K σ H0 (tOp (rIxL K) te tn) d:=fun H Q s k=>h H _ s fun a xs H1 s1 ha hA=>hn H1 _ (Same.trans s s1) (by
  have hlt:j < xs.length:=by rw [hA.1]; exact get_lt hd
  have ex:xs[j]?=some xs[j]:=List.getElem?_eq_getElem hlt
  exact ⟨a,xs,n,xs[j],rfl,rfl,SqL.of ha,by rw [hj]; exact atI_nat ex,k _ H1 s1 (hA.2 j _ _ ex hd)⟩)
theorem ev_cat (h:Ev K σ H0 ta (.tup ds)) (g:Ev K σ H0 tb (.tup es)) (hl:ds.length + es.length ≤ 100000):Ev K σ H0 (tOp (rCatA K) ta tb) (.tup (ds ++ es)):=fun H Q s k=>h H _ s fun v H1 s1 hv=>g H1 _ (Same.trans s s1) fun u H2 s2 hu=>by
  obtain ⟨a,xs,rfl,ha,hA⟩:=(hv.same s2).tupS
  obtain ⟨b,ys,rfl,hb,hB⟩:=hu.tupS
  refine ⟨a,b,xs,ys,rfl,rfl,SqT.of ha,SqT.of hb,smallE (by rw [hA.1,hB.1]; exact hl),fun e=>?_,fun _ e=>?_,fun p hp=>k _ _ (Same.trans s1 (Same.trans s2 (Same.put (Same.refl _) hp))) (Ats.tup ((hA.app hB).same (Same.put (Same.refl _) hp)) upd_same)⟩
  · subst e
    have:ds=[]:=List.eq_nil_of_length_eq_zero hA.1.symm
    subst this
    exact k _ H2 (Same.trans s1 s2) hu
  · subst e
    have:es=[]:=List.eq_nil_of_length_eq_zero hB.1.symm
    subst this
    rw [List.append_nil] at k
    exact k _ H2 (Same.trans s1 s2) (hv.same s2)
theorem ev_from (h:Ev K σ H0 te (.tup l)) (hn:NumE K σ H0 tn (j:Int)) (hj:0 < j) (hl:0 < l.length):Ev K σ H0 (tSl (rSlT K) te (tPart tn) tNoPart) (.tup (l.drop j)):=fun H Q s k=>h H _ s fun v H1 s1 hv=>hn H1 _ (Same.trans s s1) (by
  obtain ⟨a,xs,rfl,ha,hA⟩:=hv.tupS
  refine ⟨_,rfl,a,xs,rfl,SqT.of ha,fun z=>?_,fun p hp=>k _ _ (Same.trans s1 (Same.put (Same.refl _) hp)) (Ats.tup ?_ upd_same)⟩
  · rw [HT.sIx_nat] at z
    have:=hA.1
    omega
  · have e:cutV xs (some (j:Int)) none=xs.drop j:=by
      unfold cutV
      rw [HT.sIx_nat,HT.sIx_none]
      by_cases q:j ≤ xs.length
      · rw [Nat.min_eq_left q]
        exact List.take_of_length_le (by rw [List.length_drop]; omega)
      · rw [Nat.min_eq_right (by omega),List.drop_eq_nil_of_le (Nat.le_refl _),List.drop_eq_nil_of_le (by omega),List.take_nil]
    rw [e]
    exact (hA.drop j).same (Same.put (Same.refl _) hp))
theorem ev_till (h:Ev K σ H0 te (.tup l)) (hn:NumE K σ H0 tn (j:Int)) (hj:j < l.length):Ev K σ H0 (tSl (rSlT K) te tNoPart (tPart tn)) (.tup (l.take j)):=fun H Q s k=>h H _ s fun v H1 s1 hv=>hn H1 _ (Same.trans s s1) (by
  obtain ⟨a,xs,rfl,ha,hA⟩:=hv.tupS
  refine ⟨_,rfl,a,xs,rfl,SqT.of ha,fun z=>?_,fun p hp=>k _ _ (Same.trans s1 (Same.put (Same.refl _) hp)) (Ats.tup ?_ upd_same)⟩
  · rw [HT.sIx_nat] at z
    have:=hA.1
    omega
  · have e:cutV xs none (some (j:Int))=xs.take j:=by
      unfold cutV
      rw [HT.sIx_nat,HT.sIx_none,List.drop_zero,Nat.sub_zero,Nat.min_eq_left (by rw [hA.1]; omega)]
    rw [e]
    exact (hA.take j).same (Same.put (Same.refl _) hp))
theorem evs_list (h:Ev K σ H0 te (.tup l)):EvS K σ H0 (tCB (fun xs H Q=>∃ p ys,xs=[.ref p]∧(SqL K H p ys ∨ SqT K H p ys)∧∀ l,H l=none→Q (.ref l) (upd H l (.lst ys))) (tCons te tNil)) l:=fun H Q s k=>h H _ s fun v H1 s1 hv=>by
  obtain ⟨a,xs,rfl,ha,hA⟩:=hv.tupS
  exact ⟨a,xs,rfl,.inr (SqT.of ha),fun p hp=>k p xs _ (Same.trans s1 (Same.put (Same.refl _) hp)) upd_same (hA.same (Same.put (Same.refl _) hp))⟩
theorem ev_tuple (h:EvS K σ H0 te l):Ev K σ H0 (tCB (fun xs H Q=>∃ p ys,xs=[.ref p]∧((SqL K H p ys∧∀ l,H l=none→Q (.ref l) (upd H l (.tup ys))) ∨ (SqT K H p ys∧Q (.ref p) H))) (tCons te tNil)) (.tup l):=fun H Q s k=>h H _ s fun a xs H1 s1 ha hA =>
  ⟨a,xs,rfl,.inl ⟨SqL.of ha,fun p hp=>k _ _ (Same.trans s1 (Same.put (Same.refl _) hp)) (Ats.tup (hA.same (Same.put (Same.refl _) hp)) upd_same)⟩⟩
theorem evs_map {g:D→D} (h:EvS K σ H0 ta l) (hl:l.length ≤ 1000) (he:∀ (v:V) (d:D) (H1:Hp),d ∈ l→Same H0 H1→At K H1 v d→Ev K (some v :: σ) H1 te (g d)):EvS K σ H0 (tComp (iList K ta) ttAll te) (l.map g):=fun H Q s k=>h H _ s fun a xs H1 s1 ha hA=>by
  refine ⟨a,rfl,⟨_,SqL.of ha⟩,comp_At (K:=K) (α:=V × D) (l:=xs.zip l) (fun p=>p.1) (fun p=>g p.2) ?_ (small (by rw [List.length_zip]; omega)) (fun p H' Q' _ _ hq=>hq _ (Same.refl _)) (fun p H' Q' hp s' hq=>?_) fun DD ys H6 hD s6 h6 hY=>?_⟩
  · rw [map_zip1 hA.1]
    exact IsIt.list (SqL.of ha)
  · obtain ⟨j,hj⟩:=List.getElem?_of_mem hp
    obtain ⟨z1,z2⟩:=zip_at hj
    exact he p.1 p.2 H' (List.mem_of_getElem? z2) (Same.trans s (Same.trans s1 s')) ((hA.2 j _ _ z1 z2).same s') H' Q' (Same.refl _) hq
  · refine k DD ys H6 (Same.trans s1 s6) h6 ?_
    have e:(xs.zip l).map (fun p=>g p.2)=l.map g:=by
      rw [show (fun p:V × D=>g p.2)=g ∘ Prod.snd from rfl,← List.map_map,List.map_snd_zip (by rw [hA.1]; exact Nat.le_refl _)]
    rw [e] at hY
    exact hY
theorem Ev.ret {H:Hp} {D0:Ends} (h:Ev K σ H te d) (k:∀ v H',Same H H'→At K H' v d→D0.rt v H'):tRet te D0 σ H:=h H _ (Same.refl _) k
theorem Ev.set {H:Hp} {D0:Ends} (h:Ev K σ H te d) (k:∀ v H',Same H H'→At K H' v d→D0.nx (σ.set i (some v)) H'):tAsg te (gName i) D0 σ H:=h H _ (Same.refl _) k
end
end B06
namespace B06
open PySem L2 S2
inductive Bx where
  | mk (k nm:Str) (ow wh:D) (ps:List Bx)
mutual
def Bx.toD:Bx→D
  | .mk k nm ow wh ps=>.tup [.str k,.str nm,ow,wh,.tup (toDs ps)]
def toDs:List Bx→List D
  | []=>[]
  | b :: l=>b.toD :: toDs l
end
mutual
def Bx.nms:Bx→List Str
  | .mk _ nm _ _ ps=>nm :: nmss ps
def nmss:List Bx→List Str
  | []=>[]
  | b :: l=>b.nms ++ nmss l
end
mutual
def Bx.hgt:Bx→Nat
  | .mk _ _ _ _ ps=>hgts ps + 1
def hgts:List Bx→Nat
  | []=>0
  | b :: l=>max b.hgt (hgts l)
end
def alO (d:D):Int:=match d with
  | .tup [_,_,_,_,_,.int g]=>g
  | _=>0
mutual
def Bx.NoAl:Bx→Prop
  | .mk _ _ ow _ ps=>alO ow ≤ 0∧NoAls ps
def NoAls:List Bx→Prop
  | []=>True
  | b :: l=>b.NoAl∧NoAls l
end
def KdOk (k:Str):Prop:=k="leaf" ∨ k="row" ∨ k="column" ∨ k="wrap" ∨ k="table"
def NodeOk (k nm:Str) (ow wh:D) (n:Nat):Prop:=KdOk k∧(D.str nm).name=true∧nm.length ≤ 100∧ow.own=true∧whatS k wh n=true∧(k="table"→alO ow ≤ 0∧∃ (cols:Nat) (w1 w2:D) (sps:List (Nat × Nat)),wh=.tup [.int (cols:Int),w1,w2,.tup (sps.map dS)]∧SpsOk cols sps∧sumH sps ≤ 60)
mutual
def Bx.Ok:Bx→Prop
  | .mk k nm ow wh ps=>NodeOk k nm ow wh ps.length∧(k="table"→NoAls ps)∧Oks ps
def Oks:List Bx→Prop
  | []=>True
  | b :: l=>b.Ok∧Oks l
end
mutual
def Bx.sub (nm:Str) (d:D):Bx→D
  | .mk k n ow wh ps=>if n=nm then d else .tup [.str k,.str n,ow,wh,.tup (subs nm d ps)]
def subs (nm:Str) (d:D):List Bx→List D
  | []=>[]
  | b :: l=>b.sub nm d :: subs nm d l
end
theorem toDs_len:∀ l:List Bx,(toDs l).length=l.length
  | []=>rfl
  | b :: l=>by rw [toDs,List.length_cons,List.length_cons,toDs_len l]
theorem subs_len (nm:Str) (d:D):∀ l:List Bx,(subs nm d l).length=l.length
  | []=>rfl
  | b :: l=>by rw [subs,List.length_cons,List.length_cons,subs_len nm d l]
mutual
theorem sub_id {nm:Str} {d:D}:∀ b:Bx,nm ∉ b.nms→b.sub nm d=b.toD
  | .mk k n ow wh ps=>fun h=>by
    rw [Bx.nms] at h
    rw [Bx.sub,Bx.toD,if_neg (fun e=>h (by rw [e]; exact List.mem_cons_self)),subs_id ps fun z=>h (List.mem_cons_of_mem _ z)]
theorem subs_id {nm:Str} {d:D}:∀ l:List Bx,nm ∉ nmss l→subs nm d l=toDs l
  | []=>fun _=>rfl
  | b :: l=>fun h=>by
    rw [nmss] at h
    rw [subs,toDs,sub_id b fun z=>h (List.mem_append_left _ z),subs_id l fun z=>h (List.mem_append_right _ z)]
end
theorem alike_own {ow:D} (h:ow.own=true):∃ a b c e f g,ow=.tup [a,b,c,e,f,.int g]∧alO ow=g:=by
  cases hto:ow.tupOf 6 with
  | false =>
    have z:ow.own=false:=by
      unfold D.own
      split
      · cases hto
      · rfl
    rw [z] at h
    cases h
  | true =>
    obtain ⟨a,b,c,e,f,g,rfl⟩:=tup6 hto
    have z:(a.bounds && b.bounds && (c.between 0 99 && e.between 0 99) && (f.between 0 9 && g.between 0 9))=true:=h
    simp only [Bool.and_eq_true] at z
    obtain ⟨gi,rfl⟩:=between_int z.2.2
    exact ⟨a,b,c,e,f,gi,rfl,rfl⟩
theorem node_box {k nm:Str} {ow wh:D} {l:List D} (h:NodeOk k nm ow wh l.length):(D.tup [.str k,.str nm,ow,wh,.tup l]).box=true:=by
  obtain ⟨_,h1,_,h2,h3,_⟩:=h
  show (((D.str nm).name && ow.own) && whatS k wh l.length)=true
  rw [h1,h2,h3]
  rfl
theorem kd_ask {k:Str} (h:KdOk k):(D.str k).kAsk=true:=by
  rcases h with rfl | rfl | rfl | rfl | rfl <;> decide +kernel
theorem node_ask {k nm:Str} {ow wh:D} {l:List D} (h:NodeOk k nm ow wh l.length):(D.tup [.str k,.str nm,ow,wh,.tup l]).ask:=by
  refine ⟨fun k' n o w p e=>?_,fun _ hk=>?_⟩
  · injection e with e
    injection e with e _
    rw [← e]
    exact kd_ask h.1
  · obtain ⟨_,cols,w1,w2,sps,rfl,e2,e3⟩:=h.2.2.2.2.2 hk
    exact ⟨_,_,_,_,_,_,cols,sps,rfl,e2,e3⟩
theorem kd_alike {k:Str} (h:KdOk k) (n:k ≠ "table"):inV (.str k) wAlike=true:=by
  rcases h with rfl | rfl | rfl | rfl | rfl
  · decide +kernel
  · decide +kernel
  · decide +kernel
  · decide +kernel
  · exact absurd rfl n
theorem node_am {k nm:Str} {ow wh:D} {l:List D} {dep:Int} {it:Bool} {nms:List Str} (h:NodeOk k nm ow wh l.length) (hit:it=true→alO ow ≤ 0) (hd:dep ≤ 8) (hn:nm ∉ nms) (hl:nms.length < 60):¬ amD (D.tup [.str k,.str nm,ow,wh,.tup l]) dep it nms=true:=by
  obtain ⟨a,b,c,e,f,g,rfl,eg⟩:=alike_own h.2.2.2.1
  rw [eg] at hit
  have hb:=node_box h
  have e4:(decide (0 < g) && !(inV (.str k) wAlike && !it))=false:=by
    by_cases q:0 < g
    · cases it with
      | true=>exact absurd (hit rfl) (by omega)
      | false =>
        have nt:k ≠ "table":=fun z=>by have:=(h.2.2.2.2.2 z).1; rw [eg] at this; omega
        rw [kd_alike h.1 nt]
        simp
    · rw [decide_eq_false q,Bool.false_and]
  unfold amD
  rw [hb]
  show ¬ ((!true || (decide (nm ∈ nms) || decide ((60:Int) ≤ nms.length) || decide (8 < dep) || (decide (0 < g) && !(inV (.str k) wAlike && !it))))=true)
  rw [e4,decide_eq_false hn,decide_eq_false (show ¬ (60:Int) ≤ nms.length by omega),decide_eq_false (show ¬ 8 < dep by omega)]
  decide
theorem nodup_mid {nms l:List Str} {n:Str} (h:(nms ++ n :: l).Nodup):n ∉ nms∧((nms ++ [n]) ++ l).Nodup:=by
  refine ⟨fun z=>?_,by rw [List.append_assoc]; exact h⟩
  exact (List.nodup_append.mp h).2.2 n z n List.mem_cons_self rfl
theorem seq_ok {h:Nat} {dep:Int} {it:Bool} (ih:∀ (b:Bx) (nms:List Str),b.Ok→b.hgt ≤ h→(it=true→b.NoAl)→dep + b.hgt ≤ 9→(nms ++ b.nms).Nodup→(nms ++ b.nms).length ≤ 60→lookF h b.toD dep it nms=.ok (nms ++ b.nms)) :
    ∀ (ps:List Bx) (nms:List Str),Oks ps→hgts ps ≤ h→(it=true→NoAls ps)→dep + hgts ps ≤ 9→(nms ++ nmss ps).Nodup→(nms ++ nmss ps).length ≤ 60→seqE (fun p n=>lookF h p dep it n) (toDs ps) nms=.ok (nms ++ nmss ps)
  | [],nms,_,_,_,_,_,_=>by rw [toDs,nmss,List.append_nil]; rfl
  | b :: l,nms,hok,hh,hit,hd,nd,hl=>by
    rw [Oks] at hok
    rw [hgts] at hh hd
    rw [nmss,← List.append_assoc] at nd hl
    have hit1:it=true→b.NoAl∧NoAls l:=fun z=>by have:=hit z; rw [NoAls] at this; exact this
    have m1:=Nat.le_max_left b.hgt (hgts l)
    have m2:=Nat.le_max_right b.hgt (hgts l)
    have e1:=ih b nms hok.1 (by omega) (fun z=>(hit1 z).1) (by omega) (List.nodup_append.mp nd).1 (by rw [List.length_append] at hl; omega)
    rw [toDs,nmss,← List.append_assoc]
    show (match lookF h b.toD dep it nms with | .ok n'=>seqE _ (toDs l) n' | .error x=>.error x)=_
    rw [e1]
    exact seq_ok ih l (nms ++ b.nms) hok.2 (by omega) (fun z=>(hit1 z).2) (by omega) nd hl
theorem look_ok:∀ (h:Nat) (b:Bx) (dep:Int) (it:Bool) (nms:List Str),b.Ok→b.hgt ≤ h→(it=true→b.NoAl)→dep + b.hgt ≤ 9→(nms ++ b.nms).Nodup→(nms ++ b.nms).length ≤ 60→lookF h b.toD dep it nms=.ok (nms ++ b.nms)
  | 0,.mk k nm ow wh ps,dep,it,nms,_,hh,_,_,_,_=>by rw [Bx.hgt] at hh; omega
  | h + 1,.mk k nm ow wh ps,dep,it,nms,hok,hh,hit,hd,nd,hl=>by
    rw [Bx.Ok] at hok
    rw [Bx.hgt] at hh hd
    rw [Bx.nms] at nd hl ⊢
    rw [Bx.toD]
    obtain ⟨hn,ht,hok⟩:=hok
    have hit1:it=true→alO ow ≤ 0∧NoAls ps:=fun z=>by have:=hit z; rw [Bx.NoAl] at this; exact this
    obtain ⟨n1,n2⟩:=nodup_mid nd
    rw [← toDs_len] at hn
    have am:=node_am (dep:=dep) (it:=it) (nms:=nms) hn (fun z=>(hit1 z).1) (by omega) n1 (by rw [List.length_append,List.length_cons] at hl; omega)
    rw [lookF,if_neg am]
    have e:nms ++ nm :: nmss ps=(nms ++ [nm]) ++ nmss ps:=by rw [List.append_assoc]; rfl
    rw [e] at hl ⊢
    refine seq_ok (fun b nms hb hh hi hd nd hl=>look_ok h b _ _ nms hb hh hi hd nd hl) ps (nms ++ [nm]) hok (by omega) (fun z=>?_) (by omega) n2 hl
    rcases (Bool.or_eq_true _ _).mp z with z | z
    · exact (hit1 z).2
    · have ez:=of_decide_eq_true z
      exact ht (by injection ez)
mutual
theorem good_ok:∀ (b:Bx) (h:Nat),b.Ok→b.hgt ≤ h→GoodF h b.toD
  | .mk k nm ow wh ps,0=>fun _ hh=>by rw [Bx.hgt] at hh; omega
  | .mk k nm ow wh ps,h + 1=>fun hok hh=>by
    rw [Bx.Ok] at hok
    rw [Bx.hgt] at hh
    rw [Bx.toD]
    obtain ⟨hn,_,hok⟩:=hok
    rw [← toDs_len] at hn
    exact ⟨node_ask hn,fun _ p hp=>goods_ok ps h hok (by omega) p hp⟩
theorem goods_ok:∀ (ps:List Bx) (h:Nat),Oks ps→hgts ps ≤ h→∀ p ∈ toDs ps,GoodF h p
  | [],h=>fun _ _ p hp=>by rw [toDs] at hp; cases hp
  | b :: l,h=>fun hok hh p hp=>by
    rw [Oks] at hok
    rw [hgts] at hh
    rw [toDs] at hp
    have m1:=Nat.le_max_left b.hgt (hgts l)
    have m2:=Nat.le_max_right b.hgt (hgts l)
    rcases List.mem_cons.mp hp with rfl | hp
    · exact good_ok b h hok.1 (by omega)
    · exact goods_ok l h hok.2 (by omega) p hp
end
mutual
theorem good_sub {nm:Str} {d:D} (hg:∀ h,6 ≤ h→GoodF h d):∀ (b:Bx) (h:Nat),b.Ok→b.hgt + 6 ≤ h→GoodF h (b.sub nm d)
  | .mk k n ow wh ps,0=>fun _ hh=>by omega
  | .mk k n ow wh ps,h + 1=>fun hok hh=>by
    rw [Bx.Ok] at hok
    rw [Bx.hgt] at hh
    rw [Bx.sub]
    by_cases e:n=nm
    · rw [if_pos e]
      exact hg (h + 1) (by omega)
    · rw [if_neg e]
      obtain ⟨hn,_,hok⟩:=hok
      rw [← subs_len nm d] at hn
      exact ⟨node_ask hn,fun _ p hp=>goods_sub hg ps h hok (by omega) p hp⟩
theorem goods_sub {nm:Str} {d:D} (hg:∀ h,6 ≤ h→GoodF h d):∀ (ps:List Bx) (h:Nat),Oks ps→hgts ps + 6 ≤ h→∀ p ∈ subs nm d ps,GoodF h p
  | [],h=>fun _ _ p hp=>by rw [subs] at hp; cases hp
  | b :: l,h=>fun hok hh p hp=>by
    rw [Oks] at hok
    rw [hgts] at hh
    rw [subs] at hp
    have m1:=Nat.le_max_left b.hgt (hgts l)
    have m2:=Nat.le_max_right b.hgt (hgts l)
    rcases List.mem_cons.mp hp with rfl | hp
    · exact good_sub hg b h hok.1 (by omega)
    · exact goods_sub hg l h hok.2 (by omega) p hp
end
theorem am_bad {d:D} {dep:Int} {it:Bool} {nms:List Str} (h:d.box=true→d.nameS ∈ nms):amD d dep it nms=true:=by
  unfold amD
  cases e:d.box with
  | false=>rfl
  | true=>rw [decide_eq_true (h e)]; simp
theorem seq_bad {h:Nat} {dep:Int} {it:Bool} {nm:Str} {d:D} (ih0:∀ (b:Bx) (nms:List Str),b.Ok→b.hgt ≤ h→(it=true→b.NoAl)→dep + b.hgt ≤ 9→(nms ++ b.nms).Nodup→(nms ++ b.nms).length ≤ 60→lookF h b.toD dep it nms=.ok (nms ++ b.nms))
    (ih:∀ (b:Bx) (nms:List Str),b.Ok→b.hgt ≤ h→(it=true→b.NoAl)→dep + b.hgt ≤ 9→(nms ++ b.nms).Nodup→(nms ++ b.nms).length ≤ 60→nm ∈ b.nms→(d.box=true→d.nameS ∈ nms)→lookF h (b.sub nm d) dep it nms=.error d.told) :
    ∀ (ps:List Bx) (nms:List Str),Oks ps→hgts ps ≤ h→(it=true→NoAls ps)→dep + hgts ps ≤ 9→(nms ++ nmss ps).Nodup→(nms ++ nmss ps).length ≤ 60→nm ∈ nmss ps→(d.box=true→d.nameS ∈ nms)→seqE (fun p n=>lookF h p dep it n) (subs nm d ps) nms=.error d.told
  | [],nms,_,_,_,_,_,_,hm,_=>by rw [nmss] at hm; cases hm
  | b :: l,nms,hok,hh,hit,hd,nd,hl,hm,hb=>by
    rw [Oks] at hok
    rw [hgts] at hh hd
    rw [nmss,← List.append_assoc] at nd hl
    rw [nmss] at hm
    have hit1:it=true→b.NoAl∧NoAls l:=fun z=>by have:=hit z; rw [NoAls] at this; exact this
    have m1:=Nat.le_max_left b.hgt (hgts l)
    have m2:=Nat.le_max_right b.hgt (hgts l)
    have nd1:=(List.nodup_append.mp nd).1
    have hl1:(nms ++ b.nms).length ≤ 60:=by rw [List.length_append] at hl; omega
    rw [subs]
    show (match lookF h (b.sub nm d) dep it nms with | .ok n'=>seqE _ (subs nm d l) n' | .error x=>.error x)=_
    by_cases q:nm ∈ b.nms
    · rw [ih b nms hok.1 (by omega) (fun z=>(hit1 z).1) (by omega) nd1 hl1 q hb]
    · rw [sub_id b q,ih0 b nms hok.1 (by omega) (fun z=>(hit1 z).1) (by omega) nd1 hl1]
      exact seq_bad ih0 ih l (nms ++ b.nms) hok.2 (by omega) (fun z=>(hit1 z).2) (by omega) nd hl ((List.mem_append.mp hm).resolve_left q) fun z=>List.mem_append_left _ (hb z)
theorem look_bad {nm:Str} {d:D}:∀ (h:Nat) (b:Bx) (dep:Int) (it:Bool) (nms:List Str),b.Ok→b.hgt ≤ h→(it=true→b.NoAl)→dep + b.hgt ≤ 9→(nms ++ b.nms).Nodup→(nms ++ b.nms).length ≤ 60→nm ∈ b.nms→(d.box=true→d.nameS ∈ nms ∨ (b.nms.head?=some d.nameS∧nm ≠ d.nameS))→lookF h (b.sub nm d) dep it nms=.error d.told
  | 0,.mk k n ow wh ps,dep,it,nms,_,hh,_,_,_,_,_,_=>by rw [Bx.hgt] at hh; omega
  | h + 1,.mk k n ow wh ps,dep,it,nms,hok,hh,hit,hd,nd,hl,hm,hb=>by
    rw [Bx.Ok] at hok
    rw [Bx.hgt] at hh hd
    rw [Bx.nms] at nd hl hm hb
    rw [Bx.sub]
    obtain ⟨hn,ht,hok⟩:=hok
    have hit1:it=true→alO ow ≤ 0∧NoAls ps:=fun z=>by have:=hit z; rw [Bx.NoAl] at this; exact this
    obtain ⟨n1,n2⟩:=nodup_mid nd
    by_cases e:n=nm
    · rw [if_pos e,lookF,if_pos (am_bad fun z=>?_)]
      rcases hb z with y | ⟨y1,y2⟩
      · exact y
      · injection y1 with y1
        exact absurd (e.symm.trans y1) y2
    · rw [if_neg e]
      rw [← subs_len nm d] at hn
      have am:=node_am (dep:=dep) (it:=it) (nms:=nms) hn (fun z=>(hit1 z).1) (by omega) n1 (by rw [List.length_append,List.length_cons] at hl; omega)
      rw [lookF,if_neg am]
      have e2:nms ++ n :: nmss ps=(nms ++ [n]) ++ nmss ps:=by rw [List.append_assoc]; rfl
      rw [e2] at hl
      have hit2:(it || decide (V.str k=V.str "table"))=true→NoAls ps:=fun z=>by
        rcases (Bool.or_eq_true _ _).mp z with z | z
        · exact (hit1 z).2
        · have ez:=of_decide_eq_true z
          exact ht (by injection ez)
      refine seq_bad (fun b nms hb hh hi hd nd hl=>look_ok h b _ _ nms hb hh hi hd nd hl) (fun b nms hb hh hi hd nd hl hm h9=>look_bad h b _ _ nms hb hh hi hd nd hl hm fun z=>.inl (h9 z)) ps (nms ++ [n]) hok (by omega) hit2 (by omega) n2 hl ((List.mem_cons.mp hm).resolve_left (Ne.symm e)) fun z=>?_
      rcases hb z with y | ⟨y1,_⟩
      · exact List.mem_append_left _ y
      · injection y1 with y1
        rw [← y1]
        exact List.mem_append_right _ List.mem_cons_self
end B06
namespace B06
open PySem L2 S2
abbrev sAt:=sLawAt
abbrev sMixed:=sLawMixed
abbrev sDraws:=sLawDraws
abbrev sLabel:=sLawLabel
def spMixed:Sp:=fun vs H Q _=>∃ c:Int,vs=[.int c]∧∀ z:Int,Q (.int z) H
def spDraws (K:PySem.W.Frag):Sp:=fun vs H Q _=>∃ (a:Addr) (f m:Nat) (b:Int) (ns:List Int),vs=[.ref a,.int f,.int m,.int b]∧SqL K H a (ns.map V.int)∧ns.length ≤ 63∧m ≤ 100∧0 < b∧b.natAbs.log2 < 9000 ∧
  ∀ (l:Addr) (ys:List Int) (H':Hp),H l=none→Same H H'→H' l=some (.lst (ys.map V.int))→ys.length=m→(∀ y ∈ ys,0 ≤ y∧y < b)→Q (.ref l) H'
section
variable {P:Program} {w:World} {K:PySem.W.Frag} {mg:Str→Option Value} {base:Heap}
theorem scAt:FnScope ["_law_script","_law_k"] ["_law_script","_law_k"] (defScope sAt):=⟨rfl,rfl,rfl,by decide +kernel,rfl,by decide +kernel,by decide +kernel⟩
theorem ok_at {f:Addr} {fd:FuncData} (F:Fun K "_law_at" "_law_at" sAt f fd) (N:Names mg):FnOk P w K mg base CX0 1 f fd ["_law_script","_law_k"] (spCell K):=by
  refine F.ok scAt (fun vs H Q E h=>?_) (fun cdv A outer s H vs Q E hr h=>?_)
  · obtain ⟨a,k,ns,e,_⟩:=h
    rw [e]
    rfl
  · obtain ⟨a,k,ns,e,hS,hn,q⟩:=h
    subst e
    refine ⟨_,pss_cons (ps_if (pt_cmpR op_lt (pv 1) (pe_callB call_len_seq (by rfl) N.len PySem.boot_len (pa_cons (pv 0) pa_nil)) (nomark _)) (pss_one (ps_ret (pe_ix ix_list (pv 0) (pv 1) (fun _ _=>rfl)))) pss_nil) (pss_one (ps_ret pe_int)),?_⟩
    refine ⟨_,rfl,_,rfl,a,_,rfl,.inl hS,_,_,rfl,rfl,_,rfl,?_⟩
    refine ite2 (fun hc=>?_) (fun hc=>q 0)
    have hk:k < ns.length:=by
      have z:=of_decide_eq_true hc
      rw [List.length_map] at z
      omega
    exact ⟨_,rfl,_,rfl,a,_,_,_,rfl,rfl,hS,atI_nat (by rw [List.getElem?_map,List.getElem?_eq_getElem hk]; rfl),q _⟩
theorem scMixed:FnScope ["_law_cell","_law_n"] ["_law_cell"] (defScope sMixed):=⟨rfl,rfl,rfl,by decide +kernel,rfl,by decide +kernel,by decide +kernel⟩
theorem ok_mixed {f:Addr} {fd:FuncData} (F:Fun K "_law_mixed" "_law_mixed" sMixed f fd):FnOk P w K mg base CX0 1 f fd ["_law_cell"] spMixed:=by
  refine F.ok scMixed (fun vs H Q E h=>?_) (fun cdv A outer s H vs Q E hr h=>?_)
  · obtain ⟨c,e,_⟩:=h
    rw [e]
    rfl
  · obtain ⟨c,e,q⟩:=h
    subst e
    refine ⟨_,pss_cons (ps_set (i:=1) scMixed.nd rfl (Or.inl rfl) (pe_op op_mod (pe_op op_mul (pv 0) pe_int) pe_int))
      (pss_cons (ps_set (i:=1) scMixed.nd rfl (Or.inl rfl) (pe_op op_mod (pe_op op_add (pe_op op_fdiv (pv 1) pe_int) (pe_op op_mul (pv 1) pe_int)) pe_int))
      (pss_one (ps_ret (pe_op op_mod (pe_op op_mul (pv 1) (pe_op op_add (pe_op op_mod (pv 1) pe_int) pe_int)) pe_int)))),?_⟩
    refine ⟨_,rfl,_,_,rfl,rfl,.inr ⟨by decide,by decide⟩,_,_,rfl,rfl,(by show (0:Int) < 2147483647; decide),?_⟩
    refine ⟨_,rfl,_,_,rfl,rfl,⟨by decide,by decide⟩,_,rfl,_,_,rfl,rfl,.inr ⟨by decide,by decide⟩,_,_,rfl,rfl,_,_,rfl,rfl,(by show (0:Int) < 2147483629; decide),?_⟩
    dsimp only
    generalize (c * 48271 % 2147483647 / 65536 + c * 48271 % 2147483647 * 16807) % 2147483629=n
    exact ⟨_,rfl,_,rfl,_,_,rfl,rfl,(by show (0:Int) < 32768; decide),_,_,rfl,rfl,_,_,rfl,rfl,.inr ⟨by show -(2 ^ 64) < n % 32768 + 40961; omega,by show n % 32768 + 40961 < 2 ^ 64; omega⟩,_,_,rfl,rfl,(by show (0:Int) < 1000000000039; decide),q _⟩
theorem scDraws:FnScope ["_law_script","_law_first","_law_many","_law_base","_law_found","_law_cell","_law_k","_law_n"] ["_law_script","_law_first","_law_many","_law_base"] (defScope sDraws):=⟨rfl,rfl,rfl,by decide +kernel,rfl,by decide +kernel,by decide +kernel⟩
set_option maxHeartbeats 4000000 in
theorem ok_draws {f f1 f2:Addr} {fd d1 d2:FuncData} (F:Fun K "_law_draws" "_law_draws" sDraws f fd) (N:Names mg)
    (G1:FnOk P w K mg base CX0 1 f1 d1 ["_law_script","_law_k"] (spCell K)) (b1:Binds K d1 ["_law_script","_law_k"] []) (m1:mg "_law_at"=some (.ref f1)) (k1:PySem.W.keepIn K (.ref f1)=true)
    (G2:FnOk P w K mg base CX0 1 f2 d2 ["_law_cell"] spMixed) (b2:Binds K d2 ["_law_cell"] []) (m2:mg "_law_mixed"=some (.ref f2)) (k2:PySem.W.keepIn K (.ref f2)=true) :
    FnOk P w K mg base CX0 2 f fd ["_law_script","_law_first","_law_many","_law_base"] (spDraws K):=by
  refine F.ok scDraws (fun vs H Q E h=>?_) (fun cdv A outer s H vs Q E hr h=>?_)
  · obtain ⟨a,f,m,b,ns,e,_⟩:=h
    rw [e]
    rfl
  · obtain ⟨a,fi,m,b,ns,e,hS,hn,hm,hb0,hb1,k⟩:=h
    subst e
    refine ⟨_,pss_cons (ps_set (i:=4) scDraws.nd rfl (Or.inl rfl) (pe_lst pa_nil))
      (pss_cons (ps_set (i:=5) scDraws.nd rfl (Or.inl rfl) (pe_call G1 hr (by rfl) m1 k1 b1 .nil pass0 (pa_cons (pv 0) (pa_cons (pv 1) pa_nil))))
      (pss_cons (ps_while PassesOwn.never (pw_and (pt_cmpR op_ge (pv 5) (pe_op op_pow pe_int pe_int) (nomark _)) (pw_and1 (pt_cmpR op_lt (pe_callB call_len_seq (by rfl) N.len PySem.boot_len (pa_cons (pv 4) pa_nil)) (pv 2) (nomark _)))).pt
        (pss_cons (ps_expr (pe_bm PySem.F.plainAttrs_list PySem.F.slot_list_append PySem.F.type_list_append mt_append (pv 4) (pa_cons (pe_op op_mod (pv 5) (pv 3)) pa_nil)))
          (pss_one (ps_set (i:=5) scDraws.nd rfl (Or.inl rfl) (pe_op op_fdivC (pv 5) (pv 3))))))
      (pss_cons (ps_for PassesOwn.never rfl (pi_range1 rfl N.range (pa_cons (pe_op op_sub (pv 2) (pe_callB call_len_seq (by rfl) N.len PySem.boot_len (pa_cons (pv 4) pa_nil))) pa_nil)) (pg_name (i:=6) scDraws.nd rfl (Or.inl rfl))
        (pss_cons (ps_set (i:=7) scDraws.nd rfl (Or.inl rfl) (pe_call G2 hr (by rfl) m2 k2 b2 .nil pass0 (pa_cons (pe_op op_add (pe_call G1 hr (by rfl) m1 k1 b1 .nil pass0 (pa_cons (pv 0) (pa_cons (pe_op op_add (pe_op op_add (pv 1) pe_int) (pv 6)) pa_nil))) (pe_op op_mul (pe_op op_mul pe_int (pv 6)) (pv 6))) pa_nil)))
          (pss_one (ps_expr (pe_bm PySem.F.plainAttrs_list PySem.F.slot_list_append PySem.F.type_list_append mt_append (pv 4) (pa_cons (pe_op op_mod (pe_op op_add (pe_op op_mul (pv 7) pe_int) (pe_call G2 hr (by rfl) m2 k2 b2 .nil pass0 (pa_cons (pe_op op_add (pe_op op_add (pv 7) (pe_op op_mul pe_int (pv 6))) pe_int) pa_nil))) (pv 3)) pa_nil))))))
      (pss_one (ps_ret (pv 4)))))),?_⟩
    refine ⟨smallE (by simp),fun l hl=>?_⟩
    have s0:Same H (upd H l (.lst [])):=Same.put (Same.refl H) hl
    refine ⟨_,rfl,_,rfl,a,fi,ns,rfl,s0.seq hS,hn,fun z0=>?_⟩
    refine while_out (fun m' σ H2=>∃ (z:Int) (xs:List Int),σ=[some (.ref a),some (.int fi),some (.int m),some (.int b),some (.ref l),some (.int z),none,none]∧Same H H2∧H2 l=some (.lst (xs.map V.int))∧xs.length ≤ m∧(∀ y ∈ xs,0 ≤ y∧y < b)∧m'=m - xs.length) (m0:=m) ⟨_,[],rfl,s0,upd_same,Nat.zero_le _,(fun y hy=>nomatch hy),rfl⟩ ?_ ?_
    · rintro m' σ H2 ⟨z,xs,rfl,s2,h2,hlen,hb,rfl⟩
      refine ⟨_,rfl,_,rfl,l,_,rfl,.inl (SqL.of h2),_,_,rfl,rfl,_,rfl,by rw [List.length_map]; omega,by rw [List.length_map]; omega,?_⟩
      have en:((m:Int) - ((xs.map V.int).length:Int)).toNat=m - xs.length:=by rw [List.length_map]; omega
      rw [en]
      refine for_range (n:=m - xs.length) (fun i σ H3=>∃ (u6 u7:Option V) (ys:List Int),σ=[some (.ref a),some (.int fi),some (.int m),some (.int b),some (.ref l),some (.int z),u6,u7]∧Same H H3∧H3 l=some (.lst (ys.map V.int))∧ys.length=xs.length + i∧∀ y ∈ ys,0 ≤ y∧y < b) ⟨_,_,xs,rfl,s2,h2,rfl,hb⟩ ?_ ?_
      · rintro i σ H3 hi ⟨u6,u7,ys,rfl,s3,h3,hl3,hb3⟩
        refine ⟨_,rfl,_,rfl,_,_,rfl,rfl,_,rfl,_,_,rfl,rfl,a,fi + 1 + i,ns,(by simp; try omega),s3.seq hS,hn,fun z1=>?_⟩
        refine ⟨_,rfl,_,_,rfl,rfl,.inl ⟨by decide,by decide⟩,_,rfl,_,_,rfl,rfl,.inr ⟨by omega,by omega⟩,_,_,rfl,rfl,_,rfl,fun z2=>?_⟩
        refine ⟨_,rfl,.inl ⟨rfl,_,SqL.of h3⟩,_,rfl,_,_,rfl,rfl,.inr ⟨by decide,by decide⟩,_,rfl,_,rfl,_,_,rfl,rfl,.inl ⟨by decide,by decide⟩,_,_,rfl,rfl,_,_,rfl,rfl,_,rfl,fun z3=>?_⟩
        refine ⟨_,_,rfl,rfl,_,rfl,_,_,rfl,rfl,hb0,l,_,_,rfl,rfl,h3,small (by rw [List.length_map]; omega),?_⟩
        refine ⟨_,_,ys ++ [(z2 * 1000000000039 + z3) % b],rfl,Same.put s3 hl,snoc_at,by rw [snoc_len]; omega,fun y hy=>?_⟩
        rcases List.mem_append.mp hy with q | q
        · exact hb3 y q
        · rw [List.mem_singleton.mp q]
          exact ⟨Int.emod_nonneg _ (by omega),Int.emod_lt_of_pos _ hb0⟩
      · rintro σ H3 ⟨u6,u7,ys,rfl,s3,h3,hl3,hb3⟩
        exact ⟨_,rfl,k l ys H3 hl s3 h3 (by omega) hb3⟩
    · rintro R out m' σ H2 ⟨z,xs,rfl,s2,h2,hlen,hb,rfl⟩
      have go:R [some (.ref a),some (.int fi),some (.int m),some (.int b),some (.ref l),some (.int z),none,none] H2:=out _ _ _ ⟨z,xs,rfl,s2,h2,hlen,hb,rfl⟩
      refine ⟨_,rfl,_,_,rfl,rfl,⟨by decide,by decide,by decide⟩,_,_,rfl,rfl,_,rfl,ite2 (fun _=>?_) (fun _=>iteF go)⟩
      refine ⟨_,rfl,l,_,rfl,.inl (SqL.of h2),_,rfl,_,_,rfl,rfl,_,rfl,ite2 (fun hc=>?_) (fun _=>go)⟩
      have hc':=of_decide_eq_true hc
      rw [List.length_map] at hc'
      refine ⟨fun σ' H'=>∃ (z:Int) (xs':List Int),σ'=[some (.ref a),some (.int fi),some (.int m),some (.int b),some (.ref l),some (.int z),none,none]∧Same H H'∧H' l=some (.lst (xs'.map V.int))∧xs'.length=xs.length + 1∧(∀ y ∈ xs',0 ≤ y∧y < b),fun σ' H' ⟨z',xs',e1,e2,e3,e4,e5⟩=>⟨m - xs'.length,by omega,z',xs',e1,e2,e3,by omega,e5,rfl⟩,?_⟩
      refine ⟨_,rfl,.inl ⟨rfl,_,SqL.of h2⟩,_,rfl,_,rfl,_,_,rfl,rfl,hb0,l,_,_,rfl,rfl,h2,small (by rw [List.length_map]; omega),?_⟩
      refine ⟨_,rfl,_,rfl,_,_,rfl,rfl,⟨hb0,hb1⟩,?_⟩
      refine ⟨_,xs ++ [z % b],rfl,Same.put s2 hl,snoc_at,snoc_len,fun y hy=>?_⟩
      rcases List.mem_append.mp hy with q | q
      · exact hb y q
      · rw [List.mem_singleton.mp q]
        exact ⟨Int.emod_nonneg _ (by omega),Int.emod_lt_of_pos _ hb0⟩
end
abbrev alpha:Str:="abcdefghijklmnopqrstuvwxyz"
theorem alpha_at {i:Int} (h0:0 ≤ i) (h1:i < 26):atI alpha.cps.toList i=some (97 + i.toNat):=by
  obtain ⟨k,rfl,hk⟩:=nat_of (z:=i) (n:=26) h0 h1
  have:=(by decide +kernel:∀ k:Fin 26,alpha.cps.toList[k.val]?=some (97 + k.val)) ⟨k,hk⟩
  exact atI_nat this
theorem alpha_len:alpha.length=26:=by decide +kernel
def wdG (n:Int):Nat→Int × Str
  | 0=>(n,"")
  | i + 1=>((wdG n i).1 / 7,(wdG n i).2 ++ ⟨#[97 + ((wdG n i).1 / 7 % 26).toNat]⟩)
theorem wdG_len (n:Int):∀ i,(wdG n i).2.length ≤ i
  | 0=>by show ("":Str).length ≤ 0; decide +kernel
  | i + 1=>by
    show ((wdG n i).2 ++ _).length ≤ _
    rw [Str.length_append]
    have:=wdG_len n i
    show (wdG n i).2.length + 1 ≤ i + 1
    omega
def lab0 (c:Int):Int:=c * 1099087573 % 10000000000037
def wd (c:Int):Str:=(wdG (lab0 c) (lab0 c % 6).toNat).2
def labS (c:Int) (k:Nat):Str:=cutS (wd c) none (some (c % ((wd c).length + 1))) ++ (⟨#[97 + (((k:Int) + c) % 26).toNat]⟩ ++ ⟨#[97 + ((k:Int) / 26).toNat]⟩) ++ cutS (wd c) (some (c % ((wd c).length + 1))) none
theorem wd_len (c:Int):(wd c).length ≤ 5:=by
  have:=wdG_len (lab0 c) (lab0 c % 6).toNat
  unfold wd
  omega
theorem labS_inj {c:Int} {j k:Nat} (hj:j < 26) (hk:k < 26) (e:labS c j=labS c k):j=k:=by
  have q:=congrArg (fun s:Str=>s.cps.toList) e
  have a:∀ k:Nat,(labS c k).cps.toList=(cutS (wd c) none (some (c % ((wd c).length + 1)))).cps.toList ++ ([97 + (((k:Int) + c) % 26).toNat,97 + ((k:Int) / 26).toNat] ++ (cutS (wd c) (some (c % ((wd c).length + 1))) none).cps.toList):=fun k=>by
    show ((_ ++ (#[97 + (((k:Int) + c) % 26).toNat] ++ #[97 + ((k:Int) / 26).toNat])) ++ _:Array Nat).toList=_
    rw [Array.toList_append,Array.toList_append,Array.toList_append,List.append_assoc]
    rfl
  have q':(labS c j).cps.toList=(labS c k).cps.toList:=q
  rw [a,a] at q'
  have q2:=List.append_cancel_left q'
  injection q2 with q3 _
  omega
theorem cut_list {x:Str} {a b:Nat} (hab:a ≤ b) (hb:b ≤ x.length):(cutS x (some (a:Int)) (some (b:Int))).cps.toList=(x.cps.toList.drop a).take (b - a):=by
  unfold cutS
  have e:=StrLaws.sliced_plain x hab hb
  by_cases q:((Builtin.Str.strSliceIndices (some (a:Int)) (some (b:Int)) 1 x.length).length == x.length)=true
  · rw [if_pos q]
    rw [StrLaws.strSliceIndices_plain hab hb,List.length_map,List.length_range] at q
    have z:=eq_of_beq q
    have a0:a=0:=by omega
    have bl:b=x.length:=by omega
    subst a0 bl
    rw [List.drop_zero,Nat.sub_zero]
    exact (List.take_of_length_le (by rw [Array.length_toList]; exact Nat.le_refl _)).symm
  · rw [if_neg q,e]
theorem cut_lo {x:Str} {b:Nat} (hb:b ≤ x.length):(cutS x none (some (b:Int))).cps.toList=x.cps.toList.take b:=by
  have e:cutS x none (some (b:Int))=cutS x (some ((0:Nat):Int)) (some (b:Int)):=by
    unfold cutS
    rw [StrLaws.sliceIdx_none_lo]
    rfl
  rw [e,cut_list (Nat.zero_le _) hb]
  rfl
theorem cut_hi {x:Str} {a:Nat} (ha:a ≤ x.length):(cutS x (some (a:Int)) none).cps.toList=x.cps.toList.drop a:=by
  have e:cutS x (some (a:Int)) none=cutS x (some (a:Int)) (some (x.length:Int)):=by
    unfold cutS
    rw [StrLaws.sliceIdx_none_hi]
  rw [e,cut_list ha (Nat.le_refl _)]
  exact List.take_of_length_le (by rw [List.length_drop,Array.length_toList]; exact Nat.le_refl _)
theorem sgn_at:∀ i:Nat,i < 26→sgn (97 + i)=true:=by decide +kernel
theorem wdG_sgn (n:Int):∀ i,(wdG n i).2.cps.toList.all sgn=true
  | 0=>rfl
  | i + 1=>by
    show (((wdG n i).2.cps ++ #[97 + ((wdG n i).1 / 7 % 26).toNat]:Array Nat).toList).all sgn=true
    rw [Array.toList_append,List.all_append,wdG_sgn n i]
    show (true && (sgn (97 + ((wdG n i).1 / 7 % 26).toNat) && true))=true
    rw [sgn_at _ (by omega)]
    rfl
def NmL (x:Str):Prop:=(D.str x).name=true∧x.length ≤ 8
theorem labS_name {c:Int} {k:Nat} (hk:k ≤ 25):NmL (labS c k):=by
  have hl:=wd_len c
  have hs:=wdG_sgn (lab0 c) (lab0 c % 6).toNat
  have hs:(wd c).cps.toList.all sgn=true:=hs
  obtain ⟨i,ei,hi⟩:∃ i:Nat,c % (((wd c).length:Int) + 1)=(i:Int)∧i ≤ (wd c).length:=by
    have h1:=Int.emod_nonneg c (show (((wd c).length:Int) + 1) ≠ 0 by omega)
    have h2:=Int.emod_lt_of_pos c (show (0:Int) < ((wd c).length:Int) + 1 by omega)
    exact ⟨(c % (((wd c).length:Int) + 1)).toNat,by omega,by omega⟩
  have e:(labS c k).cps.toList=(wd c).cps.toList.take i ++ ([97 + (((k:Int) + c) % 26).toNat,97 + ((k:Int) / 26).toNat] ++ (wd c).cps.toList.drop i):=by
    show ((_ ++ (#[97 + (((k:Int) + c) % 26).toNat] ++ #[97 + ((k:Int) / 26).toNat])) ++ _:Array Nat).toList=_
    rw [Array.toList_append,Array.toList_append,Array.toList_append,List.append_assoc,ei,cut_lo hi,cut_hi hi]
    rfl
  have el:(labS c k).length=(wd c).length + 2:=by
    show (labS c k).cps.size=_
    rw [← Array.length_toList,e,List.length_append,List.length_append,List.length_take,List.length_drop,Array.length_toList]
    have:(wd c).length=(wd c).cps.size:=rfl
    show min i (wd c).cps.size + (2 + ((wd c).cps.size - i))=_
    omega
  refine ⟨?_,by omega⟩
  show ((decide ((1:Int) ≤ ((labS c k).length:Int)) && decide (((labS c k).length:Int) ≤ 8)) && (labS c k).cps.toList.all sgn)=true
  rw [el,decide_eq_true (show (1:Int) ≤ (((wd c).length + 2:Nat):Int) by omega),decide_eq_true (show ((((wd c).length + 2:Nat)):Int) ≤ 8 by omega),e,List.all_append,List.all_append]
  have h1:((wd c).cps.toList.take i).all sgn=true:=List.all_eq_true.mpr fun x hx=>List.all_eq_true.mp hs x (List.mem_of_mem_take hx)
  have h2:((wd c).cps.toList.drop i).all sgn=true:=List.all_eq_true.mpr fun x hx=>List.all_eq_true.mp hs x (List.mem_of_mem_drop hx)
  have h3:([97 + (((k:Int) + c) % 26).toNat,97 + ((k:Int) / 26).toNat]:List Nat).all sgn=true:=by
    show (sgn _ && (sgn _ && true))=true
    rw [sgn_at _ (by omega),sgn_at _ (by omega)]
    rfl
  rw [h1,h2,h3]
  rfl
def spLabel:Sp:=fun vs H Q _=>∃ (k:Nat) (c:Int),vs=[.int k,.int c]∧k ≤ 25∧Q (.str (labS c k)) H
section
variable {P:Program} {w:World} {K:PySem.W.Frag} {mg:Str→Option Value} {base:Heap}
theorem scLabel:FnScope ["_law_k","_law_cell","_law_letters","_law_n","_law_word","_law_step_here","_law_at_here","_law_mark"] ["_law_k","_law_cell"] (defScope sLabel):=⟨rfl,rfl,rfl,by decide +kernel,rfl,by decide +kernel,by decide +kernel⟩
set_option maxHeartbeats 4000000 in
theorem ok_label {f:Addr} {fd:FuncData} (F:Fun K "_law_label" "_law_label" sLabel f fd) (N:Names mg):FnOk P w K mg base CX0 1 f fd ["_law_k","_law_cell"] spLabel:=by
  refine F.ok scLabel (fun vs H Q E h=>?_) (fun cdv A outer s H vs Q E hr h=>?_)
  · obtain ⟨k,c,e,_⟩:=h
    rw [e]
    rfl
  · obtain ⟨k,c,e,hk,z⟩:=h
    subst e
    refine ⟨_,pss_cons (ps_set (i:=2) scLabel.nd rfl (Or.inl rfl) pe_str)
      (pss_cons (ps_set (i:=3) scLabel.nd rfl (Or.inl rfl) (pe_op op_mod (pe_op op_mul (pv 1) pe_int) pe_int))
      (pss_cons (ps_set (i:=4) scLabel.nd rfl (Or.inl rfl) pe_str)
      (pss_cons (ps_for PassesOwn.never rfl (pi_range1 rfl N.range (pa_cons (pe_op op_mod (pv 3) pe_int) pa_nil)) (pg_name (i:=5) scLabel.nd rfl (Or.inl rfl))
        (pss_cons (ps_set (i:=3) scLabel.nd rfl (Or.inl rfl) (pe_op op_fdiv (pv 3) pe_int))
        (pss_one (ps_set (i:=4) scLabel.nd rfl (Or.inl rfl) (pe_op op_add_str (pv 4) (pe_ix ix_str (pv 2) (pe_op op_mod (pv 3) pe_int) (fun _ _=>rfl)))))))
      (pss_cons (ps_set (i:=6) scLabel.nd rfl (Or.inl rfl) (pe_op op_mod (pv 1) (pe_op op_add (pe_callB call_len_str (by rfl) N.len PySem.boot_len (pa_cons (pv 4) pa_nil)) pe_int)))
      (pss_cons (ps_set (i:=7) scLabel.nd rfl (Or.inl rfl) (pe_op op_add_str (pe_ix ix_str (pv 2) (pe_op op_mod (pe_op op_add (pv 0) (pv 1)) pe_int) (fun _ _=>rfl)) (pe_ix ix_str (pv 2) (pe_op op_fdiv (pv 0) pe_int) (fun _ _=>rfl))))
      (pss_one (ps_ret (pe_op op_add_str (pe_op op_add_str (pe_slice sl_strX (pv 4) po_none (po_some (pv 6))) (pv 7)) (pe_slice sl_strX (pv 4) (po_some (pv 6)) po_none))))))))),?_⟩
    refine ⟨_,rfl,_,_,rfl,rfl,.inr ⟨by decide,by decide⟩,_,_,rfl,rfl,(by show (0:Int) < 10000000000037; decide),?_⟩
    have h6:0 ≤ lab0 c % 6∧lab0 c % 6 < 6:=by omega
    refine ⟨_,rfl,_,_,rfl,rfl,(by show (0:Int) < 6; decide),lab0 c % 6,rfl,by omega,by omega,?_⟩
    refine for_range (n:=(lab0 c % 6).toNat) (fun i σ H2=>∃ u5:Option V,H2=H∧σ=[some (.int k),some (.int c),some (.str alpha),some (.int (wdG (lab0 c) i).1),some (.str (wdG (lab0 c) i).2),u5,none,none]) ⟨_,rfl,rfl⟩ ?_ ?_
    · rintro i σ H2 hi ⟨u5,rfl,rfl⟩
      have hl:=wdG_len (lab0 c) i
      refine ⟨_,rfl,_,_,rfl,rfl,⟨by decide,by decide⟩,?_⟩
      refine ⟨_,rfl,_,rfl,_,rfl,_,_,rfl,rfl,(by show (0:Int) < 26; decide),alpha,_,_,rfl,rfl,smallE (by rw [alpha_len]; omega),alpha_at (by omega) (by omega),_,_,rfl,rfl,smallE (by show (wdG (lab0 c) i).2.length + 1 ≤ 100000; omega),?_⟩
      exact ⟨_,rfl,rfl⟩
    · rintro σ H2 ⟨u5,rfl,rfl⟩
      have hw:(wdG (lab0 c) (lab0 c % 6).toNat).2=wd c:=rfl
      rw [hw]
      have hl:=wd_len c
      refine ⟨_,rfl,_,rfl,wd c,rfl,smallE (by omega),_,_,rfl,rfl,_,_,rfl,rfl,(by show (0:Int) < ((wd c).length:Int) + 1; omega),?_⟩
      refine ⟨_,rfl,_,rfl,_,rfl,_,_,rfl,rfl,_,_,rfl,rfl,(by show (0:Int) < 26; decide),alpha,_,_,rfl,rfl,smallE (by rw [alpha_len]; omega),alpha_at (by omega) (by omega),_,rfl,_,rfl,_,_,rfl,rfl,⟨by decide,by decide⟩,alpha,_,_,rfl,rfl,smallE (by rw [alpha_len]; omega),alpha_at (by omega) (by omega),_,_,rfl,rfl,smallE (by show 1 + 1 ≤ 100000; omega),?_⟩
      have c1:=cutS_le (wd c) none (some (c % ((wd c).length + 1)))
      have c2:=cutS_le (wd c) (some (c % ((wd c).length + 1))) none
      refine ⟨_,rfl,_,rfl,_,rfl,wd c,rfl,smallE (by omega),_,rfl,_,_,rfl,rfl,smallE (by show _ + 2 ≤ 100000; omega),_,rfl,_,rfl,_,rfl,wd c,rfl,smallE (by omega),_,_,rfl,rfl,smallE (by rw [Str.length_append]; show _ + 2 + _ ≤ 100000; omega),z⟩
end
end B06
namespace B06
open PySem L2 S2
theorem atM_ints {xs:List Int} {i:Int} (h0:0 ≤ i) (h1:i < (xs.length:Int)):∃ y ∈ xs,atI (xs.map V.int) i=some (.int y):=by
  obtain ⟨k,rfl,hk⟩:=nat_of (z:=i) (n:=xs.length) h0 h1
  exact ⟨xs[k],List.getElem_mem hk,atI_nat (by rw [List.getElem?_map,List.getElem?_eq_getElem hk]; rfl)⟩
theorem atM_strs {xs:List Str} {i:Int} (h0:0 ≤ i) (h1:i < (xs.length:Int)):∃ y ∈ xs,atI (xs.map V.str) i=some (.str y):=by
  obtain ⟨k,rfl,hk⟩:=nat_of (z:=i) (n:=xs.length) h0 h1
  exact ⟨xs[k],List.getElem_mem hk,atI_nat (by rw [List.getElem?_map,List.getElem?_eq_getElem hk]; rfl)⟩
theorem bt_of {i a b:Int} (h1:a ≤ i) (h2:i ≤ b):(D.int i).between a b=true:=by
  show (decide (a ≤ i) && decide (i ≤ b))=true
  rw [decide_eq_true h1,decide_eq_true h2]
  rfl
theorem bounds_of {a b:Int} (h0:0 ≤ a) (h1:a ≤ b) (h2:b ≤ 1000000):(D.tup [.int a,.int b]).bounds=true:=by
  show ((D.int a).size && ((D.int b).size && decide (a ≤ b)))=true
  rw [show (D.int a).size=true from bt_of h0 (by omega),show (D.int b).size=true from bt_of (by omega) h2,decide_eq_true h1]
  rfl
def spSpanD (K:PySem.W.Frag):Sp:=fun vs H Q _=>∃ n:Int,vs=[.int n]∧∀ (d:D) (v:V) (H':Hp),Same H H'→At K H' v d→d.bounds=true→Q v H'
def spOwnD (K:PySem.W.Frag):Sp:=fun vs H Q _=>∃ (n:Int) (al:Bool),vs=[.int n,.bl al]∧∀ (d:D) (v:V) (H':Hp),Same H H'→At K H' v d→d.own=true→(al=false→alO d ≤ 0)→Q v H'
def spLeafD (K:PySem.W.Frag):Sp:=fun vs H Q _=>∃ (nm:Str) (n:Int),vs=[.str nm,.int n]∧NmL nm∧∀ (ow wh:D) (v:V) (H':Hp),Same H H'→At K H' v (Bx.mk "leaf" nm ow wh []).toD→(Bx.mk "leaf" nm ow wh []).Ok→Q v H'
def spWithinD (K:PySem.W.Frag):Sp:=fun vs H Q _=>∃ (kd nm:Str) (n:Int) (l:Addr) (xs:List V) (bs:List Bx) (al:Bool),vs=[.str kd,.str nm,.int n,.ref l,.bl al]∧(kd="row" ∨ kd="column" ∨ kd="wrap" ∨ kd="table")∧NmL nm∧H l=some (.lst xs)∧Ats K H xs (toDs bs)∧bs.length ≤ 20∧Oks bs∧(kd="table"→al=false∧NoAls bs) ∧
  ∀ (ow wh:D) (v:V) (H':Hp),Same H H'→At K H' v (Bx.mk kd nm ow wh bs).toD→(Bx.mk kd nm ow wh bs).Ok→(al=false→alO ow ≤ 0)→Q v H'
theorem own_of {d1 d2:D} {c e f g:Int} (h1:d1.bounds=true) (h2:d2.bounds=true) (c0:0 ≤ c) (c1:c ≤ 99) (e0:0 ≤ e) (e1:e ≤ 99) (f0:0 ≤ f) (f1:f ≤ 9) (g0:0 ≤ g) (g1:g ≤ 9):(D.tup [d1,d2,.int c,.int e,.int f,.int g]).own=true:=by
  show (d1.bounds && d2.bounds && ((D.int c).between 0 99 && (D.int e).between 0 99) && ((D.int f).between 0 9 && (D.int g).between 0 9))=true
  rw [h1,h2,bt_of c0 c1,bt_of e0 e1,bt_of f0 f1,bt_of g0 g1]
  rfl
theorem leafW_of {a b:Int} (a0:0 ≤ a) (a1:a ≤ 1000000) (b0:0 ≤ b) (b1:b ≤ 1000000):whatS "leaf" (.tup [.int a,.int b]) 0=true:=by
  have e:whatS "leaf" (.tup [.int a,.int b]) 0=(D.tup [.int a,.int b]).leafW 0:=(if_neg (by decide +kernel)).trans (if_pos (by decide +kernel))
  rw [e]
  show (true && ((D.int a).size && (D.int b).size))=true
  rw [show (D.int a).size=true from bt_of a0 a1,show (D.int b).size=true from bt_of b0 b1]
  rfl
theorem linedW_of {kd al sd:Str} {g:Int} {n:Nat} (hk:kd="row" ∨ kd="column" ∨ kd="wrap") (g0:0 ≤ g) (g1:g ≤ 1000) (ha:al ∈ (["start","end","mid","mid2"]:List Str)) (hs:sd ∈ (["left","right"]:List Str)) (hn:n ≤ 20):whatS kd (.tup [.int g,.str al,.str sd]) n=true:=by
  have e:whatS kd (.tup [.int g,.str al,.str sd]) n=(D.tup [.int g,.str al,.str sd]).linedW n:=if_pos (by rcases hk with rfl | rfl | rfl <;> decide +kernel)
  rw [e]
  show (decide ((n:Int) ≤ 20) && ((D.int g).gap && (inV (.str al) wAligns && inV (.str sd) wSides)))=true
  have e1:inV (.str al) wAligns=true:=(by decide +kernel:∀ x ∈ (["start","end","mid","mid2"]:List Str),inV (.str x) wAligns=true) al ha
  have e2:inV (.str sd) wSides=true:=(by decide +kernel:∀ x ∈ (["left","right"]:List Str),inV (.str x) wSides=true) sd hs
  rw [decide_eq_true (show (n:Int) ≤ 20 by omega),show (D.int g).gap=true from bt_of g0 g1,e1,e2]
  rfl
theorem tableW_of {sd:Str} {g:Int} {n cols:Nat} {sps:List (Nat × Nat)} (g0:0 ≤ g) (g1:g ≤ 1000) (hs:sd ∈ (["left","right"]:List Str)) (hn:n ≤ 20) (c1:1 ≤ cols) (c2:cols ≤ 12) (hl:sps.length=n) (hsp:∀ sp ∈ sps,1 ≤ sp.1∧sp.1 ≤ cols∧1 ≤ sp.2∧sp.2 ≤ 2):whatS "table" (.tup [.int (cols:Int),.int g,.str sd,.tup (sps.map dS)]) n=true:=by
  have e:whatS "table" (.tup [.int (cols:Int),.int g,.str sd,.tup (sps.map dS)]) n=(D.tup [.int (cols:Int),.int g,.str sd,.tup (sps.map dS)]).tableW n:=by
    unfold whatS
    rw [if_neg (by decide +kernel),if_neg (by decide +kernel),decide_eq_true rfl,Bool.true_and]
  rw [e]
  have e2:inV (.str sd) wSides=true:=(by decide +kernel:∀ x ∈ (["left","right"]:List Str),inV (.str x) wSides=true) sd hs
  show (decide ((n:Int) ≤ 40) && (((D.int (cols:Int)).between 1 12 && ((D.int g).gap && inV (.str sd) wSides)) && (decide (((sps.map dS).length:Int)=(n:Int)) && (sps.map dS).all fun s=>s.span (cols:Int))))=true
  have e3:((sps.map dS).all fun s=>s.span (cols:Int))=true:=List.all_eq_true.mpr fun d hd=>by
    obtain ⟨sp,hm,rfl⟩:=List.mem_map.mp hd
    obtain ⟨z1,z2,z3,z4⟩:=hsp sp hm
    show ((D.int (sp.1:Int)).between 1 (cols:Int) && (D.int (sp.2:Int)).between 1 12)=true
    rw [bt_of (by omega) (by omega),bt_of (by omega) (by omega)]
    rfl
  rw [decide_eq_true (show (n:Int) ≤ 40 by omega),bt_of (by omega) (by omega),show (D.int g).gap=true from bt_of g0 g1,e2,decide_eq_true (show ((sps.map dS).length:Int)=(n:Int) by rw [List.length_map,hl]),e3]
  rfl
theorem sumH_le {sps:List (Nat × Nat)} (h:∀ sp ∈ sps,sp.2 ≤ 2):sumH sps ≤ 2 * sps.length:=by
  induction sps with
  | nil=>exact Nat.le_refl _
  | cons a l ih =>
    have e:sumH (a :: l)=a.2 + sumH l:=by unfold sumH; rw [List.map_cons,List.sum_cons]
    have h1:=h a List.mem_cons_self
    have h2:=ih fun sp hsp=>h sp (List.mem_cons_of_mem _ hsp)
    rw [e,List.length_cons]
    omega
theorem box_at {K:PySem.W.Frag} {H:Hp} {b:Addr} {kd nm:Str} {ow wh:D} {vo vw vp:V} {bs:List Bx} (h:H b=some (.tup [.str kd,.str nm,vo,vw,vp])) (hk:kd.length ≤ 100000) (hn:nm.length ≤ 100000) (ho:At K H vo ow) (hw:At K H vw wh) (hp:At K H vp (.tup (toDs bs))):At K H (.ref b) (Bx.mk kd nm ow wh bs).toD:=by
  rw [Bx.toD]
  exact Ats.tup ((((Ats.nil.snoc (.str kd (smallE hk))).snoc (.str nm (smallE hn))).snoc ho).snoc hw |>.snoc hp) h
section
variable {P:Program} {w:World} {K:PySem.W.Frag} {mg:Str→Option Value} {base:Heap} {tk:Nat→Tok} {ad:Nat→Addr}
abbrev nLSpan:List Str:=["_law_n","_law_least"]
theorem scLSpan:FnScope nLSpan ["_law_n"] (defScope sLawSpan):=⟨rfl,rfl,rfl,by decide +kernel,rfl,by decide +kernel,by decide +kernel⟩
set_option maxHeartbeats 16000000 in
theorem ok_lSpan {f:Addr} {fd:FuncData} (F:Fun K "_law_span" "_law_span" sLawSpan f fd) (N:Names mg):FnOk P w K mg base CX0 1 f fd ["_law_n"] (spSpanD K):=by
  refine F.ok scLSpan (fun vs H Q E h=>?_) (fun cdv A outer s H vs Q E hr h=>?_)
  · obtain ⟨n,e,_⟩:=h
    rw [e]
    rfl
  · obtain ⟨n,e,k⟩:=h
    subst e
    refine ⟨_,pss_cons (ps_set (i:=1) scLSpan.nd rfl (Or.inl rfl) (pe_ix ix_list (pe_lst (pa_cons pe_int (pa_cons (pe_op op_mod (pv 0) pe_int) (pa_cons (pe_op op_mod (pv 0) pe_int) pa_nil)))) (pe_op op_mod (pe_op op_fdiv (pv 0) pe_int) pe_int) (fun _ _=>rfl)))
      (pss_one (ps_ret (pe_tup (pa_cons (pv 1) (pa_cons (pe_ix ix_list (pe_lst (pa_cons (pe_op op_pow pe_int pe_int) (pa_cons (pe_op op_add (pv 1) (pe_op op_mod (pe_op op_fdiv (pv 0) pe_int) pe_int)) pa_nil))) (pe_op op_mod (pe_op op_fdiv (pv 0) pe_int) pe_int) (fun _ _=>rfl)) pa_nil))))),?_⟩
    try rw [show (cxOf CX0 P w K mg base nLSpan "_law_span" (defScope sLawSpan) f cdv A outer s H E).nox.K=K from rfl]
    refine seq_abs fun N1 hN=>?_
    refine ⟨_,rfl,_,_,rfl,rfl,(by show (0:Int) < 4; decide),_,rfl,_,_,rfl,rfl,(by show (0:Int) < 30; decide),(by show 3 ≤ sizeLine; decide),fun l1 hl1=>?_⟩
    obtain ⟨y,my,hy⟩:=atM_ints (xs:=[0,n % 4,n % 30]) (i:=n / 30 % 3) (by omega) (by show n / 30 % 3 < 3; omega)
    refine ⟨_,rfl,_,_,rfl,rfl,⟨by decide,by decide⟩,_,_,rfl,rfl,(by show (0:Int) < 3; decide),l1,_,_,_,rfl,rfl,SqL.of upd_same,hy,?_⟩
    generalize hG:upd H l1 _=H1
    have s1:Same H H1:=by rw [← hG]; exact Same.put (Same.refl _) hl1
    have h1:H1 l1=some (.lst [V.int 0,V.int (n % 4),V.int (n % 30)]):=by rw [← hG]; exact upd_same
    clear hG
    have hy0:0 ≤ y∧y ≤ 29:=by
      simp only [List.mem_cons,List.not_mem_nil,or_false] at my
      omega
    refine hN _ _ ?_
    clear hN N1
    refine ⟨_,rfl,_,_,rfl,rfl,⟨by decide,by decide,by decide⟩,_,rfl,_,rfl,_,_,rfl,rfl,⟨by decide,by decide⟩,_,_,rfl,rfl,(by show (0:Int) < 50; decide),_,_,rfl,rfl,(by show 2 ≤ sizeLine; decide),fun l2 hl2=>?_⟩
    obtain ⟨y2,my2,hy2⟩:=atM_ints (xs:=[10 ^ (6:Int).toNat,y + n / 90 % 50]) (i:=n / 4500 % 2) (by omega) (by show n / 4500 % 2 < 2; omega)
    refine ⟨_,rfl,_,_,rfl,rfl,⟨by decide,by decide⟩,_,_,rfl,rfl,(by show (0:Int) < 2; decide),l2,_,_,_,rfl,rfl,SqL.of upd_same,hy2,(by show 2 ≤ sizeLine; decide),fun p hp=>?_⟩
    have s2:=Same.put (o:=.lst [V.int (10 ^ (6:Int).toNat),V.int (y + n / 90 % 50)]) s1 (same_none s1 hl2)
    have hb:y ≤ y2∧y2 ≤ 1000000:=by
      have e6:(10:Int) ^ (6:Int).toNat=1000000:=by decide
      rw [e6] at my2
      simp only [List.mem_cons,List.not_mem_nil,or_false] at my2
      omega
    exact k (.tup [.int y,.int y2]) (.ref p) _ (Same.put s2 (same_none s2 hp)) (Ats.tup ((Ats.nil.snoc (.int y)).snoc (.int y2)) upd_same) (bounds_of hy0.1 hb.1 hb.2)
abbrev nLOwn:List Str:=["_law_n","_law_alike","_law_wide","_law_high","_law_group"]
theorem scLOwn:FnScope nLOwn ["_law_n","_law_alike"] (defScope sLawOwn):=⟨rfl,rfl,rfl,by decide +kernel,rfl,by decide +kernel,by decide +kernel⟩
set_option maxHeartbeats 16000000 in
theorem ok_lOwn {f f1:Addr} {fd d1:FuncData} (F:Fun K "_law_own" "_law_own" sLawOwn f fd) (N:Names mg)
    (G1:FnOk P w K mg base CX0 1 f1 d1 ["_law_n"] (spSpanD K)) (b1:Binds K d1 ["_law_n"] []) (m1:mg "_law_span"=some (.ref f1)) (k1:PySem.W.keepIn K (.ref f1)=true):FnOk P w K mg base CX0 2 f fd ["_law_n","_law_alike"] (spOwnD K):=by
  refine F.ok scLOwn (fun vs H Q E h=>?_) (fun cdv A outer s H vs Q E hr h=>?_)
  · obtain ⟨n,al,e,_⟩:=h
    rw [e]
    rfl
  · obtain ⟨n,al,e,k⟩:=h
    subst e
    have hr1:=hr.mono (j:=1) (by decide)
    refine ⟨_,pss_cons (ps_set (i:=2) scLOwn.nd rfl (Or.inl rfl) (pe_call G1 hr1 (by rfl) m1 k1 b1 .nil pass0 (pa_cons (pe_op op_mod (pv 0) pe_int) pa_nil)))
      (pss_cons (ps_set (i:=3) scLOwn.nd rfl (Or.inl rfl) (pe_call G1 hr1 (by rfl) m1 k1 b1 .nil pass0 (pa_cons (pe_op op_mod (pe_op op_fdiv (pv 0) pe_int) pe_int) pa_nil)))
      (pss_cons (ps_set (i:=0) scLOwn.nd rfl (Or.inl rfl) (pe_op op_fdiv (pv 0) pe_int))
      (pss_cons (ps_set (i:=4) scLOwn.nd rfl (Or.inl rfl) (pe_op op_mul (pe_ix ix_list (pe_lst (pa_cons pe_int (pa_cons pe_int (pa_cons pe_int (pa_cons pe_int pa_nil))))) (pe_op op_mod (pe_op op_fdiv (pv 0) pe_int) pe_int) (fun _ _=>rfl)) (pe_callTy call_int1 (by rfl) N.int PyProof.Rows.boot_int (pa_cons (pv 1) pa_nil))))
      (pss_one (ps_ret (pe_tup (pa_cons (pv 2) (pa_cons (pv 3) (pa_cons (pe_op op_mod (pv 0) pe_int) (pa_cons (pe_op op_mod (pe_op op_fdiv (pv 0) pe_int) pe_int) (pa_cons (pe_op op_mod (pe_op op_fdiv (pv 0) pe_int) pe_int) (pa_cons (pv 4) pa_nil)))))))))))),?_⟩
    try rw [show (cxOf CX0 P w K mg base nLOwn "_law_own" (defScope sLawOwn) f cdv A outer s H E).nox.K=K from rfl]
    refine seq_abs fun N1 hN=>?_
    refine ⟨_,rfl,_,_,rfl,rfl,(by show (0:Int) < 9000; decide),_,rfl,fun d1 p1 H1 s1 a1 b1=>?_⟩
    refine hN _ _ ?_
    clear hN N1
    refine seq_abs fun N1 hN=>?_
    refine ⟨_,rfl,_,_,rfl,rfl,⟨by decide,by decide⟩,_,_,rfl,rfl,(by show (0:Int) < 9000; decide),_,rfl,fun d2 p2 H2 s2 a2 b2=>?_⟩
    refine hN _ _ ?_
    clear hN N1
    refine seq_abs fun N1 hN=>?_
    refine ⟨_,rfl,_,_,rfl,rfl,⟨by decide,by decide⟩,?_⟩
    refine hN _ _ ?_
    clear hN N1
    dsimp only
    generalize n / 81000000=r
    refine seq_abs fun N1 hN=>?_
    refine ⟨(by show 4 ≤ sizeLine; decide),fun l1 hl1=>?_⟩
    obtain ⟨y,my,hy⟩:=atM_ints (xs:=[0,0,1,2]) (i:=r / 160 % 4) (by omega) (by show r / 160 % 4 < 4; omega)
    refine ⟨_,rfl,_,_,rfl,rfl,⟨by decide,by decide⟩,_,_,rfl,rfl,(by show (0:Int) < 4; decide),l1,_,_,_,rfl,rfl,SqL.of upd_same,hy,_,rfl,.inr ⟨al,rfl,_,_,rfl,rfl,.inr ⟨by cases al <;> decide,by cases al <;> decide⟩,?_⟩⟩
    have hy0:0 ≤ y∧y ≤ 2:=by
      simp only [List.mem_cons,List.not_mem_nil,or_false] at my
      omega
    have s3:=Same.put (o:=.lst [V.int 0,V.int 0,V.int 1,V.int 2]) (Same.trans s1 s2) (same_none (Same.trans s1 s2) hl1)
    have t3:Same H2 (upd H2 l1 (.lst [V.int 0,V.int 0,V.int 1,V.int 2])):=Same.put (Same.refl _) hl1
    generalize upd H2 l1 (.lst [V.int 0,V.int 0,V.int 1,V.int 2])=H3 at *
    refine hN _ _ ?_
    clear hN N1
    obtain ⟨g,eg,g0,g1,g2⟩:∃ g:Int,y * (if al=true then 1 else 0)=g∧0 ≤ g∧g ≤ 9∧(al=false→g ≤ 0):=by
      cases al with
      | true=>exact ⟨y,by simp,by omega,by omega,fun z=>nomatch z⟩
      | false=>exact ⟨0,by simp,by decide,by decide,fun _=>by decide⟩
    refine ⟨_,rfl,_,rfl,_,rfl,_,_,rfl,rfl,(by show (0:Int) < 4; decide),_,rfl,_,_,rfl,rfl,⟨by decide,by decide⟩,_,_,rfl,rfl,(by show (0:Int) < 4; decide),_,rfl,_,_,rfl,rfl,⟨by decide,by decide⟩,_,_,rfl,rfl,(by show (0:Int) < 10; decide),_,rfl,(by show 6 ≤ sizeLine; decide),fun p hp=>?_⟩
    have s4:=Same.put (o:=.tup [p1,p2,.int (r % 4),.int (r / 4 % 4),.int (r / 16 % 10),.int (y * (if al=true then 1 else 0))]) (Same.refl H3) hp
    refine k (.tup [d1,d2,.int (r % 4),.int (r / 4 % 4),.int (r / 16 % 10),.int g]) (.ref p) _ (Same.trans s3 s4) ?_ (own_of b1 b2 (by omega) (by omega) (by omega) (by omega) (by omega) (by omega) g0 g1) g2
    rw [← eg]
    exact Ats.tup ((((((Ats.nil.snoc (a1.same (Same.trans s2 (Same.trans t3 s4)))).snoc (a2.same (Same.trans t3 s4))).snoc (.int _)).snoc (.int _)).snoc (.int _)).snoc (.int _)) upd_same
abbrev nLLeaf:List Str:=["_law_name","_law_n","_law_own_here","_law_rest"]
theorem scLLeaf:FnScope nLLeaf ["_law_name","_law_n"] (defScope sLawLeaf):=⟨rfl,rfl,rfl,by decide +kernel,rfl,by decide +kernel,by decide +kernel⟩
set_option maxHeartbeats 16000000 in
theorem ok_lLeaf {f f1:Addr} {fd d1:FuncData} (F:Fun K "_law_leaf" "_law_leaf" sLawLeaf f fd) (N:Names mg)
    (G1:FnOk P w K mg base CX0 2 f1 d1 ["_law_n","_law_alike"] (spOwnD K)) (b1:Binds K d1 ["_law_n","_law_alike"] []) (m1:mg "_law_own"=some (.ref f1)) (k1:PySem.W.keepIn K (.ref f1)=true):FnOk P w K mg base CX0 3 f fd ["_law_name","_law_n"] (spLeafD K):=by
  refine F.ok scLLeaf (fun vs H Q E h=>?_) (fun cdv A outer s H vs Q E hr h=>?_)
  · obtain ⟨nm,n,e,_⟩:=h
    rw [e]
    rfl
  · obtain ⟨nm,n,e,hnm,k⟩:=h
    subst e
    have hr2:=hr.mono (j:=2) (by decide)
    refine ⟨_,pss_cons (ps_set (i:=2) scLLeaf.nd rfl (Or.inl rfl) (pe_call G1 hr2 (by rfl) m1 k1 b1 .nil pass0 (pa_cons (pe_op op_fdiv (pv 1) pe_int) (pa_cons (pe_cmpR op_eq (pe_op op_mod (pv 1) pe_int) pe_int (nomark _)) pa_nil))))
      (pss_cons (ps_set (i:=3) scLLeaf.nd rfl (Or.inl rfl) (pe_op op_fdivC (pe_op op_fdiv (pv 1) pe_int) pe_int))
      (pss_one (ps_ret (pe_tup (pa_cons pe_str (pa_cons (pv 0) (pa_cons (pv 2) (pa_cons (pe_tup (pa_cons (pe_op op_mod (pv 3) pe_int) (pa_cons (pe_op op_mod (pe_op op_fdiv (pv 3) pe_int) pe_int) pa_nil))) (pa_cons (pe_tup pa_nil) pa_nil))))))))),?_⟩
    try rw [show (cxOf CX0 P w K mg base nLLeaf "_law_leaf" (defScope sLawLeaf) f cdv A outer s H E).nox.K=K from rfl]
    refine seq_abs fun N1 hN=>?_
    refine ⟨_,rfl,_,_,rfl,rfl,⟨by decide,by decide⟩,_,rfl,_,_,rfl,rfl,(by show (0:Int) < 3; decide),rfl,_,_,rfl,fun ow o H1 s1 aO hO _=>?_⟩
    refine hN _ _ ?_
    clear hN N1
    refine seq_abs fun N1 hN=>?_
    refine ⟨_,rfl,_,_,rfl,rfl,⟨by decide,by decide⟩,_,_,rfl,rfl,⟨by decide,by decide +kernel⟩,?_⟩
    refine hN _ _ ?_
    clear hN N1
    dsimp only
    generalize n / 100 / 51840000000=r
    refine ⟨_,rfl,_,rfl,_,rfl,_,_,rfl,rfl,(by show (0:Int) < 40; decide),_,rfl,_,_,rfl,rfl,⟨by decide,by decide⟩,_,_,rfl,rfl,(by show (0:Int) < 12; decide),(by show 2 ≤ sizeLine; decide),fun p2 hp2=>?_⟩
    generalize hG:upd H1 p2 _=H2
    have s2:Same H1 H2:=by rw [← hG]; exact Same.put (Same.refl _) hp2
    have h2:H2 p2=some (.tup [V.int (r % 40),V.int (r / 40 % 12)]):=by rw [← hG]; exact upd_same
    clear hG
    refine ⟨(by show 0 ≤ sizeLine; decide),fun q hq=>?_⟩
    generalize hG:upd H2 q _=H3
    have s3:Same H2 H3:=by rw [← hG]; exact Same.put (Same.refl _) hq
    have h3:H3 q=some (.tup []):=by rw [← hG]; exact upd_same
    clear hG
    refine ⟨(by show 5 ≤ sizeLine; decide),fun b hb=>?_⟩
    have S3:=Same.trans s1 (Same.trans s2 s3)
    have S4:=Same.put (o:=.tup [V.str "leaf",V.str nm,o,V.ref p2,V.ref q]) (Same.refl H3) hb
    refine k ow (.tup [.int (r % 40),.int (r / 40 % 12)]) (.ref b) _ (Same.trans S3 S4) (box_at upd_same (by decide +kernel) (by have:=hnm.2; omega) ((aO.same (Same.trans s2 s3)).same S4) (Ats.tup ((Ats.nil.snoc (.int _)).snoc (.int _)) (S4 _ _ (s3 _ _ h2))) (by rw [toDs]; exact Ats.tup Ats.nil (S4 _ _ h3))) ?_
    rw [Bx.Ok]
    refine ⟨⟨.inl rfl,hnm.1,by have:=hnm.2; omega,hO,leafW_of (by omega) (by omega) (by omega) (by omega),fun z=>absurd z (by decide +kernel)⟩,fun z=>absurd z (by decide +kernel),by rw [Oks]; trivial⟩
end
end B06
namespace B06
open PySem L2 S2
section
variable {P:Program} {w:World} {K:PySem.W.Frag} {mg:Str→Option Value} {base:Heap} {tk:Nat→Tok} {ad:Nat→Addr}
abbrev nLWithin:List Str:=["_law_kind","_law_name","_law_n","_law_some","_law_alike","_law_own_here","_law_rest","_law_gap","_law_side","_law_align","_law_columns","_law_spans","_law_k","_law_far"]
theorem scLWithin:FnScope nLWithin ["_law_kind","_law_name","_law_n","_law_some","_law_alike"] (defScope sLawWithin):=⟨rfl,rfl,rfl,by decide +kernel,rfl,by decide +kernel,by decide +kernel⟩
set_option maxHeartbeats 16000000 in
theorem ok_lWithin {f f1:Addr} {fd d1:FuncData} (F:Fun K "_law_within" "_law_within" sLawWithin f fd) (N:Names mg)
    (G1:FnOk P w K mg base CX0 2 f1 d1 ["_law_n","_law_alike"] (spOwnD K)) (b1:Binds K d1 ["_law_n","_law_alike"] []) (m1:mg "_law_own"=some (.ref f1)) (k1:PySem.W.keepIn K (.ref f1)=true):FnOk P w K mg base CX0 3 f fd ["_law_kind","_law_name","_law_n","_law_some","_law_alike"] (spWithinD K):=by
  refine F.ok scLWithin (fun vs H Q E h=>?_) (fun cdv A outer s H vs Q E hr h=>?_)
  · obtain ⟨kd,nm,n,l,xs,bs,al,e,_⟩:=h
    rw [e]
    rfl
  · obtain ⟨kd,nm,n,l,xs,bs,al,e,hkd,hnm,hl,hA,h20,hoks,htb,k⟩:=h
    subst e
    have hr2:=hr.mono (j:=2) (by decide)
    refine ⟨_,pss_cons (ps_set (i:=5) scLWithin.nd rfl (Or.inl rfl) (pe_call G1 hr2 (by rfl) m1 k1 b1 .nil pass0 (pa_cons (pe_op op_fdiv (pv 2) pe_int) (pa_cons (pv 4) pa_nil))))
      (pss_cons (ps_set (i:=6) scLWithin.nd rfl (Or.inl rfl) (pe_op op_fdivC (pe_op op_fdiv (pv 2) pe_int) pe_int))
      (pss_cons (ps_set (i:=7) scLWithin.nd rfl (Or.inl rfl) (pe_ix ix_list (pe_lst (pa_cons pe_int (pa_cons pe_int (pa_cons (pe_op op_mod (pe_op op_fdiv (pv 6) pe_int) pe_int) (pa_cons (pe_op op_mod (pe_op op_fdiv (pv 6) pe_int) pe_int) pa_nil))))) (pe_op op_mod (pe_op op_fdiv (pv 6) pe_int) pe_int) (fun _ _=>rfl)))
      (pss_cons (ps_set (i:=8) scLWithin.nd rfl (Or.inl rfl) (pe_ix ix_list (pe_lst (pa_cons pe_str (pa_cons pe_str pa_nil))) (pe_op op_mod (pv 6) pe_int) (fun _ _=>rfl)))
      (pss_cons (ps_if (pt_cmpR op_ne (pv 0) pe_str (nomark _)) (pss_cons (ps_set (i:=9) scLWithin.nd rfl (Or.inl rfl) (pe_ix ix_list (pe_lst (pa_cons pe_str (pa_cons pe_str (pa_cons pe_str (pa_cons pe_str pa_nil))))) (pe_op op_mod (pe_op op_fdiv (pv 6) pe_int) pe_int) (fun _ _=>rfl)))
        (pss_one (ps_ret (pe_tup (pa_cons (pv 0) (pa_cons (pv 1) (pa_cons (pv 5) (pa_cons (pe_tup (pa_cons (pv 7) (pa_cons (pv 9) (pa_cons (pv 8) pa_nil)))) (pa_cons (pe_callTy call_tuple_of (by rfl) N.tuple PyProof.Rows.boot_tuple (pa_cons (pv 3) pa_nil)) pa_nil))))))))) pss_nil)
      (pss_cons (ps_set (i:=10) scLWithin.nd rfl (Or.inl rfl) (pe_op op_add pe_int (pe_op op_mod (pe_op op_fdiv (pv 6) pe_int) pe_int)))
      (pss_cons (ps_set (i:=11) scLWithin.nd rfl (Or.inl rfl) (pe_lst pa_nil))
      (pss_cons (ps_for PassesOwn.never rfl (pi_range1 rfl N.range (pa_cons (pe_callB call_len_seq (by rfl) N.len PySem.boot_len (pa_cons (pv 3) pa_nil)) pa_nil)) (pg_name (i:=12) scLWithin.nd rfl (Or.inl rfl))
        (pss_cons (ps_set (i:=13) scLWithin.nd rfl (Or.inl rfl) (pe_op op_add (pe_op op_fdiv (pv 6) pe_int) (pe_op op_mul (pv 12) (pv 12))))
        (pss_one (ps_expr (pe_bm PySem.F.plainAttrs_list PySem.F.slot_list_append PySem.F.type_list_append mt_append (pv 11) (pa_cons (pe_tup (pa_cons (pe_op op_add pe_int (pe_op op_mod (pv 13) (pv 10))) (pa_cons (pe_op op_add pe_int (pe_op op_mod (pe_op op_fdiv (pv 13) pe_int) pe_int)) pa_nil))) pa_nil))))))
      (pss_one (ps_ret (pe_tup (pa_cons (pv 0) (pa_cons (pv 1) (pa_cons (pv 5) (pa_cons (pe_tup (pa_cons (pv 10) (pa_cons (pv 7) (pa_cons (pv 8) (pa_cons (pe_callTy call_tuple_of (by rfl) N.tuple PyProof.Rows.boot_tuple (pa_cons (pv 11) pa_nil)) pa_nil))))) (pa_cons (pe_callTy call_tuple_of (by rfl) N.tuple PyProof.Rows.boot_tuple (pa_cons (pv 3) pa_nil)) pa_nil))))))))))))))),?_⟩
    try rw [show (cxOf CX0 P w K mg base nLWithin "_law_within" (defScope sLawWithin) f cdv A outer s H E).nox.K=K from rfl]
    have lx:xs.length=bs.length:=by rw [hA.1,toDs_len]
    have hnl:nm.length ≤ 100000:=by have:=hnm.2; omega
    have hkl:kd.length ≤ 100000:=by
      have:∀ x ∈ (["row","column","wrap","table"]:List Str),x.length ≤ 100000:=by decide +kernel
      exact this kd (by rcases hkd with rfl | rfl | rfl | rfl <;> simp)
    refine seq_abs fun N1 hN=>?_
    refine ⟨_,rfl,_,_,rfl,rfl,⟨by decide,by decide⟩,_,rfl,_,_,rfl,fun ow o H1 s1 aO hO hal=>?_⟩
    refine hN _ _ ?_
    clear hN N1
    refine seq_abs fun N1 hN=>?_
    refine ⟨_,rfl,_,_,rfl,rfl,⟨by decide,by decide⟩,_,_,rfl,rfl,⟨by decide,by decide +kernel⟩,?_⟩
    refine hN _ _ ?_
    clear hN N1
    dsimp only
    generalize n / 100 / 51840000000=r
    refine seq_abs fun N1 hN=>?_
    refine ⟨_,rfl,_,_,rfl,rfl,⟨by decide,by decide⟩,_,_,rfl,rfl,(by show (0:Int) < 4; decide),_,rfl,_,_,rfl,rfl,⟨by decide,by decide⟩,_,_,rfl,rfl,(by show (0:Int) < 30; decide),(by show 4 ≤ sizeLine; decide),fun l1 hl1=>?_⟩
    obtain ⟨y,my,hy⟩:=atM_ints (xs:=[0,1,r / 8 % 4,r / 8 % 30]) (i:=r / 960 % 4) (by omega) (by show r / 960 % 4 < 4; omega)
    refine ⟨_,rfl,_,_,rfl,rfl,⟨by decide,by decide⟩,_,_,rfl,rfl,(by show (0:Int) < 4; decide),l1,_,_,_,rfl,rfl,SqL.of upd_same,hy,?_⟩
    generalize hG:upd H1 l1 _=H2
    have s2:Same H1 H2:=by rw [← hG]; exact Same.put (Same.refl _) hl1
    have h2:H2 l1=some (.lst [V.int 0,V.int 1,V.int (r / 8 % 4),V.int (r / 8 % 30)]):=by rw [← hG]; exact upd_same
    clear hG
    have hy0:0 ≤ y∧y ≤ 1000:=by
      simp only [List.mem_cons,List.not_mem_nil,or_false] at my
      omega
    refine hN _ _ ?_
    clear hN N1
    refine seq_abs fun N1 hN=>?_
    refine ⟨(by show 2 ≤ sizeLine; decide),fun l2 hl2=>?_⟩
    obtain ⟨y2,my2,hy2⟩:=atM_strs (xs:=["left","right"]) (i:=r % 2) (by omega) (by show r % 2 < 2; omega)
    refine ⟨_,rfl,_,_,rfl,rfl,(by show (0:Int) < 2; decide),l2,_,_,_,rfl,rfl,SqL.of upd_same,hy2,?_⟩
    generalize hG:upd H2 l2 _=H3
    have s3:Same H2 H3:=by rw [← hG]; exact Same.put (Same.refl _) hl2
    have h3:H3 l2=some (.lst [V.str "left",V.str "right"]):=by rw [← hG]; exact upd_same
    clear hG
    refine hN _ _ ?_
    clear hN N1
    have S3:=Same.trans s1 (Same.trans s2 s3)
    have O3:=aO.same (Same.trans s2 s3)
    have L3:=S3 _ _ hl
    have A3:=hA.same S3
    have hsl:y2.length ≤ 100000:=(by decide +kernel:∀ x ∈ (["left","right"]:List Str),x.length ≤ 100000) y2 my2
    clear s1 s2 s3 h2 h3 hl1 hl2 hy hy2 my aO
    refine seq_abs fun N1 hN=>?_
    refine ⟨_,rfl,rfl,_,rfl,ite2 (fun hc=>?_) (fun hc=>?_)⟩
    · have hne:kd ≠ "table":=fun z=>by
        rw [z] at hc
        rw [decide_eq_true rfl] at hc
        cases hc
      have hk3:kd="row" ∨ kd="column" ∨ kd="wrap":=by
        rcases hkd with z | z | z | z
        · exact .inl z
        · exact .inr (.inl z)
        · exact .inr (.inr z)
        · exact absurd z hne
      refine ⟨(by show 4 ≤ sizeLine; decide),fun l3 hl3=>?_⟩
      obtain ⟨y3,my3,hy3⟩:=atM_strs (xs:=["start","end","mid","mid2"]) (i:=r / 2 % 4) (by omega) (by show r / 2 % 4 < 4; omega)
      have h3l:y3.length ≤ 100000:=(by decide +kernel:∀ x ∈ (["start","end","mid","mid2"]:List Str),x.length ≤ 100000) y3 my3
      refine ⟨_,rfl,_,_,rfl,rfl,⟨by decide,by decide⟩,_,_,rfl,rfl,(by show (0:Int) < 4; decide),l3,_,_,_,rfl,rfl,SqL.of upd_same,hy3,?_⟩
      generalize hG:upd H3 l3 _=H4
      have s4:Same H3 H4:=by rw [← hG]; exact Same.put (Same.refl _) hl3
      have h4:H4 l3=some (.lst [V.str "start",V.str "end",V.str "mid",V.str "mid2"]):=by rw [← hG]; exact upd_same
      clear hG
      refine ⟨_,rfl,_,rfl,_,rfl,_,rfl,_,rfl,_,rfl,(by show 3 ≤ sizeLine; decide),fun p5 hp5=>?_⟩
      generalize hG:upd H4 p5 _=H5
      have s5:Same H4 H5:=by rw [← hG]; exact Same.put (Same.refl _) hp5
      have h5:H5 p5=some (.tup [V.int y,V.str y3,V.str y2]):=by rw [← hG]; exact upd_same
      clear hG
      have s35:=Same.trans s4 s5
      refine ⟨_,rfl,l,_,rfl,.inl ⟨SqL.of (s35 _ _ L3),fun q hq=>?_⟩⟩
      generalize hG:upd H5 q _=H6
      have s6:Same H5 H6:=by rw [← hG]; exact Same.put (Same.refl _) hq
      have h6:H6 q=some (.tup xs):=by rw [← hG]; exact upd_same
      clear hG
      refine ⟨(by show 5 ≤ sizeLine; decide),fun b hb=>?_⟩
      have s36:=Same.trans s35 s6
      have S6:=Same.trans S3 s36
      have S7:=Same.put (o:=.tup [V.str kd,V.str nm,o,V.ref p5,V.ref q]) (Same.refl H6) hb
      have s37:=Same.trans s36 S7
      refine k ow (.tup [.int y,.str y3,.str y2]) (.ref b) _ (Same.trans S6 S7) (box_at upd_same hkl hnl (O3.same s37) (Ats.tup (((Ats.nil.snoc (.int _)).snoc (.str _ (smallE h3l))).snoc (.str _ (smallE hsl))) (S7 _ _ (s6 _ _ h5))) (Ats.tup (A3.same s37) (S7 _ _ h6))) ?_ hal
      rw [Bx.Ok]
      exact ⟨⟨by rcases hk3 with z | z | z <;> simp [KdOk,z],hnm.1,by have:=hnm.2; omega,hO,linedW_of hk3 hy0.1 hy0.2 my3 my2 h20,fun z=>absurd z hne⟩,fun z=>absurd z hne,hoks⟩
    have hkt:kd="table":=by
      rcases hkd with z | z | z | z
      · exact absurd (by rw [z]; decide +kernel) hc
      · exact absurd (by rw [z]; decide +kernel) hc
      · exact absurd (by rw [z]; decide +kernel) hc
      · exact z
    subst hkt
    obtain ⟨hal0,hno⟩:=htb rfl
    refine hN _ _ ?_
    clear hN N1
    obtain ⟨cols,ec,hc1,hc2⟩:∃ cols:Nat,1 + r / 2 % 4=(cols:Int)∧1 ≤ cols∧cols ≤ 4:=⟨(1 + r / 2 % 4).toNat,by omega,by omega,by omega⟩
    refine seq_abs fun N1 hN=>?_
    refine ⟨_,rfl,_,_,rfl,rfl,⟨by decide,by decide⟩,_,_,rfl,rfl,(by show (0:Int) < 4; decide),_,_,rfl,rfl,?_⟩
    refine hN _ _ ?_
    clear hN N1
    dsimp only
    rw [ec]
    refine seq_abs fun N1 hN=>?_
    refine ⟨smallE (by simp),fun ls hls=>?_⟩
    generalize hG:upd H3 ls _=H4
    have s4:Same H3 H4:=by rw [← hG]; exact Same.put (Same.refl _) hls
    have h4:H4 ls=some (.lst []):=by rw [← hG]; exact upd_same
    clear hG
    refine hN _ _ ?_
    clear hN N1
    refine seq_abs fun N1 hN=>?_
    refine ⟨_,rfl,l,_,rfl,.inl (SqL.of (s4 _ _ L3)),(bs.length:Int),by rw [lx],by omega,by omega,?_⟩
    rw [show ((bs.length:Int)).toNat=bs.length from Int.toNat_natCast _]
    refine for_range (n:=bs.length) (fun i σ H9=>∃ (u12 u13:Option V) (ys:List V) (sps:List (Nat × Nat)),σ=[some (.str "table"),some (.str nm),some (.int n),some (.ref l),some (.bl al),some o,some (.int r),some (.int y),some (.str y2),none,some (.int (cols:Int)),some (.ref ls),u12,u13]∧Same H3 H9∧H9 ls=some (.lst ys)∧sps.length=i∧Ats K H9 ys (sps.map dS)∧∀ sp ∈ sps,1 ≤ sp.1∧sp.1 ≤ cols∧1 ≤ sp.2∧sp.2 ≤ 2) ⟨_,_,[],[],rfl,s4,h4,rfl,Ats.nil,fun sp hsp=>nomatch hsp⟩ ?_ ?_
    · rintro i σ H5 hi ⟨u12,u13,ys,sps,rfl,s5,h5,hx,hys,hsp⟩
      have ly:ys.length=i:=by rw [hys.1,List.length_map,hx]
      refine ⟨_,rfl,_,_,rfl,rfl,⟨by decide,by decide⟩,_,rfl,_,rfl,_,_,rfl,rfl,.inr ⟨by omega,by omega⟩,_,_,rfl,rfl,?_⟩
      dsimp only
      generalize r / 3840 + (0 + (i:Int)) * (0 + (i:Int))=far
      refine ⟨_,rfl,.inl ⟨rfl,_,SqL.of h5⟩,_,rfl,_,rfl,_,_,rfl,rfl,(by show (0:Int) < (cols:Int); omega),_,_,rfl,rfl,_,rfl,_,_,rfl,rfl,⟨by decide,by decide⟩,_,_,rfl,rfl,(by show (0:Int) < 2; decide),_,_,rfl,rfl,(by show 2 ≤ sizeLine; decide),fun p hp=>?_⟩
      have f1:=Int.emod_nonneg far (show (cols:Int) ≠ 0 by omega)
      have f2:=Int.emod_lt_of_pos far (show (0:Int) < (cols:Int) by omega)
      obtain ⟨a1,e1,a10,a11⟩:∃ a:Nat,1 + far % (cols:Int)=(a:Int)∧1 ≤ a∧a ≤ cols:=⟨(1 + far % (cols:Int)).toNat,by omega,by omega,by omega⟩
      obtain ⟨a2,e2,a20,a21⟩:∃ a:Nat,1 + far / 4 % 2=(a:Int)∧1 ≤ a∧a ≤ 2:=⟨(1 + far / 4 % 2).toNat,by omega,by omega,by omega⟩
      try dsimp only
      rw [e1,e2]
      generalize hG:upd H5 p _=H6
      have s6:Same H5 H6:=by rw [← hG]; exact Same.put (Same.refl _) hp
      have h6:H6 p=some (.tup [V.int (a1:Int),V.int (a2:Int)]):=by rw [← hG]; exact upd_same
      clear hG
      have h56:=s6 _ _ h5
      refine ⟨ls,_,_,rfl,rfl,h56,small (by omega),?_⟩
      have k7:Kp ls H6 (upd H6 ls (.lst (ys ++ [.ref p]))):=Kp.store
      have hyp:=hys.same s6
      refine (show ∃ (u12 u13:Option V) (ys:List V) (sps:List (Nat × Nat)),_ from ⟨_,_,ys ++ [.ref p],sps ++ [(a1,a2)],rfl,Same.put (Same.trans s5 s6) hls,upd_same,by rw [List.length_append,hx]; rfl,?_,fun sp hsp'=>?_⟩)
      · rw [List.map_append]
        exact Ats.snoc ⟨hyp.1,fun j x d e1 e2=>(hyp.2 j x d e1 e2).kpL k7 h56 upd_same⟩ ((Ats.tup ((Ats.nil.snoc (.int _)).snoc (.int _)) h6:At K H6 (.ref p) (dS (a1,a2))).kpL k7 h56 upd_same)
      · rcases List.mem_append.mp hsp' with z | z
        · exact hsp sp z
        · rw [List.mem_singleton.mp z]
          exact ⟨a10,a11,a20,a21⟩
    · rintro σ H5 ⟨u12,u13,ys,sps,rfl,s5,h5,hx,hys,hsp⟩
      refine hN _ _ ?_
      clear hN
      refine ⟨_,rfl,_,rfl,_,rfl,_,rfl,_,rfl,_,rfl,_,rfl,ls,_,rfl,.inl ⟨SqL.of h5,fun q5 hq5=>?_⟩⟩
      generalize hG:upd H5 q5 _=H6
      have s6:Same H5 H6:=by rw [← hG]; exact Same.put (Same.refl _) hq5
      have h6:H6 q5=some (.tup ys):=by rw [← hG]; exact upd_same
      clear hG
      refine ⟨(by show 4 ≤ sizeLine; decide),fun p5 hp5=>?_⟩
      generalize hG:upd H6 p5 _=H7
      have s7:Same H6 H7:=by rw [← hG]; exact Same.put (Same.refl _) hp5
      have h7:H7 p5=some (.tup [V.int (cols:Int),V.int y,V.str y2,V.ref q5]):=by rw [← hG]; exact upd_same
      clear hG
      have s37:=Same.trans s5 (Same.trans s6 s7)
      refine ⟨_,rfl,l,_,rfl,.inl ⟨SqL.of (s37 _ _ L3),fun q hq=>?_⟩⟩
      generalize hG:upd H7 q _=H8
      have s8:Same H7 H8:=by rw [← hG]; exact Same.put (Same.refl _) hq
      have h8:H8 q=some (.tup xs):=by rw [← hG]; exact upd_same
      clear hG
      refine ⟨(by show 5 ≤ sizeLine; decide),fun b hb=>?_⟩
      have s38:=Same.trans s37 s8
      have S8:=Same.trans S3 s38
      have S9:=Same.put (o:=.tup [V.str "table",V.str nm,o,V.ref p5,V.ref q]) (Same.refl H8) hb
      have s39:=Same.trans s38 S9
      have s69:=Same.trans s7 (Same.trans s8 S9)
      refine k ow (.tup [.int (cols:Int),.int y,.str y2,.tup (sps.map dS)]) (.ref b) _ (Same.trans S8 S9) (box_at upd_same hkl hnl (O3.same s39) (Ats.tup ((((Ats.nil.snoc (.int _)).snoc (.int _)).snoc (.str _ (smallE hsl))).snoc (Ats.tup (hys.same (Same.trans s6 s69)) (s69 _ _ h6))) (S9 _ _ (s8 _ _ h7))) (Ats.tup (A3.same s39) (S9 _ _ h8))) ?_ hal
      rw [Bx.Ok]
      refine ⟨⟨by simp [KdOk],hnm.1,by have:=hnm.2; omega,hO,tableW_of hy0.1 hy0.2 my2 h20 hc1 (by omega) hx hsp,fun _=>⟨hal hal0,cols,_,_,sps,rfl,⟨fun sp h=>?_,by omega,by omega⟩,?_⟩⟩,fun _=>hno,hoks⟩
      · have:=hsp sp h
        omega
      · have:=sumH_le fun sp h=>(hsp sp h).2.2.2
        omega
end
end B06
namespace B06
open PySem L2 S2
abbrev SE:=Bx × Nat × Bool
def stD (e:SE):D:=.tup [e.1.toD,.int (e.2.1:Int),.bl e.2.2]
def SOk (e:SE):Prop:=e.1.Ok∧e.1.hgt ≤ e.2.1∧e.2.1 ≤ 5∧(e.2.2=false→e.1.NoAl)
def nmsE (es:List SE):List Str:=nmss (es.map (·.1))
theorem toDs_map:∀ l:List Bx,toDs l=l.map Bx.toD
  | []=>by rw [toDs]; rfl
  | b :: l=>by rw [toDs,List.map_cons,toDs_map l]
theorem nmss_app:∀ a b:List Bx,nmss (a ++ b)=nmss a ++ nmss b
  | [],b=>by rw [nmss]; rfl
  | c :: a,b=>by rw [List.cons_append,nmss,nmss,nmss_app a b,List.append_assoc]
theorem nmsE_app (a b:List SE):nmsE (a ++ b)=nmsE a ++ nmsE b:=by unfold nmsE; rw [List.map_append,nmss_app]
theorem nmsE_one (e:SE):nmsE [e]=e.1.nms:=by unfold nmsE; rw [List.map_singleton,nmss,nmss,List.append_nil]
theorem hgts_le {m:Nat}:∀ {l:List Bx},(∀ b ∈ l,b.hgt ≤ m)→hgts l ≤ m
  | [],_=>by rw [hgts]; exact Nat.zero_le _
  | b :: l,h=>by
    rw [hgts]
    exact Nat.max_le.mpr ⟨h b List.mem_cons_self,hgts_le fun c hc=>h c (List.mem_cons_of_mem _ hc)⟩
theorem oks_of:∀ {l:List Bx},(∀ b ∈ l,b.Ok)→Oks l
  | [],_=>by rw [Oks]; trivial
  | b :: l,h=>by rw [Oks]; exact ⟨h b List.mem_cons_self,oks_of fun c hc=>h c (List.mem_cons_of_mem _ hc)⟩
theorem noals_of:∀ {l:List Bx},(∀ b ∈ l,b.NoAl)→NoAls l
  | [],_=>by rw [NoAls]; trivial
  | b :: l,h=>by rw [NoAls]; exact ⟨h b List.mem_cons_self,noals_of fun c hc=>h c (List.mem_cons_of_mem _ hc)⟩
theorem ats_ints {K:PySem.W.Frag} {H:Hp}:∀ {ys:List V} {ns:List Int},Ats K H ys (ns.map D.int)→ys=ns.map V.int
  | [],[],_=>rfl
  | [],n :: ns,h=>nomatch h.1
  | y :: ys,[],h=>nomatch h.1
  | y :: ys,n :: ns,h=>by
    have h0:=h.2 0 y (.int n) rfl rfl
    cases h0
    rw [List.map_cons,ats_ints (ys:=ys) (ns:=ns) ⟨Nat.succ.inj h.1,fun j x d e1 e2=>h.2 (j + 1) x d e1 e2⟩]
theorem ats_bls {K:PySem.W.Frag} {H:Hp}:∀ {ys:List V} {ns:List Bool},Ats K H ys (ns.map D.bl)→ys=ns.map V.bl
  | [],[],_=>rfl
  | [],n :: ns,h=>nomatch h.1
  | y :: ys,[],h=>nomatch h.1
  | y :: ys,n :: ns,h=>by
    have h0:=h.2 0 y (.bl n) rfl rfl
    cases h0
    rw [List.map_cons,ats_bls (ys:=ys) (ns:=ns) ⟨Nat.succ.inj h.1,fun j x d e1 e2=>h.2 (j + 1) x d e1 e2⟩]
theorem box_open {K:PySem.W.Frag} {H:Hp} {v:V} {k nm:Str} {ow wh:D} {bs:List Bx} (h:At K H v (Bx.mk k nm ow wh bs).toD) (ho:ow.own=true):∃ (b o:Addr) (x0 x1 x3 x4 y0 y1 y2 y3 y4:V),v=.ref b∧H b=some (.tup [x0,x1,.ref o,x3,x4])∧H o=some (.tup [y0,y1,y2,y3,y4,.int (alO ow)]):=by
  rw [Bx.toD] at h
  obtain ⟨b,xs,rfl,hb,hA⟩:=h.tupS
  match xs,hA with
  | [x0,x1,x2,x3,x4],hA =>
    have h2:=hA.2 2 x2 ow rfl rfl
    obtain ⟨a1,a2,a3,a4,a5,g,e,eg⟩:=alike_own ho
    rw [e] at h2
    obtain ⟨o,ys,rfl,h3,hB⟩:=h2.tupS
    match ys,hB with
    | [y0,y1,y2,y3,y4,y5],hB =>
      have h5:=hB.2 5 y5 (.int g) rfl rfl
      cases h5
      exact ⟨b,o,x0,x1,x3,x4,y0,y1,y2,y3,y4,rfl,hb,by rw [eg]; exact h3⟩
theorem cut_fr {xs:List V} {k:Nat} (h:k ≤ xs.length):cutV xs (some (k:Int)) none=xs.drop k:=by
  unfold cutV
  rw [HT.sIx_none,HT.sIx_nat,Nat.min_eq_left h]
  exact List.take_of_length_le (by rw [List.length_drop]; exact Nat.le_refl _)
theorem cut_ti {xs:List V} {k:Nat} (h:k ≤ xs.length):cutV xs none (some (k:Int))=xs.take k:=by
  unfold cutV
  rw [HT.sIx_none,HT.sIx_nat,Nat.min_eq_left h,List.drop_zero,Nat.sub_zero]
def gAt (j:Nat) (d:D):D:=match d with
  | .tup l=>l.getD j .non
  | _=>.non
theorem st_ev {K:PySem.W.Frag} {σ:St} {H1:Hp} {v:V} {d:D} {es:List SE} (j:Nat) (hj:j < 3) (hd:d ∈ es.map stD) (hv:At K H1 v d):Ev K (some v :: σ) H1 (tOp (rIxT K) (tVar 0) (tC (.int (j:Int)))) (gAt j d):=by
  obtain ⟨e,_,rfl⟩:=List.mem_map.mp hd
  refine ev_ix (l:=[e.1.toD,.int (e.2.1:Int),.bl e.2.2]) (j:=j) (ev_var rfl hv) nume_c ?_
  match j,hj with
  | 0,_=>rfl
  | 1,_=>rfl
  | 2,_=>rfl
def spStepD (K:PySem.W.Frag):Sp:=fun vs H Q _=>∃ (st:Addr) (xs:List V) (es:List SE) (n:Int) (nm:Str),vs=[.ref st,.int n,.str nm]∧H st=some (.lst xs)∧Ats K H xs (es.map stD)∧(∀ e ∈ es,SOk e)∧es.length ≤ 60∧NmL nm ∧
  ∀ (l:Addr) (ys:List V) (es':List SE) (H':Hp),Same H H'→H' l=some (.lst ys)→Ats K H' ys (es'.map stD)→(∀ e ∈ es',SOk e)→(nmsE es').Perm (nm :: nmsE es)→es'.length ≤ es.length + 1→Q (.ref l) H'
section
variable {P:Program} {w:World} {K:PySem.W.Frag} {mg:Str→Option Value} {base:Heap} {tk:Nat→Tok} {ad:Nat→Addr}
abbrev nLStep:List Str:=["_law_stack","_law_n","_law_name","_law_way","_law_many","_law_leaf_here","_law_some","_law_deep","_law_grouped","_law_kind","_law_box"]
theorem scLStep:FnScope nLStep ["_law_stack","_law_n","_law_name"] (defScope sLawStep):=⟨rfl,rfl,rfl,by decide +kernel,rfl,by decide +kernel,by decide +kernel⟩
set_option maxHeartbeats 16000000 in
theorem ok_lStep {f f1 f2:Addr} {fd d1 d2:FuncData} (F:Fun K "_law_step" "_law_step" sLawStep f fd) (N:Names mg)
    (G1:FnOk P w K mg base CX0 3 f1 d1 ["_law_name","_law_n"] (spLeafD K)) (b1:Binds K d1 ["_law_name","_law_n"] []) (m1:mg "_law_leaf"=some (.ref f1)) (k1:PySem.W.keepIn K (.ref f1)=true)
    (G2:FnOk P w K mg base CX0 3 f2 d2 ["_law_kind","_law_name","_law_n","_law_some","_law_alike"] (spWithinD K)) (b2:Binds K d2 ["_law_kind","_law_name","_law_n","_law_some","_law_alike"] []) (m2:mg "_law_within"=some (.ref f2)) (k2:PySem.W.keepIn K (.ref f2)=true):FnOk P w K mg base CX0 4 f fd ["_law_stack","_law_n","_law_name"] (spStepD K):=by
  refine F.ok scLStep (fun vs H Q E h=>?_) (fun cdv A outer s H vs Q E hr h=>?_)
  · obtain ⟨st,xs,es,n,nm,e,_⟩:=h
    rw [e]
    rfl
  · obtain ⟨st,xs,es,n,nm,e,hst,hA,hok,h60,hnm,k⟩:=h
    subst e
    have hr3:=hr.mono (j:=3) (by decide)
    refine ⟨_,pss_cons (ps_set (i:=3) scLStep.nd rfl (Or.inl rfl) (pe_op op_mod (pv 1) pe_int))
      (pss_cons (ps_set (i:=4) scLStep.nd rfl (Or.inl rfl) (pe_op op_mod (pe_op op_add pe_int (pe_op op_fdiv (pv 1) pe_int)) pe_int))
      (pss_cons (ps_if (pw_or (pt_cmpR op_lt (pv 3) pe_int (nomark _)) (pw_or1 (pt_cmpR op_lt (pe_callB call_len_seq (by rfl) N.len PySem.boot_len (pa_cons (pv 0) pa_nil)) (pv 4) (nomark _)))).pt (pss_cons (ps_set (i:=5) scLStep.nd rfl (Or.inl rfl) (pe_call G1 hr3 (by rfl) m1 k1 b1 .nil pass0 (pa_cons (pv 2) (pa_cons (pv 1) pa_nil))))
        (pss_one (ps_ret (pe_op op_cat (pv 0) (pe_lst (pa_cons (pe_tup (pa_cons (pv 5) (pa_cons pe_int (pa_cons (pe_cmpR op_gt (pe_ix ix_tup (pe_ix ix_tup (pv 5) pe_int (fun _ _=>rfl)) pe_int (fun _ _=>rfl)) pe_int (nomark _)) pa_nil)))) pa_nil)))))) pss_nil)
      (pss_cons (ps_set (i:=6) scLStep.nd rfl (Or.inl rfl) (pe_slice sl_list (pv 0) (po_some (pe_op op_sub (pe_callB call_len_seq (by rfl) N.len PySem.boot_len (pa_cons (pv 0) pa_nil)) (pv 4))) po_none))
      (pss_cons (ps_set (i:=7) scLStep.nd rfl (Or.inl rfl) (pe_maxD rfl (by rfl) N.max (pa_cons (pe_comp (compSc_mk (fs:=defScope sLawStep) (N:=nLStep) rfl rfl (by decide +kernel)) rfl (pi_list (pv 6)) (fun _ _ _ _ _=>pts_nil) (fun _ _ _ _ _=>(pe_ix (r:=rIxT K) ix_tup (pv 0) pe_int (fun _ _=>rfl)))) pa_nil) (pk_cons pe_int pk_nil)))
      (pss_cons (ps_set (i:=8) scLStep.nd rfl (Or.inl rfl) (pe_callB (call_anyL rfl) (by rfl) N.any PyProof.Rows.boot_any (pa_cons (pe_comp (compSc_mk (fs:=defScope sLawStep) (N:=nLStep) rfl rfl (by decide +kernel)) rfl (pi_list (pv 6)) (fun _ _ _ _ _=>pts_nil) (fun _ _ _ _ _=>(pe_ix (r:=rIxT K) ix_tup (pv 0) pe_int (fun _ _=>rfl)))) pa_nil)))
      (pss_cons (ps_set (i:=9) scLStep.nd rfl (Or.inl rfl) (pe_ix ix_list (pe_lst (pa_cons pe_str (pa_cons pe_str (pa_cons pe_str (pa_cons pe_str (pa_cons pe_str (pa_cons pe_str pa_nil))))))) (pe_op op_mod (pe_op op_sub (pv 3) pe_int) pe_int) (fun _ _=>rfl)))
      (pss_cons (ps_if (pt_cmpR op_gt (pv 7) pe_int (nomark _)) (pss_cons (ps_set (i:=5) scLStep.nd rfl (Or.inl rfl) (pe_call G1 hr3 (by rfl) m1 k1 b1 .nil pass0 (pa_cons (pv 2) (pa_cons (pv 1) pa_nil))))
        (pss_one (ps_ret (pe_op op_cat (pv 0) (pe_lst (pa_cons (pe_tup (pa_cons (pv 5) (pa_cons pe_int (pa_cons (pe_cmpR op_gt (pe_ix ix_tup (pe_ix ix_tup (pv 5) pe_int (fun _ _=>rfl)) pe_int (fun _ _=>rfl)) pe_int (nomark _)) pa_nil)))) pa_nil)))))) pss_nil)
      (pss_cons (ps_if (pw_and (pt_cmpR op_eq (pv 9) pe_str (nomark _)) (pw_and1 (pt_val (pv 8)))).pt (pss_one (ps_set (i:=9) scLStep.nd rfl (Or.inl rfl) pe_str)) pss_nil)
      (pss_cons (ps_set (i:=10) scLStep.nd rfl (Or.inl rfl) (pe_call G2 hr3 (by rfl) m2 k2 b2 .nil pass0 (pa_cons (pv 9) (pa_cons (pv 2) (pa_cons (pv 1) (pa_cons (pe_comp (compSc_mk (fs:=defScope sLawStep) (N:=nLStep) rfl rfl (by decide +kernel)) rfl (pi_list (pv 6)) (fun _ _ _ _ _=>pts_nil) (fun _ _ _ _ _=>(pe_ix (r:=rIxT K) ix_tup (pv 0) pe_int (fun _ _=>rfl)))) (pa_cons (pe_and (pe_cmpR op_ne (pv 9) pe_str (nomark _)) (pe_one (pe_cmpR op_eq (pe_op op_mod (pe_op op_fdiv (pv 1) pe_int) pe_int) pe_int (nomark _)))) pa_nil)))))))
      (pss_one (ps_ret (pe_op op_cat (pe_slice sl_list (pv 0) po_none (po_some (pe_op op_sub (pe_callB call_len_seq (by rfl) N.len PySem.boot_len (pa_cons (pv 0) pa_nil)) (pv 4)))) (pe_lst (pa_cons (pe_tup (pa_cons (pv 10) (pa_cons (pe_op op_add (pv 7) pe_int) (pa_cons (pe_or (pv 8) (pe_one (pe_cmpR op_gt (pe_ix ix_tup (pe_ix ix_tup (pv 10) pe_int (fun _ _=>rfl)) pe_int (fun _ _=>rfl)) pe_int (nomark _)))) pa_nil)))) pa_nil)))))))))))))),?_⟩
    try rw [show (cxOf CX0 P w K mg base nLStep "_law_step" (defScope sLawStep) f cdv A outer s H E).nox.K=K from rfl]
    have lx:xs.length=es.length:=by rw [hA.1,List.length_map]
    have fin:∀ (H2:Hp) (zs:List V) (es1 es2:List SE) (e:SE) (l3:Addr) (v:V),Same H H2→Ats K H2 zs (es1.map stD)→es=es1 ++ es2→e.1.nms=nm :: nmsE es2→SOk e→At K H2 v (stD e)→H2 l3=none→Q (.ref l3) (upd H2 l3 (.lst (zs ++ [v]))):=by
      intro H2 zs es1 es2 e l3 v S hz ee hn he hv hl3
      have s1:Same H2 (upd H2 l3 (.lst (zs ++ [v]))):=Same.put (Same.refl _) hl3
      refine k l3 (zs ++ [v]) (es1 ++ [e]) _ (Same.trans S s1) upd_same (by rw [List.map_append]; exact (hz.same s1).snoc (hv.same s1)) (fun x hx=>?_) ?_ ?_
      · rcases List.mem_append.mp hx with z | z
        · exact hok x (by rw [ee]; exact List.mem_append_left _ z)
        · rw [List.mem_singleton.mp z]
          exact he
      · rw [ee,nmsE_app,nmsE_app,nmsE_one,hn]
        exact List.perm_middle
      · rw [ee,List.length_append,List.length_append]
        show es1.length + 1 ≤ _
        omega
    obtain ⟨mn,em,hm5⟩:=nat_of (z:=(1 + n / 16) % 5) (n:=5) (by omega) (by omega)
    refine seq_abs fun N1 hN=>?_
    refine ⟨_,rfl,_,_,rfl,rfl,(by show (0:Int) < 16; decide),?_⟩
    refine hN _ _ ?_
    clear hN N1
    refine seq_abs fun N1 hN=>?_
    refine ⟨_,rfl,_,_,rfl,rfl,⟨by decide,by decide⟩,_,_,rfl,rfl,_,_,rfl,rfl,(by show (0:Int) < 5; decide),?_⟩
    refine hN _ _ ?_
    clear hN N1
    dsimp only
    rw [em]
    refine seq_abs fun N1 hN=>?_
    refine ⟨_,rfl,_,_,rfl,rfl,_,rfl,ite2 (fun h7=>iteT ?_) (fun h7=>⟨_,rfl,st,_,rfl,.inl (SqL.of hst),_,rfl,_,_,rfl,rfl,_,rfl,ite2 (fun hl=>?_) (fun hl=>?_)⟩)⟩
    · refine ⟨_,rfl,_,rfl,nm,n,rfl,hnm,fun ow wh v H2 s2 hv hbok=>?_⟩
      have hbo:ow.own=true:=by
        have:=hbok
        rw [Bx.Ok] at this
        exact this.1.2.2.2.1
      obtain ⟨b,o,x0,x1,x3,x4,y0,y1,y2,y3,y4,rfl,hb,ho⟩:=box_open hv hbo
      refine ⟨_,rfl,_,rfl,_,rfl,b,_,_,_,rfl,rfl,SqT.of hb,atI_nat (j:=2) rfl,o,_,_,_,rfl,rfl,SqT.of ho,atI_nat (j:=5) rfl,_,_,rfl,rfl,(by show 3 ≤ sizeLine; decide),fun p hp=>⟨(by show 1 ≤ sizeLine; decide),fun l2 hl2=>?_⟩⟩
      have s3:=Same.put (o:=.tup [.ref b,.int 1,.bl (decide (0 < alO ow))]) (Same.refl H2) hp
      have s4:=Same.put (o:=.lst [.ref p]) (Same.refl _) hl2
      have s24:=Same.trans s3 s4
      have S4:=Same.trans (Same.refl H) (Same.trans s2 s24)
      refine ⟨st,l2,_,_,rfl,rfl,S4 _ _ hst,upd_same,smallE (by show _ + 1 ≤ 100000; omega),fun l3 hl3=>fin _ xs es [] (Bx.mk "leaf" nm ow wh [],1,decide (0 < alO ow)) l3 (.ref p) S4 (hA.same S4) (List.append_nil _).symm (by rw [Bx.nms,nmss]; rfl) ⟨hbok,by rw [Bx.hgt,hgts]; exact Nat.le_refl _,by show 1 ≤ 5; decide,fun z=>?_⟩ (Ats.tup (((Ats.nil.snoc (hv.same s24)).snoc (.int _)).snoc (.bl _)) (s4 _ _ upd_same)) hl3⟩
      rw [Bx.NoAl,NoAls]
      have:=of_decide_eq_false z
      exact ⟨by omega,trivial⟩
    · refine ⟨_,rfl,_,rfl,nm,n,rfl,hnm,fun ow wh v H2 s2 hv hbok=>?_⟩
      have hbo:ow.own=true:=by
        have:=hbok
        rw [Bx.Ok] at this
        exact this.1.2.2.2.1
      obtain ⟨b,o,x0,x1,x3,x4,y0,y1,y2,y3,y4,rfl,hb,ho⟩:=box_open hv hbo
      refine ⟨_,rfl,_,rfl,_,rfl,b,_,_,_,rfl,rfl,SqT.of hb,atI_nat (j:=2) rfl,o,_,_,_,rfl,rfl,SqT.of ho,atI_nat (j:=5) rfl,_,_,rfl,rfl,(by show 3 ≤ sizeLine; decide),fun p hp=>⟨(by show 1 ≤ sizeLine; decide),fun l2 hl2=>?_⟩⟩
      have s3:=Same.put (o:=.tup [.ref b,.int 1,.bl (decide (0 < alO ow))]) (Same.refl H2) hp
      have s4:=Same.put (o:=.lst [.ref p]) (Same.refl _) hl2
      have s24:=Same.trans s3 s4
      have S4:=Same.trans (Same.refl H) (Same.trans s2 s24)
      refine ⟨st,l2,_,_,rfl,rfl,S4 _ _ hst,upd_same,smallE (by show _ + 1 ≤ 100000; omega),fun l3 hl3=>fin _ xs es [] (Bx.mk "leaf" nm ow wh [],1,decide (0 < alO ow)) l3 (.ref p) S4 (hA.same S4) (List.append_nil _).symm (by rw [Bx.nms,nmss]; rfl) ⟨hbok,by rw [Bx.hgt,hgts]; exact Nat.le_refl _,by show 1 ≤ 5; decide,fun z=>?_⟩ (Ats.tup (((Ats.nil.snoc (hv.same s24)).snoc (.int _)).snoc (.bl _)) (s4 _ _ upd_same)) hl3⟩
      rw [Bx.NoAl,NoAls]
      have:=of_decide_eq_false z
      exact ⟨by omega,trivial⟩
    have hl:mn ≤ xs.length:=by
      have z:¬ ((xs.length:Int) < (mn:Int)):=fun y=>hl (decide_eq_true y)
      omega
    refine hN _ _ ?_
    clear hN N1
    have ei:(xs.length:Int) - (mn:Int)=((xs.length - mn:Nat):Int):=by omega
    have hx2:xs.length - mn ≤ xs.length:=Nat.sub_le _ _
    generalize hkk:xs.length - mn=kk at *
    have hA1:Ats K H (xs.take kk) ((es.take kk).map stD):=by rw [List.map_take]; exact hA.take kk
    have hA2:Ats K H (xs.drop kk) ((es.drop kk).map stD):=by rw [List.map_drop]; exact hA.drop kk
    have ees:es=es.take kk ++ es.drop kk:=(List.take_append_drop kk es).symm
    have l2:(es.drop kk).length ≤ 4:=by rw [List.length_drop]; omega
    have hok2:∀ e ∈ es.drop kk,SOk e:=fun e he=>hok e (List.mem_of_mem_drop he)
    generalize es.take kk=es1 at *
    generalize es.drop kk=es2 at *
    refine seq_abs fun N1 hN=>?_
    refine ⟨_,rfl,_,rfl,st,_,rfl,.inl (SqL.of hst),_,rfl,_,_,rfl,rfl,_,rfl,st,_,rfl,SqL.of hst,fun l6 hl6=>?_⟩
    rw [ei,cut_fr hx2]
    generalize hG:upd H l6 _=H6
    have s6:Same H H6:=by rw [← hG]; exact Same.put (Same.refl _) hl6
    have h6:H6 l6=some (.lst (xs.drop kk)):=by rw [← hG]; exact upd_same
    clear hG
    have B6:=hA2.same s6
    refine hN _ _ ?_
    clear hN N1
    -- deep
    refine seq_abs fun N1 hN=>?_
    refine evs_map (K:=K) (g:=gAt 1) (l:=es2.map stD) (evs_var (a:=l6) rfl h6 B6) (by rw [List.length_map]; omega) (fun v d H1 hd _ hv=>st_ev 1 (by decide) hd hv) H6 _ (Same.refl _) fun D7 ys7 H7 s7 h7 A7=>?_
    have e7:=ats_ints (ns:=es2.map fun e=>(e.2.1:Int)) (by rw [List.map_map] at A7; rw [List.map_map]; exact A7)
    subst e7
    refine ⟨D7,_,0,rfl,rfl,SqL.of h7,fun M m0 m1=>?_⟩
    obtain ⟨M,eM,hM⟩:∃ m:Nat,M=(m:Int)∧∀ e ∈ es2,e.2.1 ≤ m:=by
      cases es2 with
      | nil=>exact ⟨0,m0 rfl,fun e he=>nomatch he⟩
      | cons e0 er =>
        obtain ⟨z1,z2⟩:=m1 (List.cons_ne_nil _ _)
        obtain ⟨e',he',q⟩:=List.mem_map.mp z1
        exact ⟨e'.2.1,q.symm,fun e he=>by
          have:=z2 _ (List.mem_map_of_mem he)
          omega⟩
    subst eM
    clear m0 m1
    refine hN _ _ ?_
    clear hN N1
    have h67:=s7 _ _ h6
    have B7:=B6.same s7
    -- grouped
    refine seq_abs fun N1 hN=>?_
    refine evs_map (K:=K) (g:=gAt 2) (l:=es2.map stD) (evs_var (a:=l6) rfl h67 B7) (by rw [List.length_map]; omega) (fun v d H1 hd _ hv=>st_ev 2 (by decide) hd hv) H7 _ (Same.refl _) fun D8 ys8 H8 s8 h8 A8=>?_
    have e8:=ats_bls (ns:=es2.map fun e=>e.2.2) (by rw [List.map_map] at A8; rw [List.map_map]; exact A8)
    subst e8
    refine ⟨D8,_,rfl,SqL.of h8,?_⟩
    have hgr:(es2.map fun e=>e.2.2).any id=false→∀ e ∈ es2,e.2.2=false:=fun z e he=>by
      have:=List.any_eq_false.mp z _ (List.mem_map_of_mem (f:=fun e:SE=>e.2.2) he)
      simpa using this
    generalize (es2.map fun e=>e.2.2).any id=gr at *
    refine hN _ _ ?_
    clear hN N1
    have h68:=s8 _ _ h67
    have B8:=B7.same s8
    refine seq_abs fun N1 hN=>?_
    refine ⟨(by show 6 ≤ sizeLine; decide),fun lk hlk=>?_⟩
    obtain ⟨kd,mkd,hkd⟩:=atM_strs (xs:=["row","column","wrap","table","row","column"]) (i:=(n % 16 - 7) % 6) (by omega) (by show (n % 16 - 7) % 6 < 6; omega)
    refine ⟨_,rfl,_,_,rfl,rfl,_,_,rfl,rfl,(by show (0:Int) < 6; decide),lk,_,_,_,rfl,rfl,SqL.of upd_same,hkd,?_⟩
    generalize hG:upd H8 lk _=H9
    have s9:Same H8 H9:=by rw [← hG]; exact Same.put (Same.refl _) hlk
    have h9:H9 lk=some (.lst [V.str "row",V.str "column",V.str "wrap",V.str "table",V.str "row",V.str "column"]):=by rw [← hG]; exact upd_same
    clear hG
    have h69:=s9 _ _ h68
    have B9:=B8.same s9
    have S9:Same H H9:=Same.trans s6 (Same.trans s7 (Same.trans s8 s9))
    have hkd4:kd="row" ∨ kd="column" ∨ kd="wrap" ∨ kd="table":=by
      simp only [List.mem_cons,List.not_mem_nil,or_false] at mkd
      rcases mkd with z | z | z | z | z | z <;> simp [z]
    refine hN _ _ ?_
    clear hN N1
    clear s6 s7 s8 s9 h6 h67 h68 h7 h8 h9 A7 A8 B6 B7 B8 hlk hl6 hkd mkd
    refine seq_abs fun N1 hN=>?_
    refine ⟨_,rfl,_,_,rfl,rfl,_,rfl,ite2 (fun _=>?_) (fun hM4=>?_)⟩
    · refine ⟨_,rfl,_,rfl,nm,n,rfl,hnm,fun ow wh v H2 s2 hv hbok=>?_⟩
      have hbo:ow.own=true:=by
        have:=hbok
        rw [Bx.Ok] at this
        exact this.1.2.2.2.1
      obtain ⟨b,o,x0,x1,x3,x4,y0,y1,y2,y3,y4,rfl,hb,ho⟩:=box_open hv hbo
      refine ⟨_,rfl,_,rfl,_,rfl,b,_,_,_,rfl,rfl,SqT.of hb,atI_nat (j:=2) rfl,o,_,_,_,rfl,rfl,SqT.of ho,atI_nat (j:=5) rfl,_,_,rfl,rfl,(by show 3 ≤ sizeLine; decide),fun p hp=>⟨(by show 1 ≤ sizeLine; decide),fun l2 hl2=>?_⟩⟩
      have s3:=Same.put (o:=.tup [.ref b,.int 1,.bl (decide (0 < alO ow))]) (Same.refl H2) hp
      have s4:=Same.put (o:=.lst [.ref p]) (Same.refl _) hl2
      have s24:=Same.trans s3 s4
      have S4:=Same.trans S9 (Same.trans s2 s24)
      refine ⟨st,l2,_,_,rfl,rfl,S4 _ _ hst,upd_same,smallE (by show _ + 1 ≤ 100000; omega),fun l3 hl3=>fin _ xs _ [] (Bx.mk "leaf" nm ow wh [],1,decide (0 < alO ow)) l3 (.ref p) S4 (by rw [ees] at hA; exact hA.same S4) (by rw [List.append_nil]; exact ees) (by rw [Bx.nms,nmss]; rfl) ⟨hbok,by rw [Bx.hgt,hgts]; exact Nat.le_refl _,by show 1 ≤ 5; decide,fun z=>?_⟩ (Ats.tup (((Ats.nil.snoc (hv.same s24)).snoc (.int _)).snoc (.bl _)) (s4 _ _ upd_same)) hl3⟩
      rw [Bx.NoAl,NoAls]
      have:=of_decide_eq_false z
      exact ⟨by omega,trivial⟩
    have hM4:M ≤ 4:=by
      have z:¬ ((4:Int) < (M:Int)):=fun y=>hM4 (decide_eq_true y)
      omega
    refine hN _ _ ?_
    clear hN N1
    refine seq_abs fun N1 hN=>?_
    have go:∀ kd:Str,(kd="row" ∨ kd="column" ∨ kd="wrap" ∨ kd="table")→(kd="table"→gr=false)→N1 [some (.ref st),some (.int n),some (.str nm),some (.int (n % 16)),some (.int (mn:Int)),none,some (.ref l6),some (.int (M:Int)),some (.bl gr),some (.str kd),none] H9:=fun kd hkd4 hkg=>hN _ _ (by
      clear hN N1
      refine seq_abs fun N1 hN=>?_
      have mk:∀ (al:Bool) (D10:Addr) (ys10:List V) (H10:Hp),(kd="table"→al=false)→Same H9 H10→H10 D10=some (.lst ys10)→Ats K H10 ys10 ((es2.map stD).map (gAt 0))→spWithinD K [.str kd,.str nm,.int n,.ref D10,.bl al] H10 (fun v H11=>N1 [some (.ref st),some (.int n),some (.str nm),some (.int (n % 16)),some (.int (mn:Int)),none,some (.ref l6),some (.int (M:Int)),some (.bl gr),some (.str kd),some v] H11) E0:=by
        intro al D10 ys10 H10 hal s10 h10 A10
        have eg:(es2.map stD).map (gAt 0)=toDs (es2.map (·.1)):=by rw [toDs_map,List.map_map,List.map_map]; rfl
        rw [eg] at A10
        have hoks:Oks (es2.map (·.1)):=oks_of fun b hb=>by
          obtain ⟨e,he,rfl⟩:=List.mem_map.mp hb
          exact (hok2 e he).1
        have hno:gr=false→NoAls (es2.map (·.1)):=fun hg=>noals_of fun b hb=>by
          obtain ⟨e,he,rfl⟩:=List.mem_map.mp hb
          exact (hok2 e he).2.2.2 (hgr hg e he)
        have hhg:hgts (es2.map (·.1)) ≤ M:=hgts_le fun b hb=>by
          obtain ⟨e,he,rfl⟩:=List.mem_map.mp hb
          exact Nat.le_trans (hok2 e he).2.1 (hM e he)
        refine ⟨kd,nm,n,D10,ys10,es2.map (·.1),al,rfl,hkd4,hnm,h10,A10,by rw [List.length_map]; omega,hoks,fun z=>⟨hal z,hno (hkg z)⟩,fun ow wh v H11 s11 hv hbok halo=>?_⟩
        refine hN _ _ ?_
        clear hN
        have hbo:ow.own=true:=by
          have:=hbok
          rw [Bx.Ok] at this
          exact this.1.2.2.2.1
        have S11:Same H H11:=Same.trans S9 (Same.trans s10 s11)
        have hst11:=S11 _ _ hst
        have hA11:=hA1.same S11
        refine ⟨_,rfl,_,rfl,st,_,rfl,.inl (SqL.of hst11),_,rfl,_,_,rfl,rfl,_,rfl,st,_,rfl,SqL.of hst11,fun lc hlc=>?_⟩
        rw [ei,cut_ti hx2]
        generalize hG:upd H11 lc _=H12
        have s12:Same H11 H12:=by rw [← hG]; exact Same.put (Same.refl _) hlc
        have h12:H12 lc=some (.lst (xs.take kk)):=by rw [← hG]; exact upd_same
        clear hG
        have S12:=Same.trans S11 s12
        have hv12:=hv.same s12
        obtain ⟨b,o,x0,x1,x3,x4,y0,y1,y2,y3,y4,rfl,hb,ho⟩:=box_open hv12 hbo
        have key:∀ (fl:Bool) (p l2 l3:Addr) (H13:Hp),(fl=false→gr=false∧alO ow ≤ 0)→Same H12 H13→H13 p=some (.tup [.ref b,.int ((M:Int) + 1),.bl fl])→H13 l3=none→Q (.ref l3) (upd H13 l3 (.lst (xs.take kk ++ [.ref p]))):=fun fl p l2 l3 H13 hfl s13 hp hl3=>by
          have hb13:=hv12.same s13
          refine fin H13 (xs.take kk) es1 es2 (Bx.mk kd nm ow wh (es2.map (·.1)),M + 1,fl) l3 (.ref p) (Same.trans S12 s13) ((hA11.same s12).same s13) ees (by rw [Bx.nms]; rfl) ⟨hbok,by rw [Bx.hgt]; exact Nat.succ_le_succ hhg,by show M + 1 ≤ 5; omega,fun z=>?_⟩ (Ats.tup (((Ats.nil.snoc hb13).snoc (.int _)).snoc (.bl fl)) hp) hl3
          rw [Bx.NoAl]
          exact ⟨(hfl z).2,hno (hfl z).1⟩
        refine ⟨_,rfl,_,rfl,_,_,rfl,rfl,_,rfl,_,rfl,ite2 (fun hg=>⟨(by show 3 ≤ sizeLine; decide),fun p hp=>⟨(by show 1 ≤ sizeLine; decide),fun l2 hl2=>?_⟩⟩) (fun hg=>⟨_,rfl,b,_,_,_,rfl,rfl,SqT.of hb,atI_nat (j:=2) rfl,o,_,_,_,rfl,rfl,SqT.of ho,atI_nat (j:=5) rfl,_,_,rfl,rfl,(by show 3 ≤ sizeLine; decide),fun p hp=>⟨(by show 1 ≤ sizeLine; decide),fun l2 hl2=>?_⟩⟩)⟩
        · have s13:=Same.put (o:=.tup [.ref b,.int ((M:Int) + 1),.bl true]) (Same.refl H12) hp
          have s14:=Same.put (o:=.lst [.ref p]) (Same.refl _) hl2
          have s24:=Same.trans s13 s14
          exact ⟨lc,l2,_,_,rfl,rfl,s24 _ _ h12,upd_same,smallE (by rw [List.length_take]; show _ + 1 ≤ 100000; omega),fun l3 hl3=>key true p l2 l3 _ (fun z=>nomatch z) s24 (s14 _ _ upd_same) hl3⟩
        · have s13:=Same.put (o:=.tup [.ref b,.int ((M:Int) + 1),.bl (decide (0 < alO ow))]) (Same.refl H12) hp
          have s14:=Same.put (o:=.lst [.ref p]) (Same.refl _) hl2
          have s24:=Same.trans s13 s14
          refine ⟨lc,l2,_,_,rfl,rfl,s24 _ _ h12,upd_same,smallE (by rw [List.length_take]; show _ + 1 ≤ 100000; omega),fun l3 hl3=>key (decide (0 < alO ow)) p l2 l3 _ (fun z=>⟨Bool.eq_false_iff.mpr hg,?_⟩) s24 (s14 _ _ upd_same) hl3⟩
          have:=of_decide_eq_false z
          omega
      refine ⟨_,rfl,_,rfl,_,rfl,?_⟩
      refine evs_map (K:=K) (g:=gAt 0) (l:=es2.map stD) (evs_var (a:=l6) rfl h69 B9) (by rw [List.length_map]; omega) (fun v d H1 hd _ hv=>st_ev 0 (by decide) hd hv) H9 _ (Same.refl _) fun D10 ys10 H10 s10 h10 A10=>?_
      refine ⟨_,rfl,rfl,_,rfl,ite2 (fun hne=>⟨_,rfl,_,_,rfl,rfl,⟨by decide,by decide⟩,_,_,rfl,rfl,(by show (0:Int) < 3; decide),rfl,?_⟩) (fun heq=>?_)⟩
      · exact mk _ D10 ys10 H10 (fun z=>by rw [z,decide_eq_true rfl] at hne; cases hne) s10 h10 A10
      · exact mk false D10 ys10 H10 (fun _=>rfl) s10 h10 A10)
    clear hN
    refine ⟨_,rfl,rfl,_,rfl,ite2 (fun ht=>⟨_,rfl,_,rfl,ite2 (fun hg=>?_) (fun hg=>?_)⟩) (fun ht=>iteF ?_)⟩
    · exact go "row" (.inl rfl) fun z=>absurd z (by decide +kernel)
    · exact go kd hkd4 fun _=>Bool.eq_false_iff.mpr hg
    · exact go kd hkd4 fun z=>absurd (decide_eq_true (by rw [z])) ht
end
end B06
namespace B06
open PySem L2 S2
def spTreeD (K:PySem.W.Frag):Sp:=fun vs H Q _=>∃ (a:Addr) (ns:List Int),vs=[.ref a,.int 2,.int 18]∧SqL K H a (ns.map V.int)∧ns.length ≤ 63 ∧
  ∀ (b:Bx) (v:V) (H':Hp),Same H H'→At K H' v b.toD→b.Ok→b.hgt ≤ 6→b.nms.Nodup→b.nms.length ≤ 19→Q v H'
theorem nms_pos:∀ b:Bx,0 < b.nms.length
  | .mk _ _ _ _ _=>by rw [Bx.nms]; exact Nat.succ_pos _
theorem es_len:∀ es:List SE,es.length ≤ (nmsE es).length
  | []=>Nat.zero_le _
  | e :: es=>by
    have h1:nmsE (e :: es)=e.1.nms ++ nmsE es:=by unfold nmsE; rw [List.map_cons,nmss]
    rw [h1,List.length_append,List.length_cons]
    have:=es_len es
    have:=nms_pos e.1
    omega
section
variable {P:Program} {w:World} {K:PySem.W.Frag} {mg:Str→Option Value} {base:Heap} {tk:Nat→Tok} {ad:Nat→Addr}
abbrev nLTree:List Str:=["_law_script","_law_first","_law_many","_law_stack","_law_cell","_law_k","_law_n","_law_kind"]
theorem scLTree:FnScope nLTree ["_law_script","_law_first","_law_many"] (defScope sLawTree):=⟨rfl,rfl,rfl,by decide +kernel,rfl,by decide +kernel,by decide +kernel⟩
set_option maxHeartbeats 16000000 in
theorem ok_lTree {f f1 f2 f3 f4 f5 f6:Addr} {fd d1 d2 d3 d4 d5 d6:FuncData} (F:Fun K "_law_tree" "_law_tree" sLawTree f fd) (N:Names mg)
    (G1:FnOk P w K mg base CX0 1 f1 d1 ["_law_script","_law_k"] (spCell K)) (b1:Binds K d1 ["_law_script","_law_k"] []) (m1:mg "_law_at"=some (.ref f1)) (k1:PySem.W.keepIn K (.ref f1)=true)
    (G2:FnOk P w K mg base CX0 1 f2 d2 ["_law_cell"] spMixed) (b2:Binds K d2 ["_law_cell"] []) (m2:mg "_law_mixed"=some (.ref f2)) (k2:PySem.W.keepIn K (.ref f2)=true)
    (G3:FnOk P w K mg base CX0 2 f3 d3 ["_law_script","_law_first","_law_many","_law_base"] (spDraws K)) (b3:Binds K d3 ["_law_script","_law_first","_law_many","_law_base"] []) (m3:mg "_law_draws"=some (.ref f3)) (k3:PySem.W.keepIn K (.ref f3)=true)
    (G4:FnOk P w K mg base CX0 1 f4 d4 ["_law_k","_law_cell"] spLabel) (b4:Binds K d4 ["_law_k","_law_cell"] []) (m4:mg "_law_label"=some (.ref f4)) (k4:PySem.W.keepIn K (.ref f4)=true)
    (G5:FnOk P w K mg base CX0 3 f5 d5 ["_law_kind","_law_name","_law_n","_law_some","_law_alike"] (spWithinD K)) (b5:Binds K d5 ["_law_kind","_law_name","_law_n","_law_some","_law_alike"] []) (m5:mg "_law_within"=some (.ref f5)) (k5:PySem.W.keepIn K (.ref f5)=true)
    (G6:FnOk P w K mg base CX0 4 f6 d6 ["_law_stack","_law_n","_law_name"] (spStepD K)) (b6:Binds K d6 ["_law_stack","_law_n","_law_name"] []) (m6:mg "_law_step"=some (.ref f6)) (k6:PySem.W.keepIn K (.ref f6)=true):FnOk P w K mg base CX0 5 f fd ["_law_script","_law_first","_law_many"] (spTreeD K):=by
  refine F.ok scLTree (fun vs H Q E h=>?_) (fun cdv A outer s H vs Q E hr h=>?_)
  · obtain ⟨a,ns,e,_⟩:=h
    rw [e]
    rfl
  · obtain ⟨a,ns,e,hS,hn,k⟩:=h
    subst e
    have hr1:=hr.mono (j:=1) (by decide)
    have hr2:=hr.mono (j:=2) (by decide)
    have hr3:=hr.mono (j:=3) (by decide)
    have hr4:=hr.mono (j:=4) (by decide)
    refine ⟨_,pss_cons (ps_set (i:=3) scLTree.nd rfl (Or.inl rfl) (pe_lst pa_nil))
      (pss_cons (ps_set (i:=4) scLTree.nd rfl (Or.inl rfl) (pe_call G1 hr1 (by rfl) m1 k1 b1 .nil pass0 (pa_cons (pv 0) (pa_cons (pe_op op_add (pv 1) (pv 2)) pa_nil))))
      (pss_cons (ps_for PassesOwn.never rfl (pi_zipR (by rfl) N.zip (by rfl) N.range (pa_cons (pv 2) pa_nil) (pe_call G3 hr2 (by rfl) m3 k3 b3 .nil pass0 (pa_cons (pv 0) (pa_cons (pv 1) (pa_cons (pv 2) (pa_cons (pe_op op_pow pe_int pe_int) pa_nil)))))) (pg_tup rfl (pgs_cons (pg_name (i:=5) scLTree.nd rfl (Or.inl rfl)) (pgs_cons (pg_name (i:=6) scLTree.nd rfl (Or.inl rfl)) pgs_nil)))
        (pss_one (ps_set (i:=3) scLTree.nd rfl (Or.inl rfl) (pe_call G6 hr4 (by rfl) m6 k6 b6 .nil pass0 (pa_cons (pv 3) (pa_cons (pv 6) (pa_cons (pe_call G4 hr1 (by rfl) m4 k4 b4 .nil pass0 (pa_cons (pv 5) (pa_cons (pv 4) pa_nil))) pa_nil)))))))
      (pss_cons (ps_if (pt_cmpR op_eq (pe_callB call_len_seq (by rfl) N.len PySem.boot_len (pa_cons (pv 3) pa_nil)) pe_int (nomark _)) (pss_one (ps_ret (pe_ix ix_tup (pe_ix ix_list (pv 3) pe_int (fun _ _=>rfl)) pe_int (fun _ _=>rfl)))) pss_nil)
      (pss_cons (ps_set (i:=6) scLTree.nd rfl (Or.inl rfl) (pe_op op_add (pe_op op_mul (pe_call G2 hr1 (by rfl) m2 k2 b2 .nil pass0 (pa_cons (pv 4) pa_nil)) pe_int) (pe_call G2 hr1 (by rfl) m2 k2 b2 .nil pass0 (pa_cons (pe_op op_add (pv 4) pe_int) pa_nil))))
      (pss_cons (ps_set (i:=7) scLTree.nd rfl (Or.inl rfl) (pe_ix ix_list (pe_lst (pa_cons pe_str (pa_cons pe_str (pa_cons pe_str pa_nil)))) (pe_op op_mod (pv 6) pe_int) (fun _ _=>rfl)))
      (pss_one (ps_ret (pe_call G5 hr3 (by rfl) m5 k5 b5 .nil pass0 (pa_cons (pv 7) (pa_cons (pe_call G4 hr1 (by rfl) m4 k4 b4 .nil pass0 (pa_cons (pv 2) (pa_cons (pv 4) pa_nil))) (pa_cons (pv 6) (pa_cons (pe_comp (compSc_mk (fs:=defScope sLawTree) (N:=nLTree) rfl rfl (by decide +kernel)) rfl (pi_list (pv 3)) (fun _ _ _ _ _=>pts_nil) (fun _ _ _ _ _=>(pe_ix (r:=rIxT K) ix_tup (pv 0) pe_int (fun _ _=>rfl)))) (pa_cons pe_bl pa_nil))))))))))))),?_⟩
    try rw [show (cxOf CX0 P w K mg base nLTree "_law_tree" (defScope sLawTree) f cdv A outer s H E).nox.K=K from rfl]
    refine seq_abs fun N1 hN=>?_
    refine ⟨smallE (by simp),fun l0 hl0=>?_⟩
    generalize hG:upd H l0 _=H1
    have s1:Same H H1:=by rw [← hG]; exact Same.put (Same.refl _) hl0
    have h1:H1 l0=some (.lst []):=by rw [← hG]; exact upd_same
    clear hG
    refine hN _ _ ?_
    clear hN N1
    refine seq_abs fun N1 hN=>?_
    refine ⟨_,rfl,_,rfl,_,rfl,_,_,rfl,rfl,a,20,ns,rfl,s1.seq hS,hn,fun c=>?_⟩
    refine hN _ _ ?_
    clear hN N1
    refine seq_abs fun N1 hN=>?_
    refine ⟨_,rfl,(18:Int),rfl,by decide,by decide,_,rfl,_,rfl,_,rfl,_,_,rfl,rfl,⟨by decide,by decide,by decide⟩,a,2,18,_,ns,rfl,s1.seq hS,hn,by decide,by decide,by decide +kernel,fun lz ys H2 hlz s2 h2 hy1 hy2=>?_⟩
    have s02:=Same.trans s1 s2
    refine ⟨lz,rfl,⟨_,SqL.of h2⟩,for_zipR (K:=K) (b:=lz) (n:=18) (ys:=ys.map V.int) (by rw [List.length_map]; omega) (fun i σ H9=>∃ (u5 u6:Option V) (st:Addr) (xs:List V) (es:List SE),σ=[some (.ref a),some (.int 2),some (.int 18),some (.ref st),some (.int c),u5,u6,none]∧Same H2 H9∧H9 st=some (.lst xs)∧Ats K H9 xs (es.map stD)∧(∀ e ∈ es,SOk e)∧(nmsE es).length=i∧(nmsE es).Nodup∧∀ x ∈ nmsE es,∃ j,j < i∧x=labS c j)
      ⟨none,none,l0,[],[],rfl,Same.refl _,s2 _ _ h1,Ats.nil,(fun e he=>nomatch he),rfl,List.nodup_nil,fun x hx=>nomatch hx⟩ (fun i σ H9 _ ⟨_,_,_,_,_,_,z,_⟩=>SqL.of (z _ _ h2)) ?_ ?_⟩
    · rintro i y p σ H3 hi hy hp ⟨u5,u6,st,xs,es,rfl,s3,hst,hSt,hok,hc,hnd,hlab⟩
      rw [List.getElem?_map] at hy
      cases ey:ys[i]? with
      | none=>rw [ey] at hy; cases hy
      | some z =>
        rw [ey] at hy
        cases hy
        generalize hG:upd H3 p _=H4
        have s4:Same H3 H4:=by rw [← hG]; exact Same.put (Same.refl _) hp
        have h4:H4 p=some (.tup [.int i,.int z]):=by rw [← hG]; exact upd_same
        clear hG
        have hle:=es_len es
        refine ⟨p,_,rfl,SqT.of h4,rfl,_,_,rfl,_,_,rfl,rfl,?_⟩
        refine ⟨_,rfl,_,rfl,_,rfl,_,rfl,i,c,rfl,by omega,st,xs,es,z,labS c i,rfl,s4 _ _ hst,hSt.same s4,hok,by omega,labS_name (by omega),fun l ys' es' H5 s5 h5 hS5 hok5 hp5 _=>?_⟩
        have hc5:(nmsE es').length=i + 1:=by rw [hp5.length_eq,List.length_cons,hc]
        refine ⟨_,_,l,ys',es',rfl,Same.trans s3 (Same.trans s4 s5),h5,hS5,hok5,hc5,hp5.nodup_iff.mpr (List.nodup_cons.mpr ⟨fun hx=>?_,hnd⟩),fun x hx=>?_⟩
        · obtain ⟨j,hj,e⟩:=hlab _ hx
          have:=labS_inj (by omega) (by omega) e
          omega
        · rcases List.mem_cons.mp (hp5.mem_iff.mp hx) with e | e
          · exact ⟨i,by omega,e⟩
          · obtain ⟨j,hj,e⟩:=hlab x e
            exact ⟨j,by omega,e⟩
    · rintro σ H3 ⟨u5,u6,st,xs,es,rfl,s3,hst,hSt,hok,hc,hnd,hlab⟩
      refine hN _ _ ?_
      clear hN N1
      have S3:=Same.trans s02 s3
      have hle:=es_len es
      have lx:xs.length=es.length:=by rw [hSt.1,List.length_map]
      refine seq_abs fun N1 hN=>?_
      refine ⟨_,rfl,st,_,rfl,.inl (SqL.of hst),rfl,_,rfl,ite2 (fun h=>?_) (fun h=>?_)⟩
      · have h1':=of_decide_eq_true h
        have h1:xs.length=1:=by
          injection h1' with z
          omega
        obtain ⟨e,rfl⟩:=List.length_eq_one_iff.mp (show es.length=1 by omega)
        obtain ⟨x,rfl⟩:=List.length_eq_one_iff.mp h1
        have he:=hok e (List.mem_singleton.mpr rfl)
        have hx:=hSt.2 0 x (stD e) rfl rfl
        obtain ⟨p,zs,rfl,hp,hB⟩:=hx.tupS
        match zs,hB with
        | [z0,z1,z2],hB =>
          rw [nmsE_one] at hc hnd
          refine ⟨_,rfl,st,_,_,_,rfl,rfl,SqL.of hst,atI_nat (j:=0) rfl,p,_,_,_,rfl,rfl,SqT.of hp,atI_nat (j:=0) rfl,k e.1 z0 H3 S3 (hB.2 0 z0 _ rfl rfl) he.1 ?_ hnd (by omega)⟩
          have:=he.2.1
          have:=he.2.2.1
          omega
      refine hN _ _ ?_
      clear hN N1
      refine seq_abs fun N1 hN=>?_
      refine ⟨_,rfl,c,rfl,fun z1=>⟨_,_,rfl,rfl,.inr ⟨by decide,by decide⟩,_,rfl,_,_,rfl,rfl,_,rfl,fun z2=>⟨_,_,rfl,rfl,?_⟩⟩⟩
      refine hN _ _ ?_
      clear hN N1
      dsimp only
      generalize z1 * 1000000000039 + z2=z
      refine seq_abs fun N1 hN=>?_
      refine ⟨(by show 3 ≤ sizeLine; decide),fun lk hlk=>?_⟩
      obtain ⟨kd,mkd,hkd⟩:=atM_strs (xs:=["row","column","wrap"]) (i:=z % 3) (by omega) (by show z % 3 < 3; omega)
      refine ⟨_,rfl,_,_,rfl,rfl,(by show (0:Int) < 3; decide),lk,_,_,_,rfl,rfl,SqL.of upd_same,hkd,?_⟩
      generalize hG:upd H3 lk _=H4
      have s4:Same H3 H4:=by rw [← hG]; exact Same.put (Same.refl _) hlk
      have h4:H4 lk=some (.lst [V.str "row",V.str "column",V.str "wrap"]):=by rw [← hG]; exact upd_same
      clear hG
      refine hN _ _ ?_
      clear hN N1
      have hst4:=s4 _ _ hst
      have hS4:=hSt.same s4
      have hk4:kd="row" ∨ kd="column" ∨ kd="wrap" ∨ kd="table":=by
        simp only [List.mem_cons,List.not_mem_nil,or_false] at mkd
        rcases mkd with z | z | z <;> simp [z]
      have hkt:kd ≠ "table":=by
        simp only [List.mem_cons,List.not_mem_nil,or_false] at mkd
        rcases mkd with z | z | z <;> (rw [z]; decide +kernel)
      refine ⟨_,rfl,_,rfl,_,rfl,18,c,rfl,by decide,_,rfl,?_⟩
      refine evs_map (K:=K) (g:=gAt 0) (l:=es.map stD) (evs_var (a:=st) rfl hst4 hS4) (by rw [List.length_map]; omega) (fun v d H1 hd _ hv=>st_ev 0 (by decide) hd hv) H4 _ (Same.refl _) fun D5 ys5 H5 s5 h5 A5=>?_
      have eg:(es.map stD).map (gAt 0)=toDs (es.map (·.1)):=by rw [toDs_map,List.map_map,List.map_map]; rfl
      rw [eg] at A5
      refine ⟨kd,labS c 18,z,D5,ys5,es.map (·.1),false,rfl,hk4,labS_name (by decide),h5,A5,by rw [List.length_map]; omega,oks_of fun b hb=>?_,fun y=>absurd y hkt,fun ow wh v H6 s6 hv hbok _=>?_⟩
      · obtain ⟨e,he,rfl⟩:=List.mem_map.mp hb
        exact (hok e he).1
      · have en:(Bx.mk kd (labS c 18) ow wh (es.map (·.1))).nms=labS c 18 :: nmsE es:=by rw [Bx.nms]; rfl
        refine k _ v H6 (Same.trans S3 (Same.trans s4 (Same.trans s5 s6))) hv hbok ?_ ?_ ?_
        · rw [Bx.hgt]
          have:hgts (es.map (·.1)) ≤ 5:=hgts_le fun b hb=>by
            obtain ⟨e,he,rfl⟩:=List.mem_map.mp hb
            exact Nat.le_trans (hok e he).2.1 (hok e he).2.2.1
          omega
        · rw [en]
          refine List.nodup_cons.mpr ⟨fun hx=>?_,hnd⟩
          obtain ⟨j,hj,e⟩:=hlab _ hx
          have:=labS_inj (by omega) (by omega) e
          omega
        · rw [en,List.length_cons,hc]
          exact Nat.le_refl _
end
end B06
namespace B06
open PySem L2 S2
mutual
def Bx.pre:Bx→List Bx
  | .mk k nm ow wh ps=>.mk k nm ow wh ps :: pres ps
def pres:List Bx→List Bx
  | []=>[]
  | b :: l=>b.pre ++ pres l
end
def Bx.parts:Bx→List Bx
  | .mk _ _ _ _ ps=>ps
def Bx.nm:Bx→Str
  | .mk _ n _ _ _=>n
theorem pre_eq:∀ b:Bx,b.pre=b :: pres b.parts
  | .mk _ _ _ _ _=>by rw [Bx.pre]; rfl
theorem pres_app:∀ a b:List Bx,pres (a ++ b)=pres a ++ pres b
  | [],b=>by rw [pres]; rfl
  | c :: a,b=>by rw [List.cons_append,pres,pres,pres_app a b,List.append_assoc]
theorem parts_at {K:PySem.W.Frag} {H:Hp} {v:V}:∀ {b:Bx},At K H v b.toD→∃ (a q:Addr) (x0 x2 x3:V) (ys:List V),v=.ref a∧H a=some (.tup [x0,.str b.nm,x2,x3,.ref q])∧H q=some (.tup ys)∧Ats K H ys (toDs b.parts)
  | .mk k n ow wh ps,h=>by
    rw [Bx.toD] at h
    obtain ⟨a,xs,rfl,ha,hA⟩:=h.tupS
    match xs,hA with
    | [x0,x1,x2,x3,x4],hA =>
      have h1:=hA.2 1 x1 _ rfl rfl
      have h4:=hA.2 4 x4 _ rfl rfl
      cases h1
      obtain ⟨q,ys,rfl,hq,hB⟩:=h4.tupS
      exact ⟨a,q,x0,x2,x3,ys,rfl,ha,hq,hB⟩
mutual
theorem pre_nms:∀ b:Bx,b.pre.map Bx.nm=b.nms
  | .mk k n ow wh ps=>by
    rw [Bx.pre,Bx.nms,List.map_cons,pres_nms ps]
    rfl
theorem pres_nms:∀ l:List Bx,(pres l).map Bx.nm=nmss l
  | []=>by rw [pres,nmss]; rfl
  | b :: l=>by rw [pres,nmss,List.map_append,pre_nms b,pres_nms l]
end
mutual
theorem pre_ok:∀ b:Bx,b.Ok→∀ c ∈ b.pre,c.Ok∧c.hgt ≤ b.hgt
  | .mk k n ow wh ps=>fun h c hc=>by
    rw [Bx.pre] at hc
    rcases List.mem_cons.mp hc with rfl | hc
    · exact ⟨h,Nat.le_refl _⟩
    · rw [Bx.Ok] at h
      have z:=pres_ok ps h.2.2 c hc
      refine ⟨z.1,?_⟩
      have e:(Bx.mk k n ow wh ps).hgt=hgts ps + 1:=by rw [Bx.hgt]
      omega
theorem pres_ok:∀ l:List Bx,Oks l→∀ c ∈ pres l,c.Ok∧c.hgt ≤ hgts l
  | []=>fun _ c hc=>by rw [pres] at hc; cases hc
  | b :: l=>fun h c hc=>by
    rw [pres] at hc
    rw [Oks] at h
    rw [hgts]
    have m1:=Nat.le_max_left b.hgt (hgts l)
    have m2:=Nat.le_max_right b.hgt (hgts l)
    rcases List.mem_append.mp hc with z | z
    · have:=pre_ok b h.1 c z
      exact ⟨this.1,by omega⟩
    · have:=pres_ok l h.2 c z
      exact ⟨this.1,by omega⟩
end
theorem subs_map (nm:Str) (d:D):∀ l:List Bx,subs nm d l=l.map (Bx.sub nm d)
  | []=>by rw [subs]; rfl
  | b :: l=>by rw [subs,List.map_cons,subs_map nm d l]
def spBoxesL (K:PySem.W.Frag):Sp:=fun vs H Q _=>∃ (v:V) (b:Bx),vs=[v]∧At K H v b.toD∧b.nms.length ≤ 19∧∀ (l:Addr) (xs:List V) (H':Hp),Same H H'→H' l=some (.lst xs)→Ats K H' xs (b.pre.map Bx.toD)→Q (.ref l) H'
def spNamed (K:PySem.W.Frag) (h:Nat):Sp:=fun vs H Q _=>∃ (v u:V) (b:Bx) (nm:Str) (d:D),vs=[v,.str nm,u]∧At K H v b.toD∧At K H u d∧b.hgt ≤ h∧b.nms.length ≤ 100∧∀ (v':V) (H':Hp),Same H H'→At K H' v' (b.sub nm d)→Q v' H'
theorem evs_tupB {K:PySem.W.Frag} {σ:St} {H0:Hp} {ta te:TE} {ps:List Bx} {f:Bx→D} (h:Ev K σ H0 ta (.tup (toDs ps))) (hl:ps.length ≤ 1000) (he:∀ (v:V) (b:Bx) (H1:Hp),b ∈ ps→Same H0 H1→At K H1 v b.toD→Ev K (some v :: σ) H1 te (f b)):EvS K σ H0 (tComp (iTup K ta) ttAll te) (ps.map f):=fun H Q s k=>h H _ s fun u H1 s1 hu=>by
  obtain ⟨a,xs,rfl,ha,hA⟩:=hu.tupS
  have lx:xs.length=ps.length:=by rw [hA.1,toDs_len]
  refine ⟨a,rfl,⟨_,SqT.of ha⟩,comp_At (K:=K) (α:=V × Bx) (l:=xs.zip ps) (fun p=>p.1) (fun p=>f p.2) ?_ (small (by rw [List.length_zip]; omega)) (fun p H' Q' _ _ hq=>hq _ (Same.refl _)) (fun p H' Q' hp s' hq=>?_) fun DD ys H6 hD s6 h6 hY=>?_⟩
  · rw [map_zip1 lx]
    exact IsIt.tup ha
  · obtain ⟨j,hj⟩:=List.getElem?_of_mem hp
    obtain ⟨z1,z2⟩:=zip_at hj
    exact he p.1 p.2 H' (List.mem_of_getElem? z2) (Same.trans s (Same.trans s1 s')) ((hA.2 j _ _ z1 (by rw [toDs_map,List.getElem?_map,z2]; rfl)).same s') H' Q' (Same.refl _) hq
  · refine k DD ys H6 (Same.trans s1 s6) h6 ?_
    have e:(xs.zip ps).map (fun p=>f p.2)=ps.map f:=by
      rw [show (fun p:V × Bx=>f p.2)=f ∘ Prod.snd from rfl,← List.map_map,List.map_snd_zip (by rw [lx]; exact Nat.le_refl _)]
    rw [e] at hY
    exact hY
theorem part_len {b:Bx}:∀ {l:List Bx},b ∈ l→b.nms.length ≤ (nmss l).length
  | c :: l,h=>by
    rw [nmss,List.length_append]
    rcases List.mem_cons.mp h with rfl | h
    · omega
    · have:=part_len h
      omega
theorem part_hgt {b:Bx}:∀ {l:List Bx},b ∈ l→b.hgt ≤ hgts l
  | c :: l,h=>by
    rw [hgts]
    have m1:=Nat.le_max_left c.hgt (hgts l)
    have m2:=Nat.le_max_right c.hgt (hgts l)
    rcases List.mem_cons.mp h with rfl | h
    · omega
    · have:=part_hgt h
      omega
theorem parts_few:∀ l:List Bx,l.length ≤ (nmss l).length
  | []=>Nat.zero_le _
  | b :: l=>by
    rw [nmss,List.length_append,List.length_cons]
    have:=nms_pos b
    have:=parts_few l
    omega
section
variable {P:Program} {w:World} {K:PySem.W.Frag} {mg:Str→Option Value} {base:Heap} {tk:Nat→Tok} {ad:Nat→Addr}
abbrev nLBoxes:List Str:=["_law_tree_here","_law_found","_law_todo","_law_box"]
theorem scLBoxes:FnScope nLBoxes ["_law_tree_here"] (defScope sLawBoxes):=⟨rfl,rfl,rfl,by decide +kernel,rfl,by decide +kernel,by decide +kernel⟩
set_option maxHeartbeats 16000000 in
theorem ok_lBoxes {f:Addr} {fd:FuncData} (F:Fun K "_law_boxes" "_law_boxes" sLawBoxes f fd) (N:Names mg):FnOk P w K mg base CX0 1 f fd ["_law_tree_here"] (spBoxesL K):=by
  refine F.ok scLBoxes (fun vs H Q E h=>?_) (fun cdv A outer s H vs Q E hr h=>?_)
  · obtain ⟨v,b,e,_⟩:=h
    rw [e]
    rfl
  · obtain ⟨v,b,e,hv,h19,k⟩:=h
    subst e
    have hu0:(A.deeper (PyProof.Rows.envOfC "_law_boxes" (defScope sLawBoxes) s.heap.objs.size f cdv)).units < cLine:=by have:=hr.units; omega
    refine ⟨_,pss_cons (ps_set (i:=1) scLBoxes.nd rfl (Or.inl rfl) (pe_lst pa_nil))
      (pss_cons (ps_set (i:=2) scLBoxes.nd rfl (Or.inl rfl) (pe_lst (pa_cons (pv 0) pa_nil)))
      (pss_cons (ps_while PassesOwn.never (pt_cmpR (op_neN hu0) (pv 2) (pe_lst pa_nil) (nomark _))
        (pss_cons (ps_set (i:=3) scLBoxes.nd rfl (Or.inl rfl) (pe_bm PySem.F.plainAttrs_list PySem.F.slot_list_pop PySem.F.type_list_pop mt_popAt (pv 2) (pa_cons pe_int pa_nil)))
        (pss_cons (ps_expr (pe_bm PySem.F.plainAttrs_list PySem.F.slot_list_append PySem.F.type_list_append mt_append (pv 1) (pa_cons (pv 3) pa_nil)))
        (pss_one (ps_set (i:=2) scLBoxes.nd rfl (Or.inl rfl) (pe_op op_cat (pe_callTy call_list_of (by rfl) N.list PyProof.Rows.boot_list (pa_cons (pe_ix ix_tup (pv 3) pe_int (fun _ _=>rfl)) pa_nil)) (pv 2)))))))
      (pss_one (ps_ret (pv 1))))),?_⟩
    try rw [show (cxOf CX0 P w K mg base nLBoxes "_law_boxes" (defScope sLawBoxes) f cdv A outer s H E).nox.K=K from rfl]
    refine seq_abs fun N1 hN=>?_
    refine ⟨smallE (by simp),fun lf hlf=>?_⟩
    generalize hG:upd H lf _=H1
    have s1:Same H H1:=by rw [← hG]; exact Same.put (Same.refl _) hlf
    have h1:H1 lf=some (.lst []):=by rw [← hG]; exact upd_same
    clear hG
    refine hN _ _ ?_
    clear hN N1
    refine seq_abs fun N1 hN=>?_
    refine ⟨_,rfl,(by show 1 ≤ sizeLine; decide),fun lt hlt=>?_⟩
    generalize hG:upd H1 lt _=H2
    have s2:Same H1 H2:=by rw [← hG]; exact Same.put (Same.refl _) hlt
    have h2:H2 lt=some (.lst [v]):=by rw [← hG]; exact upd_same
    clear hG
    refine hN _ _ ?_
    clear hN N1
    have hbl:b.pre.length ≤ 19:=by
      have:=congrArg List.length (pre_nms b)
      rw [List.length_map] at this
      omega
    have s02:=Same.trans s1 s2
    have nlt:lf ≠ lt:=ne_of_none h1 hlt
    refine seq_abs fun N1 hN=>?_
    refine ⟨fun m σ G=>∃ (l:Addr) (xs ys:List V) (dn rs:List Bx) (v3:Option V),σ=[some v,some (.ref lf),some (.ref l),v3]∧Same H G∧H l=none∧l ≠ lf∧G lf=some (.lst xs)∧Ats K G xs (dn.map Bx.toD)∧G l=some (.lst ys)∧Ats K G ys (rs.map Bx.toD)∧b.pre=dn ++ pres rs∧m=(pres rs).length,⟨_,lt,[],[v],[],[b],none,rfl,s02,same_none s1 hlt,Ne.symm nlt,s2 _ _ h1,Ats.nil,h2,Ats.nil.snoc (hv.same s02),by rw [pres,pres,List.append_nil]; rfl,rfl⟩,?_⟩
    rintro m σ G ⟨l,xs,ys,dn,rs,v3,rfl,sG,hl0,nl,hf,hX,ht,hY,epre,rfl⟩
    have ly:ys.length=rs.length:=by rw [hY.1,List.length_map]
    refine ⟨_,rfl,smallE (by simp),fun p0 hp0=>?_⟩
    generalize hG:upd G p0 _=G1
    have g1:Same G G1:=by rw [← hG]; exact Same.put (Same.refl _) hp0
    have q1:G1 p0=some (.lst []):=by rw [← hG]; exact upd_same
    clear hG
    have hf:=g1 _ _ hf
    have ht:=g1 _ _ ht
    have hX:=hX.same g1
    have hY:=hY.same g1
    have sG:=Same.trans sG g1
    refine ⟨l,p0,_,rfl,rfl,SqL.of ht,SqL.of q1,_,rfl,?_⟩
    cases rs with
    | nil =>
      have ey:ys=[]:=List.eq_nil_of_length_eq_zero ly
      subst ey
      refine iteC rfl ?_
      refine hN _ _ ?_
      rw [pres,List.append_nil] at epre
      rw [← epre] at hX
      exact ⟨_,rfl,k lf xs G1 sG hf hX⟩
    | cons c rs =>
      cases ys with
      | nil=>cases ly
      | cons y ys =>
        refine iteB rfl ?_
        have hfew:(pres (c :: rs)).length ≤ 19:=by
          have:=congrArg List.length epre
          rw [List.length_append] at this
          omega
        have hd19:dn.length ≤ 19:=by
          have:=congrArg List.length epre
          rw [List.length_append] at this
          omega
        have e1:pres (c :: rs)=c :: pres (c.parts ++ rs):=by rw [pres,pre_eq,pres_app]; rfl
        refine ⟨fun σ' G'=>∃ (l:Addr) (xs ys:List V) (v3:Option V),σ'=[some v,some (.ref lf),some (.ref l),v3]∧Same H G'∧H l=none∧l ≠ lf∧G' lf=some (.lst xs)∧Ats K G' xs ((dn ++ [c]).map Bx.toD)∧G' l=some (.lst ys)∧Ats K G' ys ((c.parts ++ rs).map Bx.toD),fun σ' G' ⟨l,xs,ys,v3,z1,z2,z3,z4,z5,z6,z7,z8⟩=>⟨(pres (c.parts ++ rs)).length,by rw [e1,List.length_cons]; omega,l,xs,ys,dn ++ [c],c.parts ++ rs,v3,z1,z2,z3,z4,z5,z6,z7,z8,by rw [epre,e1,List.append_assoc]; rfl,rfl⟩,?_⟩
        -- pop
        refine seq_abs fun N2 hN2=>?_
        refine ⟨_,rfl,.inl ⟨rfl,_,SqL.of ht⟩,l,_,0,0,y,rfl,rfl,ht,by decide,by decide,?_,rfl,?_⟩
        · show seqIndex? 0 (ys.length + 1)=some 0
          simp [seqIndex?]
          try omega
        have kp:Kp l G1 (upd G1 l (.lst ys)):=Kp.store
        have hlt2:(upd G1 l (.lst ys)) l=some (.lst ys):=upd_same
        have hy0:=(hY.2 0 y _ rfl rfl).kpL kp ht hlt2
        have hY2:Ats K (upd G1 l (.lst ys)) ys (rs.map Bx.toD):=⟨by have:=hY.1; rw [List.map_cons,List.length_cons,List.length_cons] at this; omega,fun j x d e1 e2=>(hY.2 (j + 1) x d e1 e2).kpL kp ht hlt2⟩
        have hX2:Ats K (upd G1 l (.lst ys)) xs (dn.map Bx.toD):=⟨hX.1,fun j x d e1 e2=>(hX.2 j x d e1 e2).kpL kp ht hlt2⟩
        have hf2:(upd G1 l (.lst ys)) lf=some (.lst xs):=by rw [upd_ne (Ne.symm nl)]; exact hf
        have sG2:Same H (upd G1 l (.lst ys)):=Same.put sG hl0
        refine hN2 _ _ ?_
        clear hN2 N2
        try dsimp only
        rw [show (y :: ys).eraseIdx 0=ys from rfl]
        generalize upd G1 l (.lst ys)=G2 at *
        -- append
        refine seq_abs fun N2 hN2=>?_
        refine ⟨_,rfl,.inl ⟨rfl,_,SqL.of hf2⟩,_,rfl,lf,_,_,rfl,rfl,hf2,small (by rw [hX2.1,List.length_map]; omega),?_⟩
        have kf:Kp lf G2 (upd G2 lf (.lst (xs ++ [y]))):=Kp.store
        have hf3:(upd G2 lf (.lst (xs ++ [y]))) lf=some (.lst (xs ++ [y])):=upd_same
        have hX3:Ats K (upd G2 lf (.lst (xs ++ [y]))) (xs ++ [y]) ((dn ++ [c]).map Bx.toD):=by
          rw [List.map_append]
          exact Ats.snoc ⟨hX2.1,fun j x d e1 e2=>(hX2.2 j x d e1 e2).kpL kf hf2 hf3⟩ (hy0.kpL kf hf2 hf3)
        have hY3:Ats K (upd G2 lf (.lst (xs ++ [y]))) ys (rs.map Bx.toD):=⟨hY2.1,fun j x d e1 e2=>(hY2.2 j x d e1 e2).kpL kf hf2 hf3⟩
        have ht3:(upd G2 lf (.lst (xs ++ [y]))) l=some (.lst ys):=by rw [upd_ne nl]; exact hlt2
        have hy3:=hy0.kpL kf hf2 hf3
        have sG3:Same H (upd G2 lf (.lst (xs ++ [y]))):=Same.put sG2 hlf
        refine hN2 _ _ ?_
        clear hN2 N2
        generalize upd G2 lf (.lst (xs ++ [y]))=G3 at *
        obtain ⟨ca,q,x0,x2,x3,zs,rfl,hca,hq,hZ⟩:=parts_at hy3
        refine ⟨_,rfl,ca,_,_,_,rfl,rfl,SqT.of hca,atI_nat (j:=4) rfl,q,_,rfl,.inr (SqT.of hq),fun l4 hl4=>?_⟩
        generalize hG:upd G3 l4 _=G4
        have g4:Same G3 G4:=by rw [← hG]; exact Same.put (Same.refl _) hl4
        have q4:G4 l4=some (.lst zs):=by rw [← hG]; exact upd_same
        clear hG
        refine ⟨_,rfl,l4,l,_,_,rfl,rfl,q4,g4 _ _ ht3,smallE ?_,fun l5 hl5=>?_⟩
        · have hz1:=hZ.1
          rw [toDs_len] at hz1
          have hr1:=hY3.1
          rw [List.length_map] at hr1
          have pf:=parts_few (c.parts ++ rs)
          have pl:=congrArg List.length (pres_nms (c.parts ++ rs))
          rw [List.length_map] at pl
          rw [List.length_append] at pf
          rw [e1,List.length_cons] at hfew
          omega
        generalize hG:upd G4 l5 _=G5
        have g5:Same G4 G5:=by rw [← hG]; exact Same.put (Same.refl _) hl5
        have q5:G5 l5=some (.lst (zs ++ ys)):=by rw [← hG]; exact upd_same
        clear hG
        have g35:=Same.trans g4 g5
        have hl5H:H l5=none:=(Same.trans sG3 g4).free hl5
        refine (show ∃ (l:Addr) (xs ys:List V) (v3:Option V),_ from ⟨l5,xs ++ [.ref ca],zs ++ ys,_,rfl,Same.trans sG3 g35,hl5H,fun z=>?_,g35 _ _ hf3,hX3.same g35,q5,?_⟩)
        · rw [z,g4 _ _ hf3] at hl5
          cases hl5
        · rw [List.map_append,← toDs_map]
          exact (hZ.same g35).app (hY3.same g35)
abbrev nLNamed:List Str:=["_law_tree_here","_law_name","_law_other"]
theorem scLNamed:FnScope nLNamed ["_law_tree_here","_law_name","_law_other"] (defScope sLawNamed):=⟨rfl,rfl,rfl,by decide +kernel,rfl,by decide +kernel,by decide +kernel⟩
set_option maxHeartbeats 16000000 in
theorem ok_lNamed {f f1:Addr} {fd d1:FuncData} {h:Nat} (F:Fun K "_law_named" "_law_named" sLawNamed f fd) (N:Names mg)
    (G1:FnOk P w K mg base CX0 (20 + h) f1 d1 ["_law_tree_here","_law_name","_law_other"] (spNamed K h)) (b1:Binds K d1 ["_law_tree_here","_law_name","_law_other"] []) (m1:mg "_law_named"=some (.ref f1)) (k1:PySem.W.keepIn K (.ref f1)=true):FnOk P w K mg base CX0 (20 + h + 1) f fd ["_law_tree_here","_law_name","_law_other"] (spNamed K (h + 1)):=by
  refine F.ok scLNamed (fun vs H Q E h=>?_) (fun cdv A outer s H vs Q E hr h=>?_)
  · obtain ⟨v,u,b,nm,d,e,_⟩:=h
    rw [e]
    rfl
  · obtain ⟨v,u,b,nm,d,e,hv,hu,hh,hl,k⟩:=h
    subst e
    have hr1000:=hr
    refine ⟨_,pss_cons (ps_if (pt_cmpR op_eq (pe_ix ix_tup (pv 0) pe_int (fun _ _=>rfl)) (pv 1) (nomark _)) (pss_one (ps_ret (pv 2))) pss_nil)
      (pss_one (ps_ret (pe_op op_catA (pe_slice sl_tup (pv 0) po_none (po_some pe_int)) (pe_tup (pa_cons (pe_callTy call_tuple_of (by rfl) N.tuple PyProof.Rows.boot_tuple (pa_cons (pe_comp (compSc_mk (fs:=defScope sLawNamed) (N:=nLNamed) rfl rfl (by decide +kernel)) rfl (pi_tup (pe_ix ix_tup (pv 0) pe_int (fun _ _=>rfl))) (fun _ _ _ _ _=>pts_nil) (fun _ _ _ _ _=>(pe_call G1 hr1000 (by rfl) m1 k1 b1 .nil pass0 (pa_cons (pv 0) (pa_cons (pv 2) (pa_cons (pv 3) pa_nil)))))) pa_nil)) pa_nil))))),?_⟩
    try rw [show (cxOf CX0 P w K mg base nLNamed "_law_named" (defScope sLawNamed) f cdv A outer s H E).nox.K=K from rfl]
    obtain ⟨kd,n,ow,wh,ps⟩:=b
    rw [Bx.hgt] at hh
    rw [Bx.nms,List.length_cons] at hl
    rw [Bx.sub] at k
    have hv0:=hv
    rw [Bx.toD] at hv0
    refine seq_abs fun N1 hN=>?_
    obtain ⟨a,q,x0,x2,x3,ys,rfl,ha,hq,hA⟩:=parts_at hv
    refine ⟨_,rfl,a,_,_,_,rfl,rfl,SqT.of ha,atI_nat (j:=1) rfl,_,rfl,rfl,_,rfl,ite2 (fun he=>?_) (fun he=>?_)⟩
    · have e:n=nm:=by
        have:=of_decide_eq_true he
        injection this
      rw [if_pos e] at k
      exact ⟨_,rfl,k u H (Same.refl _) hu⟩
    have e:¬ n=nm:=fun z=>he (decide_eq_true (by rw [← z]; rfl))
    rw [if_neg e] at k
    refine hN _ _ ?_
    clear hN N1
    have pf:=parts_few ps
    refine Ev.ret (H:=H) (d:=.tup ([D.str kd,.str n,ow,wh,.tup (toDs ps)].take 4 ++ [.tup (ps.map (Bx.sub nm d))])) (ev_cat (ev_till (l:=[D.str kd,.str n,ow,wh,.tup (toDs ps)]) (j:=4) (ev_var rfl hv0) nume_c (by show 4 < 5; decide)) (ev_tup (evl_cons (ev_tuple (evs_tupB (f:=Bx.sub nm d) (ev_ix (l:=[D.str kd,.str n,ow,wh,.tup (toDs ps)]) (j:=4) (ev_var rfl hv0) nume_c rfl) (by omega) fun v b H1 hb s1 hvb=>?_)) evl_nil) (by show 1 ≤ 100000; decide)) (by show 4 + 1 ≤ 100000; decide)) fun v' H' s' h'=>k v' H' s' (by rw [subs_map]; exact h')
    intro H2 Q2 s2 k2
    exact ⟨_,rfl,_,rfl,_,rfl,v,u,b,nm,d,rfl,hvb.same s2,(hu.same s1).same s2,by have:=part_hgt hb; omega,by have:=part_len hb; omega,k2⟩
theorem ok_named {f:Addr} {fd:FuncData} (F:Fun K "_law_named" "_law_named" sLawNamed f fd) (N:Names mg) (b1:Binds K fd ["_law_tree_here","_law_name","_law_other"] []) (m1:mg "_law_named"=some (.ref f)) (k1:PySem.W.keepIn K (.ref f)=true):∀ h:Nat,FnOk P w K mg base CX0 (20 + h) f fd ["_law_tree_here","_law_name","_law_other"] (spNamed K h)
  | 0=>⟨fun _ _ _ _ ⟨_,_,b,_,_,_,_,_,z,_⟩=>(by cases b; rw [Bx.hgt] at z; omega),fun _ _ _ _ _ _ _ _ _ _ _ _ _ ⟨_,_,b,_,_,_,_,_,z,_⟩=>(by cases b; rw [Bx.hgt] at z; omega)⟩
  | h + 1=>ok_lNamed F N (ok_named F N b1 m1 k1 h) b1 m1 k1
end
end B06
namespace B06
open PySem L2 S2
theorem getD_at {l:List D} {k:Nat} (h:k < l.length):l[k]?=some (l.getD k .non):=by rw [List.getD_eq_getElem?_getD,List.getElem?_eq_getElem h]; rfl
theorem getD_mem {l:List D} {k:Nat} (h:k < l.length):l.getD k .non ∈ l:=List.mem_of_getElem? (getD_at h)
def NB (d:D):Prop:=∀ m:Int,m ≤ 1000000→d.between 0 m=false
def lim (i:Nat):Int:=if i < 4 then 99 else 9
theorem nb_int {i:Int} (h:i < 0 ∨ 1000000 < i):NB (.int i):=fun m hm=>by
  show (decide (0 ≤ i) && decide (i ≤ m))=false
  rcases h with h | h
  · rw [decide_eq_false (show ¬ 0 ≤ i by omega),Bool.false_and]
  · rw [decide_eq_false (show ¬ i ≤ m by omega),Bool.and_false]
def badsO (c:Int):List D:=[.int (-1),.int (10 ^ (6:Int).toNat + 1 + c % 10 ^ (20:Int).toNat),.bl true,.str "3",.non,.int (10 ^ (9:Int).toNat)]
theorem badsO_nb (c:Int):∀ d ∈ badsO c,NB d:=by
  have e6:(10:Int) ^ (6:Int).toNat=1000000:=by decide
  have e9:(10:Int) ^ (9:Int).toNat=1000000000:=by decide
  have e20:(0:Int) < 10 ^ (20:Int).toNat:=by decide
  have h0:=Int.emod_nonneg c (Int.ne_of_gt e20)
  unfold badsO
  simp only [List.mem_cons,List.not_mem_nil,or_false]
  rintro d (rfl | rfl | rfl | rfl | rfl | rfl)
  · exact nb_int (.inl (by decide))
  · exact nb_int (.inr (by rw [e6]; omega))
  · exact fun m _=>rfl
  · exact fun m _=>rfl
  · exact fun m _=>rfl
  · exact nb_int (.inr (by rw [e9]; decide))
def badsB (d:D):List D:=[.tup [d,.int (10 ^ (6:Int).toNat)],.tup [.int 5,.int 4],.tup [.int 1],.oth,.tup [.int 0,d],.int 7]
theorem badsB_no {d:D} (h:NB d):∀ x ∈ badsB d,x.bounds=false:=by
  have hs:d.size=false:=h 1000000 (Int.le_refl _)
  unfold badsB
  simp only [List.mem_cons,List.not_mem_nil,or_false]
  rintro x (rfl | rfl | rfl | rfl | rfl | rfl)
  · show (d.size && _)=false
    rw [hs,Bool.false_and]
  · decide +kernel
  · rfl
  · rfl
  · show ((D.int 0).size && (d.size && leD (.int 0) d))=false
    rw [hs,Bool.false_and,Bool.and_false]
  · rfl
theorem own_bad {a b c e f g x:D} {i:Nat} (hi:i < 6) (h0:i < 2→x.bounds=false) (h1:2 ≤ i→x.between 0 (lim i)=false):(D.tup ([a,b,c,e,f,g].take i ++ [x] ++ [a,b,c,e,f,g].drop (i + 1))).own=false:=by
  match i,hi with
  | 0,_ =>
    show (x.bounds && b.bounds && (c.between 0 99 && e.between 0 99) && (f.between 0 9 && g.between 0 9))=false
    rw [h0 (by decide)]
    rfl
  | 1,_ =>
    show (a.bounds && x.bounds && (c.between 0 99 && e.between 0 99) && (f.between 0 9 && g.between 0 9))=false
    rw [h0 (by decide),Bool.and_false]
    rfl
  | 2,_ =>
    show (a.bounds && b.bounds && (x.between 0 99 && e.between 0 99) && (f.between 0 9 && g.between 0 9))=false
    rw [show x.between 0 99=false from h1 (by decide),Bool.false_and,Bool.and_false]
    rfl
  | 3,_ =>
    show (a.bounds && b.bounds && (c.between 0 99 && x.between 0 99) && (f.between 0 9 && g.between 0 9))=false
    rw [show x.between 0 99=false from h1 (by decide),Bool.and_false,Bool.and_false]
    rfl
  | 4,_ =>
    show (a.bounds && b.bounds && (c.between 0 99 && e.between 0 99) && (x.between 0 9 && g.between 0 9))=false
    rw [show x.between 0 9=false from h1 (by decide),Bool.false_and,Bool.and_false]
  | 5,_ =>
    show (a.bounds && b.bounds && (c.between 0 99 && e.between 0 99) && (f.between 0 9 && x.between 0 9))=false
    rw [show x.between 0 9=false from h1 (by decide),Bool.and_false,Bool.and_false]
def spBentOwn (K:PySem.W.Frag):Sp:=fun vs H Q _=>∃ (v:V) (a b c e f g:D) (n:Int),vs=[v,.int n]∧At K H v (.tup [a,b,c,e,f,g])∧∀ (d:D) (v':V) (H':Hp),Same H H'→At K H' v' d→d.own=false→Q v' H'
theorem four_i {i:Nat} (h0:2 ≤ i) (h1:i < 6):∃ z:Int,atI [V.int 100,V.int 100,V.int 10,V.int 10] ((i:Int) - 2)=some (.int z)∧(D.int z).between 0 (lim i)=false:=by
  match i,h0,h1 with
  | 2,_,_=>exact ⟨100,rfl,by decide⟩
  | 3,_,_=>exact ⟨100,rfl,by decide⟩
  | 4,_,_=>exact ⟨10,rfl,by decide⟩
  | 5,_,_=>exact ⟨10,rfl,by decide⟩
section
variable {P:Program} {w:World} {K:PySem.W.Frag} {mg:Str→Option Value} {base:Heap} {tk:Nat→Tok} {ad:Nat→Addr}
abbrev nLBentOwn:List Str:=["_law_own_here","_law_cell","_law_at_here","_law_bad"]
theorem scLBentOwn:FnScope nLBentOwn ["_law_own_here","_law_cell"] (defScope sLawBentOwn):=⟨rfl,rfl,rfl,by decide +kernel,rfl,by decide +kernel,by decide +kernel⟩
set_option maxHeartbeats 16000000 in
theorem ok_lBentOwn {f:Addr} {fd:FuncData} (F:Fun K "_law_bent_own" "_law_bent_own" sLawBentOwn f fd) (N:Names mg):FnOk P w K mg base CX0 1 f fd ["_law_own_here","_law_cell"] (spBentOwn K):=by
  refine F.ok scLBentOwn (fun vs H Q E h=>?_) (fun cdv A outer s H vs Q E hr h=>?_)
  · obtain ⟨v,a,b,c,e,f0,g,n,e,_⟩:=h
    rw [e]
    rfl
  · obtain ⟨v,a,b,c,e,f0,g,n,e,hv,k⟩:=h
    subst e
    refine ⟨_,pss_cons (ps_set (i:=2) scLBentOwn.nd rfl (Or.inl rfl) (pe_op op_mod (pv 1) pe_int))
      (pss_cons (ps_set (i:=3) scLBentOwn.nd rfl (Or.inl rfl) (pe_ix ix_list (pe_lst (pa_cons (pe_un un_neg pe_int) (pa_cons (pe_op op_add (pe_op op_add (pe_op op_pow pe_int pe_int) pe_int) (pe_op op_mod (pv 1) (pe_op op_pow pe_int pe_int))) (pa_cons pe_bl (pa_cons pe_str (pa_cons pe_non (pa_cons (pe_op op_pow pe_int pe_int) pa_nil))))))) (pe_op op_mod (pe_op op_fdiv (pv 1) pe_int) pe_int) (fun _ _=>rfl)))
      (pss_cons (ps_if (pw_and (pt_cmpR op_gt (pv 2) pe_int (nomark _)) (pw_and1 (pt_cmpR op_eq (pe_op op_mod (pe_op op_fdiv (pv 1) pe_int) pe_int) pe_int (nomark _)))).pt (pss_one (ps_set (i:=3) scLBentOwn.nd rfl (Or.inl rfl) (pe_ix ix_list (pe_lst (pa_cons pe_int (pa_cons pe_int (pa_cons pe_int (pa_cons pe_int pa_nil))))) (pe_op op_sub (pv 2) pe_int) (fun _ _=>rfl)))) pss_nil)
      (pss_cons (ps_if (pt_cmpR op_lt (pv 2) pe_int (nomark _)) (pss_one (ps_set (i:=3) scLBentOwn.nd rfl (Or.inl rfl) (pe_ix ix_list (pe_lst (pa_cons (pe_tup (pa_cons (pv 3) (pa_cons (pe_op op_pow pe_int pe_int) pa_nil))) (pa_cons (pe_tup (pa_cons pe_int (pa_cons pe_int pa_nil))) (pa_cons (pe_tup (pa_cons pe_int pa_nil)) (pa_cons (pe_lst (pa_cons pe_int (pa_cons pe_int pa_nil))) (pa_cons (pe_tup (pa_cons pe_int (pa_cons (pv 3) pa_nil))) (pa_cons pe_int pa_nil))))))) (pe_op op_mod (pe_op op_fdiv (pv 1) pe_int) pe_int) (fun _ _=>rfl)))) pss_nil)
      (pss_one (ps_ret (pe_op op_catA (pe_op op_catA (pe_slice sl_tup (pv 0) po_none (po_some (pv 2))) (pe_tup (pa_cons (pv 3) pa_nil))) (pe_slice sl_tup (pv 0) (po_some (pe_op op_add (pv 2) pe_int)) po_none))))))),?_⟩
    try rw [show (cxOf CX0 P w K mg base nLBentOwn "_law_bent_own" (defScope sLawBentOwn) f cdv A outer s H E).nox.K=K from rfl]
    refine seq_abs fun N1 hN=>?_
    refine ⟨_,rfl,_,_,rfl,rfl,(by show (0:Int) < 6; decide),?_⟩
    refine hN _ _ ?_
    clear hN N1
    obtain ⟨i,ei,hi⟩:=nat_of (z:=n % 6) (n:=6) (by omega) (by omega)
    dsimp only
    rw [ei]
    have hj:(n / 6 % 6).toNat < (badsO n).length:=by show _ < 6; omega
    refine seq_abs fun N1 hN=>?_
    refine Ev.set (K:=K) (H:=H) (d:=(badsO n).getD (n / 6 % 6).toNat .non) (evs_ix (l:=badsO n) (n:=n / 6 % 6) (j:=(n / 6 % 6).toNat) (evs_lst ?_ (by show 6 ≤ 100000; decide)) (fun H' Q' s' q=>⟨_,rfl,_,_,rfl,rfl,⟨by decide,by decide⟩,_,_,rfl,rfl,(by show (0:Int) < 6; decide),q⟩) (by omega) (getD_at hj)) fun v3 H1 s1 hv3=>?_
    · refine evl_cons ?_ (evl_cons ?_ (evl_cons ev_bl (evl_cons (ev_str (by decide +kernel)) (evl_cons ev_non (evl_cons ?_ evl_nil)))))
      · first | exact ev_int | exact ev_num (nume_neg nume_c)
      · exact ev_num fun H' Q' s' q=>⟨_,_,rfl,rfl,⟨by decide,by decide,by decide⟩,_,_,rfl,rfl,_,rfl,_,_,rfl,rfl,⟨by decide,by decide,by decide⟩,_,_,rfl,rfl,(by show (0:Int) < 10 ^ (20:Int).toNat; decide),_,_,rfl,rfl,q⟩
      · exact ev_num (nume_op nume_c nume_c ⟨by decide,by decide,by decide⟩)
    have hnb:NB ((badsO n).getD (n / 6 % 6).toNat .non):=badsO_nb n _ (getD_mem hj)
    generalize (badsO n).getD (n / 6 % 6).toNat .non=x0 at *
    refine hN _ _ ?_
    clear hN N1
    refine seq_abs fun N1 hN=>?_
    have rest:∀ (v3:V) (x:D) (G:Hp),Same H G→At K G v3 x→(i < 2→NB x)→(2 ≤ i→x.between 0 (lim i)=false)→N1 [some v,some (.int n),some (.int (i:Int)),some v3] G:=fun v3 x G sG hx c1 c2=>hN _ _ (by
      clear hN N1
      refine seq_abs fun N1 hN=>?_
      have fin:∀ (v3:V) (x:D) (G:Hp),Same H G→At K G v3 x→(i < 2→x.bounds=false)→(2 ≤ i→x.between 0 (lim i)=false)→N1 [some v,some (.int n),some (.int (i:Int)),some v3] G:=fun v3 x G sG hx c1 c2=>hN _ _ (by
        have hv:=hv.same sG
        refine Ev.ret (H:=G) (d:=.tup ([a,b,c,e,f0,g].take i ++ [x] ++ [a,b,c,e,f0,g].drop (i + 1))) (ev_cat (ev_cat (ev_till (l:=[a,b,c,e,f0,g]) (j:=i) (ev_var rfl hv) (nume_var rfl) hi) (ev_tup (evl_cons (ev_var rfl hx) evl_nil) (by show 1 ≤ 100000; decide)) (by rw [List.length_take]; show min i 6 + 1 ≤ 100000; omega)) (ev_from (l:=[a,b,c,e,f0,g]) (j:=i + 1) (ev_var rfl hv) (by rw [show ((i + 1:Nat):Int)=(i:Int) + 1 from rfl]; exact nume_add (nume_var rfl) nume_c) (Nat.succ_pos _) (by show 0 < 6; decide)) (by rw [List.length_append,List.length_take,List.length_drop]; show min i 6 + 1 + (6 - (i + 1)) ≤ 100000; omega)) fun v' H' s' h'=>k _ v' H' (Same.trans sG s') h' (own_bad hi c1 c2))
      clear hN
      refine ⟨_,rfl,_,_,rfl,rfl,_,rfl,ite2 (fun h2=>?_) (fun h2=>?_)⟩
      · have h2:i < 2:=by have:=of_decide_eq_true h2; omega
        have hb:=badsB_no (c1 h2)
        refine Ev.set (K:=K) (H:=G) (d:=(badsB x).getD (n / 36 % 6).toNat .non) (evs_ix (l:=badsB x) (n:=n / 36 % 6) (j:=(n / 36 % 6).toNat) (evs_lst ?_ (by show 6 ≤ 100000; decide)) (fun H' Q' s' q=>⟨_,rfl,_,_,rfl,rfl,⟨by decide,by decide⟩,_,_,rfl,rfl,(by show (0:Int) < 6; decide),q⟩) (by omega) (getD_at (by show _ < 6; omega))) fun v4 G1 g1 hv4=>?_
        · refine evl_cons (ev_tup (evl_cons (ev_var rfl hx) (evl_cons (ev_num (nume_op nume_c nume_c ⟨by decide,by decide,by decide⟩)) evl_nil)) (by show 2 ≤ 100000; decide)) (evl_cons (ev_tup (evl_cons ev_int (evl_cons ev_int evl_nil)) (by show 2 ≤ 100000; decide)) (evl_cons (ev_tup (evl_cons ev_int evl_nil) (by show 1 ≤ 100000; decide)) (evl_cons (ev_lst (evs_lst (evl_cons ev_int (evl_cons ev_int evl_nil)) (by show 2 ≤ 100000; decide))) (evl_cons (ev_tup (evl_cons ev_int (evl_cons (ev_var rfl hx) evl_nil)) (by show 2 ≤ 100000; decide)) (evl_cons ev_int evl_nil)))))
        · exact fin v4 _ G1 (Same.trans sG g1) hv4 (fun _=>hb _ (getD_mem (by show _ < 6; omega))) fun z=>absurd z (by omega)
      · exact fin v3 x G sG hx (fun z=>absurd (decide_eq_true (by omega)) h2) c2)
    clear hN
    refine ⟨_,rfl,_,_,rfl,rfl,_,rfl,ite2 (fun h1=>?_) (fun h1=>iteF ?_)⟩
    rotate_left
    · exact rest v3 x0 H1 s1 hv3 (fun _=>hnb) fun z=>absurd (decide_eq_true (by omega)) h1
    have h1:2 ≤ i:=by have:=of_decide_eq_true h1; omega
    refine ⟨_,rfl,_,_,rfl,rfl,⟨by decide,by decide⟩,_,_,rfl,rfl,(by show (0:Int) < 6; decide),rfl,_,rfl,ite2 (fun _=>?_) (fun _=>?_)⟩
    · obtain ⟨z,ez,hz⟩:=four_i h1 hi
      refine ⟨(by show 4 ≤ sizeLine; decide),fun l4 hl4=>?_⟩
      generalize hG:upd H1 l4 _=H2
      have s2:Same H1 H2:=by rw [← hG]; exact Same.put (Same.refl _) hl4
      have h2:H2 l4=some (.lst [V.int 100,V.int 100,V.int 10,V.int 10]):=by rw [← hG]; exact upd_same
      clear hG
      refine ⟨_,rfl,_,_,rfl,rfl,l4,_,_,_,rfl,rfl,SqL.of h2,ez,?_⟩
      exact rest (.int z) (.int z) H2 (Same.trans s1 s2) (.int z) (fun y=>absurd y (by omega)) fun _=>hz
    · exact rest v3 x0 H1 s1 hv3 (fun _=>hnb) fun _=>hnb _ (by unfold lim; split <;> decide)
end
end B06
namespace B06
open PySem L2 S2
def BentOk (b:Bx) (fs:Str) (d n':D):Prop:=(∀ h,6 ≤ h→GoodF h d)∧(d.box=true→n'=.str fs∧fs ≠ b.nm) ∧
  (n'=.str b.nm ∨ (n'.name=false∧((∃ s:Str,n'=.str s∧s.length ≤ 100) ∨ n'=.non ∨ ∃ i,n'=.int i)) ∨ (n'=.str fs∧fs ≠ b.nm))
def spBentD (K:PySem.W.Frag):Sp:=fun vs H Q _=>∃ (v:V) (b:Bx) (c:Int) (fs:Str),vs=[v,.int c,.str fs]∧At K H v b.toD∧b.Ok∧b.hgt ≤ 6∧(D.str fs).name=true∧fs.length ≤ 100 ∧
  ∀ (k' n' o' w' p':D) (v':V) (H':Hp),Same H H'→At K H' v' (.tup [k',n',o',w',p'])→BentOk b fs (.tup [k',n',o',w',p']) n'→Q v' H'
theorem good_no {k n o w p:D} (hk:k.kAsk=true) (hb:(D.tup [k,n,o,w,p]).box=false):∀ h,6 ≤ h→GoodF h (.tup [k,n,o,w,p])
  | 0,h=>absurd h (by decide)
  | h + 1,_=>by
    refine ⟨⟨fun k' n' o' w' p' e=>?_,fun z=>?_⟩,fun z=>?_⟩
    · injection e with e
      injection e with e _
      rw [← e]
      exact hk
    · rw [hb] at z; cases z
    · rw [hb] at z; cases z
theorem box_n {k n o w p:D} (h:n.name=false):(D.tup [k,n,o,w,p]).box=false:=by
  show ((n.name && o.own) && partsW k w p)=false
  rw [h,Bool.false_and,Bool.false_and]
theorem box_o {k n o w p:D} (h:o.own=false):(D.tup [k,n,o,w,p]).box=false:=by
  show ((n.name && o.own) && partsW k w p)=false
  rw [h,Bool.and_false,Bool.false_and]
theorem box_p {k n o w p:D} (h:partsW k w p=false):(D.tup [k,n,o,w,p]).box=false:=by
  show ((n.name && o.own) && partsW k w p)=false
  rw [h,Bool.and_false]
theorem box_pw {k n o w:D} {l:List D} (h:whatK k w (l.length:Int)=false):(D.tup [k,n,o,w,.tup l]).box=false:=box_p h
theorem tupOf_f {l:List D} {m:Int} (h:(l.length:Int) ≠ m):¬ (D.tup l).tupOf m=true:=fun z=>h (of_decide_eq_true (p:=(l.length:Int)=m) z)
theorem whatS_no {k:Str} {w:D} {n:Int} (h2:¬ w.tupOf 2=true) (h3:¬ w.tupOf 3=true) (h4:¬ w.tupOf 4=true):whatS k w n=false:=by
  unfold whatS D.linedW D.leafW D.tableW
  rw [pair2_no h2,three_no h3,four_no h4,Bool.and_false,Bool.and_false,Bool.and_false,Bool.and_false]
  split
  · rfl
  · split <;> rfl
theorem tupOf_2 {d:D} (h:∀ l,d ≠ .tup l) (m:Int):¬ d.tupOf m=true:=fun z=>by
  cases d with
  | tup l=>exact h l rfl
  | _=>cases z
theorem what_len {k:Str} {w:D} {n:Int} (hk:KdOk k) (h:whatS k w n=true):(k="leaf"∧∃ a b,w=.tup [a,b]) ∨ ((k="row" ∨ k="column" ∨ k="wrap")∧∃ a b c,w=.tup [a,b,c]) ∨ (k="table"∧∃ a b c e,w=.tup [a,b,c,e]):=by
  have hl:∀ k:Str,(k="row" ∨ k="column" ∨ k="wrap")→whatS k w n=true→∃ a b c,w=.tup [a,b,c]:=fun k hk h=>by
    have e:whatS k w n=w.linedW n:=if_pos (by rcases hk with rfl | rfl | rfl <;> decide +kernel)
    rw [e] at h
    unfold D.linedW at h
    by_cases q:w.tupOf 3=true
    · exact tup3 q
    · rw [three_no q,Bool.and_false] at h
      cases h
  rcases hk with rfl | hk
  · refine .inl ⟨rfl,?_⟩
    have e:whatS "leaf" w n=w.leafW n:=(if_neg (by decide +kernel)).trans (if_pos (by decide +kernel))
    rw [e] at h
    unfold D.leafW at h
    by_cases q:w.tupOf 2=true
    · exact tup2 q
    · rw [pair2_no q,Bool.and_false] at h
      cases h
  · rcases hk with rfl | rfl | rfl | rfl
    · exact .inr (.inl ⟨.inl rfl,hl _ (.inl rfl) h⟩)
    · exact .inr (.inl ⟨.inr (.inl rfl),hl _ (.inr (.inl rfl)) h⟩)
    · exact .inr (.inl ⟨.inr (.inr rfl),hl _ (.inr (.inr rfl)) h⟩)
    · refine .inr (.inr ⟨rfl,?_⟩)
      unfold whatS at h
      rw [if_neg (by decide +kernel),if_neg (by decide +kernel),Bool.and_eq_true] at h
      have h:=h.2
      unfold D.tableW at h
      by_cases q:w.tupOf 4=true
      · exact tup4 q
      · rw [four_no q,Bool.and_false] at h
        cases h
theorem what_mid {k:Str} {l:List D} {n m:Int} (hk:KdOk k) (h:whatS k (.tup l) n=true):2 ≤ l.length∧l.length ≤ 4∧whatS k (.tup (l.take 1 ++ [.str "mid3"] ++ l.drop 2)) m=false:=by
  rcases what_len hk h with ⟨rfl,a,b,e⟩ | ⟨hk3,a,b,c,e⟩ | ⟨rfl,a,b,c,f,e⟩
  · injection e with e
    subst e
    refine ⟨by show 2 ≤ 2; decide,by show 2 ≤ 4; decide,?_⟩
    rw [show whatS "leaf" (.tup ([a,b].take 1 ++ [.str "mid3"] ++ [a,b].drop 2)) m=(D.tup [a,.str "mid3"]).leafW m from (if_neg (by decide +kernel)).trans (if_pos (by decide +kernel))]
    show (_ && (a.size && (D.str "mid3").size))=false
    rw [show (D.str "mid3").size=false from rfl,Bool.and_false,Bool.and_false]
  · injection e with e
    subst e
    refine ⟨by show 2 ≤ 3; decide,by show 3 ≤ 4; decide,?_⟩
    have e1:whatS k (.tup ([a,b,c].take 1 ++ [.str "mid3"] ++ [a,b,c].drop 2)) m=(D.tup [a,.str "mid3",c]).linedW m:=if_pos (by rcases hk3 with rfl | rfl | rfl <;> decide +kernel)
    rw [e1]
    show (_ && (a.gap && ((D.str "mid3").oneOf wAligns && c.oneOf wSides)))=false
    rw [show (D.str "mid3").oneOf wAligns=false by decide +kernel,Bool.false_and,Bool.and_false,Bool.and_false]
  · injection e with e
    subst e
    refine ⟨by show 2 ≤ 4; decide,by show 4 ≤ 4; decide,?_⟩
    have e1:whatS "table" (.tup ([a,b,c,f].take 1 ++ [.str "mid3"] ++ [a,b,c,f].drop 2)) m=(decide (V.str "table"=V.str "table") && (D.tup [a,.str "mid3",c,f]).tableW m):=(if_neg (by decide +kernel)).trans (if_neg (by decide +kernel))
    rw [e1]
    have e2:(D.tup [a,.str "mid3",c,f]).tableW m=(decide (m ≤ 40) && ((a.between 1 12 && ((D.str "mid3").gap && c.oneOf wSides)) && (f.tupOf m && f.all fun s=>s.span a.num))):=rfl
    rw [e2,show (D.str "mid3").gap=false from rfl,Bool.false_and,Bool.and_false,Bool.false_and,Bool.and_false,Bool.and_false]
theorem what_neg {k:Str} {l:List D} {n m z:Int} (hk:KdOk k) (h:whatS k (.tup l) n=true) (hz:z < 0):whatS k (.tup ([.int z] ++ l.drop 1)) m=false:=by
  have bz:∀ a b:Int,0 ≤ a→(D.int z).between a b=false:=fun a b ha=>by
    show (decide (a ≤ z) && decide (z ≤ b))=false
    rw [decide_eq_false (show ¬ a ≤ z by omega),Bool.false_and]
  rcases what_len hk h with ⟨rfl,a,b,e⟩ | ⟨hk3,a,b,c,e⟩ | ⟨rfl,a,b,c,f,e⟩
  · injection e with e
    subst e
    rw [show whatS "leaf" (.tup ([.int z] ++ [a,b].drop 1)) m=(D.tup [.int z,b]).leafW m from (if_neg (by decide +kernel)).trans (if_pos (by decide +kernel))]
    show (_ && ((D.int z).size && b.size))=false
    rw [show (D.int z).size=false from bz _ _ (by decide),Bool.false_and,Bool.and_false]
  · injection e with e
    subst e
    have e1:whatS k (.tup ([.int z] ++ [a,b,c].drop 1)) m=(D.tup [.int z,b,c]).linedW m:=if_pos (by rcases hk3 with rfl | rfl | rfl <;> decide +kernel)
    rw [e1]
    show (_ && ((D.int z).gap && (b.oneOf wAligns && c.oneOf wSides)))=false
    rw [show (D.int z).gap=false from bz _ _ (by decide),Bool.false_and,Bool.and_false]
  · injection e with e
    subst e
    have e1:whatS "table" (.tup ([.int z] ++ [a,b,c,f].drop 1)) m=(decide (V.str "table"=V.str "table") && (D.tup [.int z,b,c,f]).tableW m):=(if_neg (by decide +kernel)).trans (if_neg (by decide +kernel))
    rw [e1]
    have e2:(D.tup [.int z,b,c,f]).tableW m=(decide (m ≤ 40) && (((D.int z).between 1 12 && (b.gap && c.oneOf wSides)) && (f.tupOf m && f.all fun s=>s.span z))):=rfl
    rw [e2,bz _ _ (by decide),Bool.false_and,Bool.false_and,Bool.and_false,Bool.and_false]
def badsN (nm fs:Str):List D:=[.str "",.str ("A" ++ L2.cutS nm (some 1) none),.str "abcdefghi",.int 5,.non,.str fs]
theorem cap_no (s:Str):(D.str ("A" ++ s)).name=false:=by
  show ((decide ((1:Int) ≤ (("A" ++ s:Str).length:Int)) && decide ((("A" ++ s:Str).length:Int) ≤ 8)) && ("A" ++ s:Str).cps.toList.all sgn)=false
  have e:("A" ++ s:Str).cps.toList=65 :: s.cps.toList:=by
    show (("A":Str).cps ++ s.cps).toList=_
    rw [Array.toList_append]
    rfl
  rw [e,List.all_cons,show sgn 65=false by decide +kernel,Bool.false_and,Bool.and_false]
theorem badsN_is {nm fs:Str} (hn:nm.length ≤ 99):∀ d ∈ badsN nm fs,d=.str fs ∨ (d.name=false∧((∃ s:Str,d=.str s∧s.length ≤ 100) ∨ d=.non ∨ ∃ i,d=.int i)):=by
  have hc:=cutS_le nm (some 1) none
  unfold badsN
  simp only [List.mem_cons,List.not_mem_nil,or_false]
  rintro d (rfl | rfl | rfl | rfl | rfl | rfl)
  · exact .inr ⟨by decide +kernel,.inl ⟨_,rfl,by decide +kernel⟩⟩
  · refine .inr ⟨cap_no _,.inl ⟨_,rfl,?_⟩⟩
    rw [Str.length_append]
    show 1 + _ ≤ 100
    omega
  · exact .inr ⟨by decide +kernel,.inl ⟨_,rfl,by decide +kernel⟩⟩
  · exact .inr ⟨rfl,.inr (.inr ⟨5,rfl⟩)⟩
  · exact .inr ⟨rfl,.inr (.inl rfl)⟩
  · exact .inl rfl
def badsK:List D:=[.str "Leaf",.str "box",.str "",.non,.int 3,.oth]
theorem badsK_no:∀ k ∈ badsK,k.kAsk=true∧∀ w n,whatK k w n=false:=by
  have hs:∀ s:Str,inV (.str s) wLined=false→decide (V.str s=V.str "leaf")=false→decide (V.str s=V.str "table")=false→∀ w n,whatK (.str s) w n=false:=fun s h1 h2 h3 w n=>by
    show whatS s w n=false
    unfold whatS
    rw [if_neg (by rw [h1]; decide),if_neg (by rw [h2]; decide),h3,Bool.false_and]
  unfold badsK
  simp only [List.mem_cons,List.not_mem_nil,or_false]
  rintro k (rfl | rfl | rfl | rfl | rfl | rfl)
  · exact ⟨by decide +kernel,hs _ (by decide +kernel) (by decide +kernel) (by decide +kernel)⟩
  · exact ⟨by decide +kernel,hs _ (by decide +kernel) (by decide +kernel) (by decide +kernel)⟩
  · exact ⟨by decide +kernel,hs _ (by decide +kernel) (by decide +kernel) (by decide +kernel)⟩
  · exact ⟨rfl,fun _ _=>rfl⟩
  · exact ⟨rfl,fun _ _=>rfl⟩
  · exact ⟨rfl,fun _ _=>rfl⟩
theorem Ats.five {K:PySem.W.Frag} {H:Hp} {xs:List V} {a b c d e:D} (h:Ats K H xs [a,b,c,d,e]):∃ x0 x1 x2 x3 x4,xs=[x0,x1,x2,x3,x4]∧At K H x0 a∧At K H x1 b∧At K H x2 c∧At K H x3 d∧At K H x4 e:=by
  match xs,h with
  | [x0,x1,x2,x3,x4],h=>exact ⟨x0,x1,x2,x3,x4,rfl,h.2 0 _ _ rfl rfl,h.2 1 _ _ rfl rfl,h.2 2 _ _ rfl rfl,h.2 3 _ _ rfl rfl,h.2 4 _ _ rfl rfl⟩
def StrE (K:PySem.W.Frag) (σ:St) (H0:Hp) (te:TE) (x:Str):Prop:=∀ (H:Hp) (Q:VK),Same H0 H→Q (.str x) H→te σ H Q
theorem ev_strE {K:PySem.W.Frag} {σ:St} {H0:Hp} {te:TE} {x:Str} (h:StrE K σ H0 te x) (hx:x.length ≤ 100000):Ev K σ H0 te (.str x):=fun H Q s k=>h H _ s (k _ H (Same.refl _) (.str x (smallE hx)))
section
variable {P:Program} {w:World} {K:PySem.W.Frag} {mg:Str→Option Value} {base:Heap} {tk:Nat→Tok} {ad:Nat→Addr}
abbrev nLBent:List Str:=["_law_box","_law_cell","_law_first","_law_kind","_law_name","_law_own_here","_law_what","_law_parts","_law_way","_law_bad"]
theorem scLBent:FnScope nLBent ["_law_box","_law_cell","_law_first"] (defScope sLawBent):=⟨rfl,rfl,rfl,by decide +kernel,rfl,by decide +kernel,by decide +kernel⟩
set_option maxHeartbeats 16000000 in
theorem ok_lBent {f f1:Addr} {fd d1:FuncData} (F:Fun K "_law_bent" "_law_bent" sLawBent f fd) (N:Names mg)
    (G1:FnOk P w K mg base CX0 1 f1 d1 ["_law_own_here","_law_cell"] (spBentOwn K)) (b1:Binds K d1 ["_law_own_here","_law_cell"] []) (m1:mg "_law_bent_own"=some (.ref f1)) (k1:PySem.W.keepIn K (.ref f1)=true):FnOk P w K mg base CX0 2 f fd ["_law_box","_law_cell","_law_first"] (spBentD K):=by
  refine F.okO scLBent (fun vs H Q E h=>?_) (fun cdv A outer s H vs Q E hr h=>?_)
  · obtain ⟨v,b,c,fs,e,_⟩:=h
    rw [e]
    rfl
  · obtain ⟨v,b,c,fs,e,hv,hok,hhg,hfs,hfl,k⟩:=h
    subst e
    have hr1:=hr.mono (j:=1) (by decide)
    refine ⟨_,pss_consO (ps_asgO (pvO 0) (pg_tup rfl (pgs_cons (pg_name (i:=3) scLBent.nd rfl (Or.inl rfl)) (pgs_cons (pg_name (i:=4) scLBent.nd rfl (Or.inl rfl)) (pgs_cons (pg_name (i:=5) scLBent.nd rfl (Or.inl rfl)) (pgs_cons (pg_name (i:=6) scLBent.nd rfl (Or.inl rfl)) (pgs_cons (pg_name (i:=7) scLBent.nd rfl (Or.inl rfl)) pgs_nil)))))))
      (pss_consO (ps_setO (i:=8) scLBent.nd rfl (Or.inl rfl) (pe_opO op_mod (pvO 1) pe_intO))
      (pss_consO (ps_setO (i:=1) scLBent.nd rfl (Or.inl rfl) (pe_opO op_fdiv (pvO 1) pe_intO))
      (pss_consO (ps_ifO (pt_cmpRO op_eq (pvO 8) pe_intO (nomark _)) (pss_consO (ps_setO (i:=9) scLBent.nd rfl (Or.inl rfl) (pe_ixO ix_list (pe_lstO (pa_consO pe_strO (pa_consO (pe_opO op_add_str pe_strO (pe_sliceO sl_strX (pvO 4) (po_someO pe_intO) po_noneO)) (pa_consO pe_strO (pa_consO pe_intO (pa_consO pe_nonO (pa_consO (pvO 2) pa_nilO))))))) (pe_opO op_mod (pvO 1) pe_intO) (fun _ _=>rfl)))
        (pss_consO (ps_ifO (pt_cmpRO op_eq (pvO 9) (pvO 4) (nomark _)) (pss_oneO (ps_setO (i:=9) scLBent.nd rfl (Or.inl rfl) pe_strO)) pss_nilO)
        (pss_oneO (ps_retO (pe_tupO (pa_consO (pvO 3) (pa_consO (pvO 9) (pa_consO (pvO 5) (pa_consO (pvO 6) (pa_consO (pvO 7) pa_nilO)))))))))) pss_nilO)
      (pss_consO (ps_ifO (pt_cmpRO op_eq (pvO 8) pe_intO (nomark _)) (pss_oneO (ps_retO (pe_tupO (pa_consO (pvO 3) (pa_consO (pvO 4) (pa_consO (pe_callO G1 hr1 (by rfl) m1 k1 b1 .nil pass0 (pa_consO (pvO 5) (pa_consO (pvO 1) pa_nilO))) (pa_consO (pvO 6) (pa_consO (pvO 7) pa_nilO)))))))) pss_nilO)
      (pss_consO (ps_ifO (pt_cmpRO op_eq (pvO 8) pe_intO (nomark _)) (pss_oneO (ps_retO (pe_tupO (pa_consO (pvO 3) (pa_consO (pvO 4) (pa_consO (pe_ixO ix_list (pe_lstO (pa_consO (pe_sliceO sl_tup (pvO 5) po_noneO (po_someO pe_intO)) (pa_consO (pe_callTyO call_list_of (by rfl) N.list PyProof.Rows.boot_list (pa_consO (pvO 5) pa_nilO)) (pa_consO (pe_opO op_catA (pvO 5) (pe_tupO (pa_consO pe_intO pa_nilO))) (pa_consO pe_nonO pa_nilO))))) (pe_opO op_mod (pvO 1) pe_intO) (fun _ _=>rfl)) (pa_consO (pvO 6) (pa_consO (pvO 7) pa_nilO)))))))) pss_nilO)
      (pss_consO (ps_ifO (pt_cmpRO op_eq (pvO 8) pe_intO (nomark _)) (pss_oneO (ps_retO (pe_tupO (pa_consO (pvO 3) (pa_consO (pvO 4) (pa_consO (pvO 5) (pa_consO (pe_ixO ix_list (pe_lstO (pa_consO (pe_sliceO sl_tup (pvO 6) po_noneO (po_someO pe_intO)) (pa_consO (pe_callTyO call_list_of (by rfl) N.list PyProof.Rows.boot_list (pa_consO (pvO 6) pa_nilO)) (pa_consO pe_nonO (pa_consO (pe_tupO pa_nilO) pa_nilO))))) (pe_opO op_mod (pvO 1) pe_intO) (fun _ _=>rfl)) (pa_consO (pvO 7) pa_nilO)))))))) pss_nilO)
      (pss_consO (ps_ifO (pt_cmpRO op_eq (pvO 8) pe_intO (nomark _)) (pss_oneO (ps_retO (pe_tupO (pa_consO (pvO 3) (pa_consO (pvO 4) (pa_consO (pvO 5) (pa_consO (pe_opO op_catA (pe_opO op_catA (pe_sliceO sl_tup (pvO 6) po_noneO (po_someO pe_intO)) (pe_tupO (pa_consO pe_strO pa_nilO))) (pe_sliceO sl_tup (pvO 6) (po_someO pe_intO) po_noneO)) (pa_consO (pvO 7) pa_nilO)))))))) pss_nilO)
      (pss_consO (ps_ifO (pt_cmpRO op_eq (pvO 8) pe_intO (nomark _)) (pss_oneO (ps_retO (pe_tupO (pa_consO (pvO 3) (pa_consO (pvO 4) (pa_consO (pvO 5) (pa_consO (pe_opO op_catA (pe_tupO (pa_consO (pe_opO op_sub (pe_unO un_neg pe_intO) (pe_opO op_mod (pvO 1) (pe_opO op_pow pe_intO pe_intO))) pa_nilO)) (pe_sliceO sl_tup (pvO 6) (po_someO pe_intO) po_noneO)) (pa_consO (pvO 7) pa_nilO)))))))) pss_nilO)
      (pss_consO (ps_ifO (pt_cmpRO op_eq (pvO 8) pe_intO (nomark _)) (pss_oneO (ps_retO (pe_tupO (pa_consO (pe_ixO ix_list (pe_lstO (pa_consO pe_strO (pa_consO pe_strO (pa_consO pe_strO (pa_consO pe_nonO (pa_consO pe_intO (pa_consO (pe_lstO (pa_consO pe_strO pa_nilO)) pa_nilO))))))) (pe_opO op_mod (pvO 1) pe_intO) (fun _ _=>rfl)) (pa_consO (pvO 4) (pa_consO (pvO 5) (pa_consO (pvO 6) (pa_consO (pvO 7) pa_nilO)))))))) pss_nilO)
      (pss_oneO (ps_retO (pe_tupO (pa_consO (pvO 3) (pa_consO (pvO 4) (pa_consO (pvO 5) (pa_consO (pvO 6) (pa_consO (pe_ixO ix_list (pe_lstO (pa_consO (pe_callTyO call_list_of (by rfl) N.list PyProof.Rows.boot_list (pa_consO (pvO 7) pa_nilO)) (pa_consO pe_nonO (pa_consO pe_intO (pa_consO pe_strO pa_nilO))))) (pe_opO op_mod (pvO 1) pe_intO) (fun _ _=>rfl)) pa_nilO))))))))))))))))),?_⟩
    try rw [show (cxOf CX0 P w K mg base nLBent "_law_bent" (defScope sLawBent) f cdv A outer s H E).nox.K=K from rfl]
    obtain ⟨kd,nm,ow,wh,ps⟩:=b
    have hok0:=hok
    rw [Bx.Ok] at hok
    obtain ⟨⟨hkd,hnm,hnl,hO,hW,htab⟩,hnoal,hoks⟩:=hok
    have hv0:=hv
    rw [Bx.toD] at hv0
    obtain ⟨oa,ob,oc,oe,of,og,eow,eog⟩:=alike_own hO
    subst eow
    obtain ⟨l,rfl⟩:∃ l,wh=.tup l:=by
      rcases what_len hkd hW with ⟨_,a,b,e⟩ | ⟨_,a,b,c,e⟩ | ⟨_,a,b,c,f,e⟩ <;> exact ⟨_,e⟩
    obtain ⟨t,xs,rfl,ht,hA⟩:=hv0.tupS
    obtain ⟨x0,x1,x2,x3,x4,rfl,a0,a1,a2,a3,a4⟩:=hA.five
    have hka:=kd_ask hkd
    have fin0:∀ (k' o' w' p':D) (v':V) (H':Hp),k'.kAsk=true→(D.tup [k',.str nm,o',w',p']).box=false→Same H H'→At K H' v' (.tup [k',.str nm,o',w',p'])→Q v' H':=fun k' o' w' p' v' H' hk hb s' h'=>k k' (.str nm) o' w' p' v' H' s' h' ⟨good_no hk hb,(fun z=>by rw [hb] at z; cases z),.inl rfl⟩
    refine seq_abs fun N1 hN=>?_
    refine ⟨_,rfl,t,_,rfl,SqT.of ht,rfl,_,_,rfl,_,_,rfl,_,_,rfl,_,_,rfl,_,_,rfl,rfl,?_⟩
    refine hN _ _ ?_
    clear hN N1
    refine seq_abs fun N1 hN=>?_
    refine ⟨_,rfl,_,_,rfl,rfl,(by show (0:Int) < 8; decide),?_⟩
    refine hN _ _ ?_
    clear hN N1
    refine seq_abs fun N1 hN=>?_
    refine ⟨_,rfl,_,_,rfl,rfl,⟨by decide,by decide⟩,?_⟩
    refine hN _ _ ?_
    clear hN N1
    dsimp only
    generalize c % 8=way
    generalize c / 8=c1
    clear hA
    -- 0
    refine seq_abs fun N1 hN=>?_
    refine ⟨_,rfl,rfl,_,rfl,ite2 (fun _=>?_) (fun _=>?_)⟩
    · have ht2:(L2.cutS nm (some 1) none).length ≤ 100:=Nat.le_trans (cutS_le _ _ _) hnl
      have hj:(c1 % 6).toNat < (badsN nm fs).length:=by show _ < 6; omega
      cases a1
      refine seq_abs fun N2 hN2=>?_
      refine Ev.set (K:=K) (H:=H) (d:=(badsN nm fs).getD (c1 % 6).toNat .non) (evs_ix (l:=badsN nm fs) (n:=c1 % 6) (j:=(c1 % 6).toNat) (evs_lst ?_ (by show 6 ≤ 100000; decide)) (fun H' Q' s' q=>⟨_,rfl,_,_,rfl,rfl,(by show (0:Int) < 6; decide),q⟩) (by omega) (getD_at hj)) fun v9 H1 s1 hv9=>?_
      · refine evl_cons (ev_str (by decide +kernel)) (evl_cons (ev_strE (fun H' Q' s' q=>⟨_,rfl,_,rfl,nm,rfl,smallE (by omega),_,_,rfl,rfl,smallE (by show 1 + _ ≤ 100000; omega),q⟩) ?_) (evl_cons (ev_str (by decide +kernel)) (evl_cons ev_int (evl_cons ev_non (evl_cons (ev_var rfl (.str fs (smallE (by omega)))) evl_nil)))))
        rw [Str.length_append]
        show 1 + _ ≤ 100000
        omega
      have hin:=badsN_is (nm:=nm) (fs:=fs) (by
        have h8:nm.length ≤ 8:=by
          have z:((decide ((1:Int) ≤ (nm.length:Int)) && decide ((nm.length:Int) ≤ 8)) && nm.cps.toList.all sgn)=true:=hnm
          simp only [Bool.and_eq_true,decide_eq_true_eq] at z
          omega
        omega) _ (getD_mem hj)
      generalize (badsN nm fs).getD (c1 % 6).toNat .non=n0 at *
      refine hN2 _ _ ?_
      clear hN2 N2
      refine seq_abs fun N2 hN2=>?_
      have fin1:∀ (v9:V) (n':D),At K H1 v9 n'→(n'=.str fs∧fs ≠ nm) ∨ (n'.name=false∧((∃ s:Str,n'=.str s∧s.length ≤ 100) ∨ n'=.non ∨ ∃ i,n'=.int i))→N2 [some (.ref t),some (.int c1),some (.str fs),some x0,some (.str nm),some x2,some x3,some x4,some (.int way),some v9] H1:=fun v9 n' hv9 hn=>hN2 _ _ (by
        refine Ev.ret (H:=H1) (d:=.tup [.str kd,n',.tup [oa,ob,oc,oe,of,.int og],.tup l,.tup (toDs ps)]) (ev_tup (evl_cons (ev_var rfl (a0.same s1)) (evl_cons (ev_var rfl hv9) (evl_cons (ev_var rfl (a2.same s1)) (evl_cons (ev_var rfl (a3.same s1)) (evl_cons (ev_var rfl (a4.same s1)) evl_nil))))) (by show 5 ≤ 100000; decide)) fun v' H' s' h'=>k _ _ _ _ _ v' H' (Same.trans s1 s') h' ?_
        rcases hn with ⟨rfl,hne⟩ | ⟨hn,hf⟩
        · refine ⟨fun h h6=>?_,fun _=>⟨rfl,hne⟩,.inr (.inr ⟨rfl,hne⟩)⟩
          have hb:(Bx.mk kd fs (.tup [oa,ob,oc,oe,of,.int og]) (.tup l) ps).Ok:=by
            rw [Bx.Ok]
            exact ⟨⟨hkd,hfs,hfl,hO,hW,htab⟩,hnoal,hoks⟩
          have hg:=good_ok _ h hb (by rw [Bx.hgt] at hhg ⊢; omega)
          rw [Bx.toD] at hg
          exact hg
        · have hb:=box_n (k:=.str kd) (o:=.tup [oa,ob,oc,oe,of,.int og]) (w:=.tup l) (p:=.tup (toDs ps)) hn
          exact ⟨good_no hka hb,(fun z=>by rw [hb] at z; cases z),.inr (.inl ⟨hn,hf⟩)⟩)
      clear hN2
      have flat:∃ x:V,v9=x∧scal x (.str nm)=true∧(x=.str nm→n0=.str nm):=by
        rcases hin with rfl | ⟨_,⟨s,rfl,_⟩ | rfl | ⟨i,rfl⟩⟩
        · cases hv9; exact ⟨_,rfl,rfl,fun e=>by injection e with e; rw [e]⟩
        · cases hv9; exact ⟨_,rfl,rfl,fun e=>by injection e with e; rw [e]⟩
        · cases hv9; exact ⟨_,rfl,rfl,fun e=>nomatch e⟩
        · cases hv9; exact ⟨_,rfl,rfl,fun e=>nomatch e⟩
      obtain ⟨x,rfl,hsc,hxe⟩:=flat
      refine ⟨_,rfl,_,rfl,hsc,_,rfl,ite2 (fun he=>?_) (fun he=>?_)⟩
      · exact fin1 (.str "x_") (.str "x_") (.str _ (smallE (by decide +kernel))) (.inr ⟨by decide +kernel,.inl ⟨_,rfl,by decide +kernel⟩⟩)
      · refine fin1 v9 n0 hv9 ?_
        rcases hin with rfl | z
        · refine .inl ⟨rfl,fun e=>he (decide_eq_true ?_)⟩
          cases hv9
          rw [e]
        · exact .inr z
    refine hN _ _ ?_
    clear hN N1
    -- 1
    refine seq_abs fun N1 hN=>?_
    refine ⟨_,rfl,rfl,_,rfl,ite2 (fun _=>?_) (fun _=>?_)⟩
    · refine ⟨_,rfl,_,rfl,_,rfl,_,rfl,x2,_,_,_,_,_,_,_,rfl,a2,fun d v2 G g hv2 hno=>?_⟩
      refine ⟨_,rfl,_,rfl,(by show 5 ≤ sizeLine; decide),fun p hp=>?_⟩
      have s2:Same G (upd G p (.tup [x0,x1,v2,x3,x4])):=Same.put (Same.refl _) hp
      have s3:=Same.trans g s2
      exact fin0 (.str kd) d (.tup l) (.tup (toDs ps)) (.ref p) _ hka (box_o hno) s3 (Ats.tup (((((Ats.nil.snoc (a0.same s3)).snoc (a1.same s3)).snoc (hv2.same s2)).snoc (a3.same s3)).snoc (a4.same s3)) upd_same)
    refine hN _ _ ?_
    clear hN N1
    -- 2
    refine seq_abs fun N1 hN=>?_
    refine ⟨_,rfl,rfl,_,rfl,ite2 (fun _=>?_) (fun _=>?_)⟩
    · have hj:(c1 % 4).toNat < ([.tup ([oa,ob,oc,oe,of,.int og].take 5),.oth,.tup ([oa,ob,oc,oe,of,.int og] ++ [.int 0]),.non]:List D).length:=by show _ < 4; omega
      have hx:∀ x ∈ ([.tup ([oa,ob,oc,oe,of,.int og].take 5),.oth,.tup ([oa,ob,oc,oe,of,.int og] ++ [.int 0]),.non]:List D),x.own=false:=by
        simp only [List.mem_cons,List.not_mem_nil,or_false]
        rintro x (rfl | rfl | rfl | rfl) <;> rfl
      refine Ev.ret (H:=H) (d:=.tup [.str kd,.str nm,([.tup ([oa,ob,oc,oe,of,.int og].take 5),.oth,.tup ([oa,ob,oc,oe,of,.int og] ++ [.int 0]),.non]:List D).getD (c1 % 4).toNat .non,.tup l,.tup (toDs ps)]) (ev_tup (evl_cons (ev_var rfl a0) (evl_cons (ev_var rfl a1) (evl_cons (evs_ix (n:=c1 % 4) (j:=(c1 % 4).toNat) (evs_lst (evl_cons (ev_till (l:=[oa,ob,oc,oe,of,.int og]) (j:=5) (ev_var rfl a2) nume_c (by show 5 < 6; decide)) (evl_cons (ev_lst (evs_list (ev_var rfl a2))) (evl_cons (ev_cat (ds:=[oa,ob,oc,oe,of,.int og]) (es:=[.int 0]) (ev_var rfl a2) (ev_tup (evl_cons ev_int evl_nil) (by show 1 ≤ 100000; decide)) (by show 6 + 1 ≤ 100000; decide)) (evl_cons ev_non evl_nil)))) (by show 4 ≤ 100000; decide)) (fun H' Q' s' q=>⟨_,rfl,_,_,rfl,rfl,(by show (0:Int) < 4; decide),q⟩) (by omega) (getD_at hj)) (evl_cons (ev_var rfl a3) (evl_cons (ev_var rfl a4) evl_nil))))) (by show 5 ≤ 100000; decide)) fun v' H' s' h'=>fin0 _ _ _ _ v' H' hka (box_o (hx _ (getD_mem hj))) s' h'
    refine hN _ _ ?_
    clear hN N1
    obtain ⟨hl2,hl4,hmid⟩:=what_mid (m:=((toDs ps).length:Int)) hkd hW
    -- 3
    refine seq_abs fun N1 hN=>?_
    refine ⟨_,rfl,rfl,_,rfl,ite2 (fun _=>?_) (fun _=>?_)⟩
    · have hj:(c1 % 4).toNat < ([.tup (l.take 1),.oth,.non,.tup []]:List D).length:=by show _ < 4; omega
      have hx:∀ x ∈ ([.tup (l.take 1),.oth,.non,.tup []]:List D),partsW (.str kd) x (.tup (toDs ps))=false:=by
        have l1:(l.take 1).length=1:=by rw [List.length_take]; omega
        simp only [List.mem_cons,List.not_mem_nil,or_false]
        rintro x (rfl | rfl | rfl | rfl)
        · exact whatS_no (tupOf_f (by rw [l1]; decide)) (tupOf_f (by rw [l1]; decide)) (tupOf_f (by rw [l1]; decide))
        · exact whatS_no (tupOf_2 (by intro l z; cases z) _) (tupOf_2 (by intro l z; cases z) _) (tupOf_2 (by intro l z; cases z) _)
        · exact whatS_no (tupOf_2 (by intro l z; cases z) _) (tupOf_2 (by intro l z; cases z) _) (tupOf_2 (by intro l z; cases z) _)
        · exact whatS_no (tupOf_f (by decide)) (tupOf_f (by decide)) (tupOf_f (by decide))
      refine Ev.ret (H:=H) (d:=.tup [.str kd,.str nm,.tup [oa,ob,oc,oe,of,.int og],([.tup (l.take 1),.oth,.non,.tup []]:List D).getD (c1 % 4).toNat .non,.tup (toDs ps)]) (ev_tup (evl_cons (ev_var rfl a0) (evl_cons (ev_var rfl a1) (evl_cons (ev_var rfl a2) (evl_cons (evs_ix (n:=c1 % 4) (j:=(c1 % 4).toNat) (evs_lst (evl_cons (ev_till (l:=l) (j:=1) (ev_var rfl a3) nume_c (by omega)) (evl_cons (ev_lst (evs_list (ev_var rfl a3))) (evl_cons ev_non (evl_cons (ev_tup evl_nil (by show 0 ≤ 100000; decide)) evl_nil)))) (by show 4 ≤ 100000; decide)) (fun H' Q' s' q=>⟨_,rfl,_,_,rfl,rfl,(by show (0:Int) < 4; decide),q⟩) (by omega) (getD_at hj)) (evl_cons (ev_var rfl a4) evl_nil))))) (by show 5 ≤ 100000; decide)) fun v' H' s' h'=>fin0 _ _ _ _ v' H' hka (box_p (hx _ (getD_mem hj))) s' h'
    refine hN _ _ ?_
    clear hN N1
    -- 4
    refine seq_abs fun N1 hN=>?_
    refine ⟨_,rfl,rfl,_,rfl,ite2 (fun _=>?_) (fun _=>?_)⟩
    · refine Ev.ret (H:=H) (d:=.tup [.str kd,.str nm,.tup [oa,ob,oc,oe,of,.int og],.tup (l.take 1 ++ [.str "mid3"] ++ l.drop 2),.tup (toDs ps)]) (ev_tup (evl_cons (ev_var rfl a0) (evl_cons (ev_var rfl a1) (evl_cons (ev_var rfl a2) (evl_cons (ev_cat (ev_cat (ev_till (l:=l) (j:=1) (ev_var rfl a3) nume_c (by omega)) (ev_tup (evl_cons (ev_str (by decide +kernel)) evl_nil) (by show 1 ≤ 100000; decide)) (by rw [List.length_take]; show min 1 l.length + 1 ≤ 100000; omega)) (ev_from (l:=l) (j:=2) (ev_var rfl a3) nume_c (by decide) (by omega)) (by rw [List.length_append,List.length_take,List.length_drop]; show min 1 l.length + 1 + (l.length - 2) ≤ 100000; omega)) (evl_cons (ev_var rfl a4) evl_nil))))) (by show 5 ≤ 100000; decide)) fun v' H' s' h'=>fin0 _ _ _ _ v' H' hka (box_pw (k:=.str kd) hmid) s' h'
    refine hN _ _ ?_
    clear hN N1
    -- 5
    refine seq_abs fun N1 hN=>?_
    refine ⟨_,rfl,rfl,_,rfl,ite2 (fun _=>?_) (fun _=>?_)⟩
    · have hz:-1 - c1 % 10 ^ (9:Int).toNat < 0:=by
        have:=Int.emod_nonneg c1 (show (10:Int) ^ (9:Int).toNat ≠ 0 by decide)
        omega
      refine Ev.ret (H:=H) (d:=.tup [.str kd,.str nm,.tup [oa,ob,oc,oe,of,.int og],.tup ([.int (-1 - c1 % 10 ^ (9:Int).toNat)] ++ l.drop 1),.tup (toDs ps)]) (ev_tup (evl_cons (ev_var rfl a0) (evl_cons (ev_var rfl a1) (evl_cons (ev_var rfl a2) (evl_cons (ev_cat (ev_tup (evl_cons (ev_num (nume_sub (by first | exact nume_c | exact nume_neg nume_c) (fun H' Q' s' q=>⟨_,rfl,_,_,rfl,rfl,⟨by decide,by decide,by decide⟩,_,_,rfl,rfl,(by show (0:Int) < 10 ^ (9:Int).toNat; decide),q⟩))) evl_nil) (by show 1 ≤ 100000; decide)) (ev_from (l:=l) (j:=1) (ev_var rfl a3) nume_c (by decide) (by omega)) (by rw [List.length_drop]; show 1 + (l.length - 1) ≤ 100000; omega)) (evl_cons (ev_var rfl a4) evl_nil))))) (by show 5 ≤ 100000; decide)) fun v' H' s' h'=>fin0 _ _ _ _ v' H' hka (box_pw (k:=.str kd) (what_neg hkd hW hz)) s' h'
    refine hN _ _ ?_
    clear hN N1
    -- 6
    refine seq_abs fun N1 hN=>?_
    refine ⟨_,rfl,rfl,_,rfl,ite2 (fun _=>?_) (fun _=>?_)⟩
    · have hj:(c1 % 6).toNat < badsK.length:=by show _ < 6; omega
      obtain ⟨hx1,hx2⟩:=badsK_no _ (getD_mem hj)
      refine Ev.ret (H:=H) (d:=.tup [badsK.getD (c1 % 6).toNat .non,.str nm,.tup [oa,ob,oc,oe,of,.int og],.tup l,.tup (toDs ps)]) (ev_tup (evl_cons (evs_ix (l:=badsK) (n:=c1 % 6) (j:=(c1 % 6).toNat) (evs_lst (evl_cons (ev_str (by decide +kernel)) (evl_cons (ev_str (by decide +kernel)) (evl_cons (ev_str (by decide +kernel)) (evl_cons ev_non (evl_cons ev_int (evl_cons (ev_lst (evs_lst (evl_cons (ev_str (by decide +kernel)) evl_nil) (by show 1 ≤ 100000; decide))) evl_nil)))))) (by show 6 ≤ 100000; decide)) (fun H' Q' s' q=>⟨_,rfl,_,_,rfl,rfl,(by show (0:Int) < 6; decide),q⟩) (by omega) (getD_at hj)) (evl_cons (ev_var rfl a1) (evl_cons (ev_var rfl a2) (evl_cons (ev_var rfl a3) (evl_cons (ev_var rfl a4) evl_nil))))) (by show 5 ≤ 100000; decide)) fun v' H' s' h'=>fin0 _ _ _ _ v' H' hx1 (box_pw (hx2 _ _)) s' h'
    refine hN _ _ ?_
    clear hN N1
    -- 7
    have hj:(c1 % 4).toNat < ([.oth,.non,.int 4,.str "ab"]:List D).length:=by show _ < 4; omega
    have hx:∀ x ∈ ([.oth,.non,.int 4,.str "ab"]:List D),partsW (.str kd) (.tup l) x=false:=by
      simp only [List.mem_cons,List.not_mem_nil,or_false]
      rintro x (rfl | rfl | rfl | rfl) <;> rfl
    refine Ev.ret (H:=H) (d:=.tup [.str kd,.str nm,.tup [oa,ob,oc,oe,of,.int og],.tup l,([.oth,.non,.int 4,.str "ab"]:List D).getD (c1 % 4).toNat .non]) (ev_tup (evl_cons (ev_var rfl a0) (evl_cons (ev_var rfl a1) (evl_cons (ev_var rfl a2) (evl_cons (ev_var rfl a3) (evl_cons (evs_ix (n:=c1 % 4) (j:=(c1 % 4).toNat) (evs_lst (evl_cons (ev_lst (evs_list (ev_var rfl a4))) (evl_cons ev_non (evl_cons ev_int (evl_cons (ev_str (by decide +kernel)) evl_nil)))) (by show 4 ≤ 100000; decide)) (fun H' Q' s' q=>⟨_,rfl,_,_,rfl,rfl,(by show (0:Int) < 4; decide),q⟩) (by omega) (getD_at hj)) evl_nil))))) (by show 5 ≤ 100000; decide)) fun v' H' s' h'=>fin0 _ _ _ _ v' H' hka (box_p (hx _ (getD_mem hj))) s' h'
end
end B06
namespace B06
open PySem L2 S2
def spKept (K:PySem.W.Frag) (CT:Addr):Sp:=fun vs H Q _=>∃ (v:V) (d:D),vs=[v]∧GoodF 12 d∧At K H v d∧(∀ (nms':List Str) (H':Hp),lookF 12 d 1 false []=.ok nms'→Same H H'→Q .non H') ∧
  ∀ (r:D) (c dx:Addr) (H':Hp),lookF 12 d 1 false []=.error r→Same H H'→H' c=some (xh CT c (some dx))→H' dx=some (.xd [("name",tellV r)])→Q (.ref c) H'
def spRefused (K:PySem.W.Frag):Sp:=fun vs H Q _=>∃ (v:V) (d r:D),vs=[v,tellV r]∧GoodF 12 d∧At K H v d∧lookF 12 d 1 false []=.error r∧∀ H':Hp,Same H H'→Q (.bl true) H'
theorem tell_scal (r:D):scal (tellV r) (tellV r)=true:=by
  cases r <;> rfl
theorem boot_ve:bootBuiltins "ValueError"=some (.type "ValueError"):=by decide +kernel
def sKeptT:TS:=tAsg (tVar 2) (gName 1)
section
variable {P:Program} {w:World} {K:PySem.W.Frag} {mg:Str→Option Value} {base:Heap} {tk:Nat→Tok} {ad:Nat→Addr}
abbrev nKept:List Str:=["_law_tree_here","_law_kept_here","e"]
theorem scKept:FnScope nKept ["_law_tree_here"] (defScope sLawKept):=⟨rfl,rfl,rfl,by decide +kernel,rfl,by decide +kernel,by decide +kernel⟩
set_option maxHeartbeats 16000000 in
theorem ok_kept {f f4 CB CT:Addr} {fd d4:FuncData} (F:Fun K "_law_kept" "_law_kept" sLawKept f fd) (N:Names mg)
    (G4:FnOk P w K mg base (Fly P w) 21 f4 d4 ["thing"] (spCheck K CT)) (b4:Binds K d4 ["thing"] []) (m4:mg "check_tree"=some (.ref f4)) (k4:PySem.W.keepIn K (.ref f4)=true)
    (mB:mg "BoxError"=some (.ref CB)) (cB:CatC K CB) (t1B:PySem.W.mroIn K CT (.ref CB)=some true):FnOk P w K mg base CX0 22 f fd ["_law_tree_here"] (spKept K CT):=by
  refine F.ok scKept (fun vs H Q E h=>?_) (fun cdv A outer s H vs Q E hr h=>?_)
  · obtain ⟨v,d,e,_⟩:=h
    rw [e]
    rfl
  · obtain ⟨v,d,e,hg,hv,q1,q2⟩:=h
    subst e
    refine ⟨_,pss_cons (ps_set (i:=1) scKept.nd rfl (Or.inl rfl) pe_non)
      (pss_cons (ps_tryC (i:=2) (CT:=CT) (T1:=sKeptT) G4 hr (by rfl) m4 k4 b4 (pa_cons (pv 0) pa_nil) scKept.nd rfl rfl rfl mB cB t1B (fun a=>pss_one (ps_set (i:=1) scKept.nd rfl (Or.inl rfl) (pv 2))) rfl rfl (fun _ _ z=>z))
      (pss_one (ps_ret (pv 1)))),?_⟩
    refine ⟨_,rfl,v,d,rfl,hg,hv,fun nms' H3 e s3=>⟨_,rfl,q1 nms' H3 e s3⟩,fun r dx H3 e s3 hdx=>?_⟩
    intro c hc
    refine ⟨rfl,?_⟩
    have nbd:dx ≠ c:=fun z=>by rw [z,hc] at hdx; cases hdx
    have hb1:(upd H3 c (xh CT c (some dx))) c=some (xh CT c (some dx)):=upd_same
    have hd1:(upd H3 c (xh CT c (some dx))) dx=some (.xd [("name",tellV r)]):=by rw [upd_ne nbd]; exact hdx
    have s4:Same H (upd H3 c (xh CT c (some dx))):=Same.trans s3 (Same.put (Same.refl _) hc)
    generalize upd H3 c (xh CT c (some dx))=H4 at *
    exact ⟨_,rfl,_,rfl,q2 r c dx H4 e s4 hb1 hd1⟩
abbrev nRefused:List Str:=["_law_tree_here","_law_name","_law_kept_here"]
theorem scRefused:FnScope nRefused ["_law_tree_here","_law_name"] (defScope sLawRefused):=⟨rfl,rfl,rfl,by decide +kernel,rfl,by decide +kernel,by decide +kernel⟩
set_option maxHeartbeats 16000000 in
theorem ok_refused {f f4 CT C1 C2 C3 C4 C5 C6 C7 C8 C9 C10 C11 C12 C13 C14:Addr} {fd d4:FuncData} (F:Fun K "_law_refused" "_law_refused" sLawRefused f fd) (N:Names mg) (nve:mg "ValueError"=none)
    (G4:FnOk P w K mg base CX0 22 f4 d4 ["_law_tree_here"] (spKept K CT)) (b4:Binds K d4 ["_law_tree_here"] []) (m4:mg "_law_kept"=some (.ref f4)) (k4:PySem.W.keepIn K (.ref f4)=true)
    (mT:mg "BadBox"=some (.ref CT)) (n1:mg "NoBox"=some (.ref C1)) (n2:mg "NoEdit"=some (.ref C2)) (n3:mg "NoFloor"=some (.ref C3)) (n4:mg "NoName"=some (.ref C4)) (n5:mg "NoNumber"=some (.ref C5)) (n6:mg "NoPages"=some (.ref C6)) (n7:mg "NoRead"=some (.ref C7)) (n8:mg "NoRow"=some (.ref C8)) (n9:mg "NoRows"=some (.ref C9)) (n10:mg "NotTurned"=some (.ref C10)) (n11:mg "NoTree"=some (.ref C11)) (n12:mg "Ring"=some (.ref C12)) (n13:mg "TooGreat"=some (.ref C13)) (n14:mg "TooWide"=some (.ref C14))
    (eT:ExcC K CT) (hdT:PySem.W.hasDictIn K CT=true) (hnm:PySem.W.findIn K (.ref CT) "name"=some none) (ktt:PySem.W.kitOne K (.ref CT) (.ref CT)=some true) (kno:PySem.W.kitAny K (.ref CT) [.ref C1,.ref C2,.ref C3,.ref C4,.ref C5,.ref C6,.ref C7,.ref C8,.ref C9,.ref C10]=some false) (kn2:PySem.W.kitAny K (.ref CT) [.ref C11,.ref C12,.ref C13,.ref C14]=some false) (kve:PySem.W.kitOne K (.ref CT) (.type "ValueError")=some true) :
    FnOk P w K mg base CX0 23 f fd ["_law_tree_here","_law_name"] (spRefused K):=by
  refine F.ok scRefused (fun vs H Q E h=>?_) (fun cdv A outer s H vs Q E hr h=>?_)
  · obtain ⟨v,d,r,e,_⟩:=h
    rw [e]
    rfl
  · obtain ⟨v,d,r,e,hg,hv,hl,q⟩:=h
    subst e
    refine ⟨_,pss_cons (ps_set (i:=2) scRefused.nd rfl (Or.inl rfl) (pe_call G4 hr (by rfl) m4 k4 b4 .nil pass0 (pa_cons (pv 0) pa_nil)))
      (pss_cons (ps_if (pt_val (pe_callB (r:=rInstXs K) call_isinstXs (by rfl) N.inst PyProof.Rows.boot_isinstance (pa_cons (pv 2) (pa_cons (pe_tup (pa_cons (pe_glob (v:=.ref C1) (by rfl) n1 rfl) (pa_cons (pe_glob (v:=.ref C2) (by rfl) n2 rfl) (pa_cons (pe_glob (v:=.ref C3) (by rfl) n3 rfl) (pa_cons (pe_glob (v:=.ref C4) (by rfl) n4 rfl) (pa_cons (pe_glob (v:=.ref C5) (by rfl) n5 rfl) (pa_cons (pe_glob (v:=.ref C6) (by rfl) n6 rfl) (pa_cons (pe_glob (v:=.ref C7) (by rfl) n7 rfl) (pa_cons (pe_glob (v:=.ref C8) (by rfl) n8 rfl) (pa_cons (pe_glob (v:=.ref C9) (by rfl) n9 rfl) (pa_cons (pe_glob (v:=.ref C10) (by rfl) n10 rfl) pa_nil))))))))))) pa_nil)))) (pss_one (ps_ret pe_bl)) pss_nil)
      (pss_cons (ps_if (pw_or (pt_val (pe_callB (r:=rInstXs K) call_isinstXs (by rfl) N.inst PyProof.Rows.boot_isinstance (pa_cons (pv 2) (pa_cons (pe_tup (pa_cons (pe_glob (v:=.ref C11) (by rfl) n11 rfl) (pa_cons (pe_glob (v:=.ref C12) (by rfl) n12 rfl) (pa_cons (pe_glob (v:=.ref C13) (by rfl) n13 rfl) (pa_cons (pe_glob (v:=.ref C14) (by rfl) n14 rfl) pa_nil))))) pa_nil)))) (pw_or1 (pt_not (pt_val (pe_callB (r:=rInstXT K) call_isinstXT (by rfl) N.inst PyProof.Rows.boot_isinstance (pa_cons (pv 2) (pa_cons (pe_bltn (v:=.ty "ValueError") (by rfl) nve boot_ve rfl (by decide)) pa_nil))))))).pt (pss_one (ps_ret pe_bl)) pss_nil)
      (pss_one (ps_ret (pe_and (pe_callB (r:=rInstX K) call_isinstX (by rfl) N.inst PyProof.Rows.boot_isinstance (pa_cons (pv 2) (pa_cons (pe_glob (v:=.ref CT) (by rfl) mT rfl) pa_nil))) (pe_one (pe_cmpR op_eq (pe_fldX (pv 2) rfl) (pv 1) (nomark _)))))))),?_⟩
    refine ⟨_,rfl,v,d,rfl,hg,hv,(fun nms' H' e=>by rw [hl] at e; cases e),fun r' c dx H1 e s1 hc hdx=>?_⟩
    rw [hl] at e
    cases e
    have hex:∀ (G:Hp),Same H1 G→∀ dx',some dx=some dx'→∃ fs,G dx'=some (.xd fs):=fun G sG dx' e=>by cases e; exact ⟨_,sG _ _ hdx⟩
    refine ⟨_,rfl,(by show 10 ≤ sizeLine; decide),fun t1 ht1=>?_⟩
    generalize hG:upd H1 t1 _=H2
    have s2:Same H1 H2:=by rw [← hG]; exact Same.put (Same.refl _) ht1
    have h2:H2 t1=some (.tup ([C1,C2,C3,C4,C5,C6,C7,C8,C9,C10].map V.ref)):=by rw [← hG]; exact upd_same
    clear hG
    refine ⟨c,CT,t1,[C1,C2,C3,C4,C5,C6,C7,C8,C9,C10],_,_,rfl,s2 _ _ hc,hex H2 s2,eT,SqT.of h2,kno,_,rfl,iteF ?_⟩
    refine ⟨_,rfl,(by show 4 ≤ sizeLine; decide),fun t2 ht2=>?_⟩
    generalize hG:upd H2 t2 _=H3
    have s3:Same H2 H3:=by rw [← hG]; exact Same.put (Same.refl _) ht2
    have h3:H3 t2=some (.tup ([C11,C12,C13,C14].map V.ref)):=by rw [← hG]; exact upd_same
    clear hG
    have s13:=Same.trans s2 s3
    refine ⟨c,CT,t2,[C11,C12,C13,C14],_,_,rfl,s13 _ _ hc,hex H3 s13,eT,SqT.of h3,kn2,_,rfl,iteF ?_⟩
    refine ⟨_,rfl,c,CT,"ValueError",_,_,rfl,s13 _ _ hc,hex H3 s13,eT,kve,_,rfl,iteF ?_⟩
    refine ⟨_,rfl,c,CT,CT,_,_,rfl,s13 _ _ hc,hex H3 s13,eT,ktt,true,rfl,iteB rfl ?_⟩
    refine ⟨_,rfl,c,CT,dx,_,_,rfl,s13 _ _ hc,s13 _ _ hdx,eT,hdT,hnm,rfl,_,rfl,tell_scal r,?_⟩
    rw [decide_eq_true rfl]
    exact q H3 (Same.trans s1 s13)
end
end B06
namespace B06
open PySem L2 S2
theorem thing_bad {d:D} (h:¬ d.tupOf 5=true):GoodF 12 d∧lookF 12 d 1 false []=.error .non:=by
  have hb:=box_no h
  refine ⟨⟨⟨fun k n o w p e=>absurd (by rw [e]; rfl) h,fun z=>?_⟩,fun z=>?_⟩,?_⟩
  · rw [hb] at z; cases z
  · rw [hb] at z; cases z
  · have am:amD d 1 false []=true:=am_bad fun z=>by rw [hb] at z; cases z
    show (if amD d 1 false []=true then Except.error d.told else _)=_
    rw [if_pos am,told_no h]
theorem head_nms:∀ b:Bx,b.nms.head?=some b.nm
  | .mk _ _ _ _ _=>by rw [Bx.nms]; rfl
theorem nm_ok:∀ {b:Bx},b.Ok→(D.str b.nm).name=true∧b.nm.length ≤ 100
  | .mk k n ow wh ps,h=>by rw [Bx.Ok] at h; exact ⟨h.1.2.1,h.1.2.2.1⟩
theorem toD_five:∀ b:Bx,∃ x0 x1 x2 x3 x4:D,b.toD=.tup [x0,x1,x2,x3,x4]
  | .mk _ _ _ _ _=>⟨_,_,_,_,_,by rw [Bx.toD]⟩
theorem bent_told {b:Bx} {fs:Str} {k' n' o' w' p':D} (hb:(D.str b.nm).name=true) (hf:(D.str fs).name=true) (h:BentOk b fs (.tup [k',n',o',w',p']) n') :
    (n'=.str b.nm∧(D.tup [k',n',o',w',p']).told=.str b.nm) ∨ (n' ≠ .str b.nm∧n' ≠ .str fs∧(D.tup [k',n',o',w',p']).told=.non∧((∃ s:Str,n'=.str s∧s.length ≤ 100) ∨ n'=.non ∨ ∃ i,n'=.int i)) ∨ (n'=.str fs∧fs ≠ b.nm∧(D.tup [k',n',o',w',p']).told=.str fs):=by
  have et:(D.tup [k',n',o',w',p']).told=if n'.name=true then n' else .non:=rfl
  rw [et]
  rcases h.2.2 with rfl | ⟨hn,hfl⟩ | ⟨rfl,hne⟩
  · exact .inl ⟨rfl,if_pos hb⟩
  · refine .inr (.inl ⟨fun e=>?_,fun e=>?_,if_neg (by rw [hn]; decide),hfl⟩)
    · rw [e,hb] at hn; cases hn
    · rw [e,hf] at hn; cases hn
  · exact .inr (.inr ⟨rfl,hne,if_pos hf⟩)
theorem for_evs {K:PySem.W.Frag} {te:TE} {g:TG} {tb:TS} {D0:Ends} {σ:St} {H:Hp} {ds:List D} (h:EvS K σ H te ds) (k:∀ l xs H1,Same H H1→H1 l=some (.lst xs)→Ats K H1 xs ds→∃ W:Nat→Nat→St→Hp→Prop,(∃ m,W 0 m σ H1)∧∀ i m σ H,W i m σ H →
      ((Itl K l).stop i H∧D0.nx σ H) ∨ ((Itl K l).go i H∧∃ N:St→Hp→Prop,(∀ σ' H',N σ' H'→∃ m',m' < m∧W (i + 1) m' σ' H')∧∀ x H',(Itl K l).yld i H x H'→g x σ H' fun σ2 H2=>tb { D0 with nx:=N,ct:=N,bk:=D0.nx } σ2 H2)):tFor (iList K te) g tb D0 σ H :=
  h H (fun x H1=>∃ a,x=.ref a∧(∃ xs,SqL K H1 a xs)∧_) (Same.refl _) fun l xs H1 s1 h1 hA=>⟨l,rfl,⟨xs,SqL.of h1⟩,k l xs H1 s1 h1 hA⟩
def spLaw (K:PySem.W.Frag):Sp:=fun vs H Q _=>∃ (a:Addr) (ns:List Int),vs=[.ref a]∧SqL K H a (ns.map V.int)∧ns.length ≤ 63∧∀ H',Q (.bl true) H'
section
variable {P:Program} {w:World} {K:PySem.W.Frag} {mg:Str→Option Value} {base:Heap} {tk:Nat→Tok} {ad:Nat→Addr}
abbrev nLaw:List Str:=["_law_script","_law_tree_here","_law_boxes_here","_law_cell","_law_box","_law_bent_here","_law_name","_law_bad","_law_again","_law_thing"]
theorem scLaw:FnScope nLaw ["_law_script"] (defScope sLaw):=⟨rfl,rfl,rfl,by decide +kernel,rfl,by decide +kernel,by decide +kernel⟩
set_option maxHeartbeats 16000000 in
theorem ok_law {f f1 f2 f3 f4 f5 f6 f7:Addr} {fd d1 d2 d3 d4 d5 d6 d7:FuncData} {CT:Addr} (F:Fun K "law" "law" sLaw f fd) (N:Names mg)
    (G1:FnOk P w K mg base CX0 5 f1 d1 ["_law_script","_law_first","_law_many"] (spTreeD K)) (b1:Binds K d1 ["_law_script","_law_first","_law_many"] []) (m1:mg "_law_tree"=some (.ref f1)) (k1:PySem.W.keepIn K (.ref f1)=true)
    (G2:FnOk P w K mg base CX0 1 f2 d2 ["_law_tree_here"] (spBoxesL K)) (b2:Binds K d2 ["_law_tree_here"] []) (m2:mg "_law_boxes"=some (.ref f2)) (k2:PySem.W.keepIn K (.ref f2)=true)
    (G3:FnOk P w K mg base CX0 1 f3 d3 ["_law_script","_law_k"] (spCell K)) (b3:Binds K d3 ["_law_script","_law_k"] []) (m3:mg "_law_at"=some (.ref f3)) (k3:PySem.W.keepIn K (.ref f3)=true)
    (G4:FnOk P w K mg base CX0 2 f4 d4 ["_law_box","_law_cell","_law_first"] (spBentD K)) (b4:Binds K d4 ["_law_box","_law_cell","_law_first"] []) (m4:mg "_law_bent"=some (.ref f4)) (k4:PySem.W.keepIn K (.ref f4)=true)
    (G5:FnOk P w K mg base CX0 26 f5 d5 ["_law_tree_here","_law_name","_law_other"] (spNamed K 6)) (b5:Binds K d5 ["_law_tree_here","_law_name","_law_other"] []) (m5:mg "_law_named"=some (.ref f5)) (k5:PySem.W.keepIn K (.ref f5)=true)
    (G6:FnOk P w K mg base CX0 22 f6 d6 ["_law_tree_here"] (spKept K CT)) (b6:Binds K d6 ["_law_tree_here"] []) (m6:mg "_law_kept"=some (.ref f6)) (k6:PySem.W.keepIn K (.ref f6)=true)
    (G7:FnOk P w K mg base CX0 23 f7 d7 ["_law_tree_here","_law_name"] (spRefused K)) (b7:Binds K d7 ["_law_tree_here","_law_name"] []) (m7:mg "_law_refused"=some (.ref f7)) (k7:PySem.W.keepIn K (.ref f7)=true):FnOk P w K mg base CX0 27 f fd ["_law_script"] (spLaw K):=by
  refine F.ok scLaw (fun vs H Q E h=>?_) (fun cdv A outer s H vs Q E hr h=>?_)
  · obtain ⟨a,ns,e,_⟩:=h
    rw [e]
    rfl
  · obtain ⟨a,ns,e,hS,hn,k⟩:=h
    subst e
    have hr1:=hr.mono (j:=1) (by decide)
    have hr2:=hr.mono (j:=2) (by decide)
    have hr5:=hr.mono (j:=5) (by decide)
    have hr22:=hr.mono (j:=22) (by decide)
    have hr23:=hr.mono (j:=23) (by decide)
    have hr26:=hr.mono (j:=26) (by decide)
    refine ⟨_,pss_cons (ps_set (i:=1) scLaw.nd rfl (Or.inl rfl) (pe_call G1 hr5 (by rfl) m1 k1 b1 .nil pass0 (pa_cons (pv 0) (pa_cons pe_int (pa_cons pe_int pa_nil)))))
      (pss_cons (ps_set (i:=2) scLaw.nd rfl (Or.inl rfl) (pe_call G2 hr1 (by rfl) m2 k2 b2 .nil pass0 (pa_cons (pv 1) pa_nil)))
      (pss_cons (ps_set (i:=3) scLaw.nd rfl (Or.inl rfl) (pe_call G3 hr1 (by rfl) m3 k3 b3 .nil pass0 (pa_cons (pv 0) (pa_cons pe_int pa_nil))))
      (pss_cons (ps_set (i:=4) scLaw.nd rfl (Or.inl rfl) (pe_ix ix_list (pv 2) (pe_op op_mod (pv 3) (pe_callB call_len_seq (by rfl) N.len PySem.boot_len (pa_cons (pv 2) pa_nil))) (fun _ _=>rfl)))
      (pss_cons (ps_set (i:=5) scLaw.nd rfl (Or.inl rfl) (pe_call G4 hr2 (by rfl) m4 k4 b4 .nil pass0 (pa_cons (pv 4) (pa_cons (pe_op op_fdiv (pv 3) (pe_callB call_len_seq (by rfl) N.len PySem.boot_len (pa_cons (pv 2) pa_nil))) (pa_cons (pe_ix ix_tup (pe_ix ix_list (pv 2) pe_int (fun _ _=>rfl)) pe_int (fun _ _=>rfl)) pa_nil)))))
      (pss_cons (ps_set (i:=6) scLaw.nd rfl (Or.inl rfl) (pe_ix ix_tup (pv 4) pe_int (fun _ _=>rfl)))
      (pss_cons (ps_if (pt_cmpR op_ne (pe_ix ix_tup (pv 5) pe_int (fun _ _=>rfl)) (pv 6) (nomark _)) (pss_cons (ps_set (i:=6) scLaw.nd rfl (Or.inl rfl) pe_non)
        (pss_one (ps_if (pt_cmpR op_eq (pe_ix ix_tup (pv 5) pe_int (fun _ _=>rfl)) (pe_ix ix_tup (pe_ix ix_list (pv 2) pe_int (fun _ _=>rfl)) pe_int (fun _ _=>rfl)) (nomark _)) (pss_one (ps_set (i:=6) scLaw.nd rfl (Or.inl rfl) (pe_ix ix_tup (pv 5) pe_int (fun _ _=>rfl)))) pss_nil))) pss_nil)
      (pss_cons (ps_set (i:=7) scLaw.nd rfl (Or.inl rfl) (pe_call G5 hr26 (by rfl) m5 k5 b5 .nil pass0 (pa_cons (pv 1) (pa_cons (pe_ix ix_tup (pv 4) pe_int (fun _ _=>rfl)) (pa_cons (pv 5) pa_nil)))))
      (pss_cons (ps_for PassesOwn.never rfl (pi_range1 rfl N.range (pa_cons pe_int pa_nil)) (pg_name (i:=8) scLaw.nd rfl (Or.inl rfl))
        (pss_one (ps_if (pw_or (pt_cmpR op_notN (pe_call G6 hr22 (by rfl) m6 k6 b6 .nil pass0 (pa_cons (pv 1) pa_nil)) pe_non (nomark _)) (pw_or1 (pt_not (pt_val (pe_call G7 hr23 (by rfl) m7 k7 b7 .nil pass0 (pa_cons (pv 7) (pa_cons (pv 6) pa_nil))))))).pt (pss_one (ps_ret pe_bl)) pss_nil)))
      (pss_cons (ps_for PassesOwn.never rfl (pi_list (pe_lst (pa_cons pe_non (pa_cons pe_int (pa_cons pe_str (pa_cons (pe_tup pa_nil) (pa_cons (pe_lst pa_nil) (pa_cons (pe_slice sl_tup (pv 1) po_none (po_some pe_int)) (pa_cons (pe_callTy call_list_of (by rfl) N.list PyProof.Rows.boot_list (pa_cons (pv 1) pa_nil)) (pa_cons (pe_tup (pa_cons (pv 1) pa_nil)) pa_nil)))))))))) (pg_name (i:=9) scLaw.nd rfl (Or.inl rfl))
        (pss_one (ps_if (pt_not (pt_val (pe_call G7 hr23 (by rfl) m7 k7 b7 .nil pass0 (pa_cons (pv 9) (pa_cons pe_non pa_nil))))) (pss_one (ps_ret pe_bl)) pss_nil)))
      (pss_one (ps_ret pe_bl))))))))))),?_⟩
    try rw [show (cxOf CX0 P w K mg base nLaw "law" (defScope sLaw) f cdv A outer s H E).nox.K=K from rfl]
    refine seq_abs fun N1 hN=>?_
    refine ⟨_,rfl,a,ns,rfl,hS,hn,fun b vt H1 s1 hvt hok hhg hnd hln=>?_⟩
    refine hN _ _ ?_
    clear hN N1
    refine seq_abs fun N1 hN=>?_
    refine ⟨_,rfl,vt,b,rfl,hvt,hln,fun lb xs H2 s2 h2 hX=>?_⟩
    refine hN _ _ ?_
    clear hN N1
    have hvt:=hvt.same s2
    have s02:=Same.trans s1 s2
    have pl:=congrArg List.length (pre_nms b)
    rw [List.length_map] at pl
    have pos:0 < b.pre.length:=by rw [pre_eq]; exact Nat.succ_pos _
    have lx:xs.length=b.pre.length:=by rw [hX.1,List.length_map]
    refine seq_abs fun N1 hN=>?_
    refine ⟨_,rfl,a,1,ns,rfl,s02.seq hS,hn,fun cell=>?_⟩
    refine hN _ _ ?_
    clear hN N1
    obtain ⟨j,ej,hj⟩:=mod_nat (z:=cell) (n:=xs.length) (by omega)
    obtain ⟨c,ec⟩:∃ c,b.pre[j]?=some c:=⟨_,List.getElem?_eq_getElem (by omega)⟩
    obtain ⟨vc,evc⟩:∃ vc,xs[j]?=some vc:=⟨_,List.getElem?_eq_getElem hj⟩
    have hvc:At K H2 vc c.toD:=hX.2 j vc _ evc (by rw [List.getElem?_map,ec]; rfl)
    obtain ⟨hcok,hchg⟩:=pre_ok b hok c (List.mem_of_getElem? ec)
    have hcn:c.nm ∈ b.nms:=by
      rw [← pre_nms b]
      exact List.mem_map_of_mem (List.mem_of_getElem? ec)
    obtain ⟨v0,ev0⟩:∃ v0,xs[0]?=some v0:=⟨_,List.getElem?_eq_getElem (by omega)⟩
    have hv0:At K H2 v0 b.toD:=hX.2 0 v0 _ ev0 (by rw [List.getElem?_map,pre_eq]; rfl)
    obtain ⟨a0,q0,z0,z2,z3,zs0,rfl,ha0,_,_⟩:=parts_at hv0
    obtain ⟨ac,qc,y0,y2,y3,ys,rfl,hac,_,_⟩:=parts_at hvc
    obtain ⟨hbn,hbl⟩:=nm_ok hok
    obtain ⟨hcn1,hcl⟩:=nm_ok hcok
    refine seq_abs fun N1 hN=>?_
    refine ⟨_,rfl,_,rfl,_,rfl,lb,_,rfl,.inl (SqL.of h2),_,_,rfl,rfl,(by show (0:Int) < (xs.length:Int); omega),lb,_,_,_,rfl,rfl,SqL.of h2,(by rw [ej]; exact atI_nat evc),?_⟩
    refine hN _ _ ?_
    clear hN N1
    refine seq_abs fun N1 hN=>?_
    refine ⟨_,rfl,_,rfl,_,rfl,lb,_,rfl,.inl (SqL.of h2),_,_,rfl,rfl,⟨by omega,by omega⟩,_,rfl,lb,_,_,_,rfl,rfl,SqL.of h2,atI_nat (j:=0) ev0,a0,_,_,_,rfl,rfl,SqT.of ha0,atI_nat (j:=1) rfl,?_⟩
    refine ⟨.ref ac,c,_,b.nm,rfl,hvc,hcok,by omega,hbn,hbl,fun k' n' o' w' p' vb H3 s3 hvb hB=>?_⟩
    refine hN _ _ ?_
    clear hN N1
    have hac3:=s3 _ _ hac
    have ha03:=s3 _ _ ha0
    have h23:=s3 _ _ h2
    have hvt:=hvt.same s3
    have hvc:=hvc.same s3
    obtain ⟨tb,xb,rfl,htb,hAb⟩:=hvb.tupS
    obtain ⟨b0,b1,b2,b3,b4,rfl,a0',a1',a2',a3',a4'⟩:=hAb.five
    have told:=bent_told hcn1 hbn hB
    obtain ⟨hg,hbx,_⟩:=hB
    generalize hd:D.tup [k',n',o',w',p']=d at *
    refine seq_abs fun N1 hN=>?_
    refine ⟨_,rfl,ac,_,_,_,rfl,rfl,SqT.of hac3,atI_nat (j:=1) rfl,?_⟩
    refine hN _ _ ?_
    clear hN N1
    refine seq_abs fun N1 hN=>?_
    have rest:N1 [some (.ref a),some vt,some (.ref lb),some (.int cell),some (.ref ac),some (.ref tb),some (tellV d.told),none,none,none] H3:=hN _ _ (by
      clear hN N1
      have hlook:lookF 12 b.toD 1 false []=.ok ([] ++ b.nms):=look_ok 12 b 1 false [] hok (by omega) (fun z=>nomatch z) (by omega) hnd (by rw [List.nil_append]; omega)
      have hgood:=good_ok b 12 hok (by omega)
      have hbadL:lookF 12 (b.sub c.nm d) 1 false []=.error d.told:=look_bad 12 b 1 false [] hok (by omega) (fun z=>nomatch z) (by omega) hnd (by rw [List.nil_append]; omega) hcn (fun z=>by
        obtain ⟨e1,e2⟩:=hbx z
        have e3:d.nameS=b.nm:=by rw [← hd,e1]; rfl
        exact .inr ⟨by rw [e3]; exact head_nms b,by rw [e3]; exact Ne.symm e2⟩)
      have hbadG:GoodF 12 (b.sub c.nm d):=good_sub hg b 12 hok (by omega)
      refine seq_abs fun N1 hN=>?_
      refine ⟨_,rfl,_,rfl,ac,_,_,_,rfl,rfl,SqT.of hac3,atI_nat (j:=1) rfl,_,rfl,vt,.ref tb,b,c.nm,d,rfl,hvt,hvb,hhg,by omega,fun vbad H4 s4 hbad=>?_⟩
      refine hN _ _ ?_
      clear hN N1
      have hvt:=hvt.same s4
      refine seq_abs fun N1 hN=>?_
      refine ⟨2,rfl,by decide,by decide,?_⟩
      rw [show ((2:Int)).toNat=2 from rfl]
      refine for_range (n:=2) (fun i σ G=>(∃ u8,σ=[some (.ref a),some vt,some (.ref lb),some (.int cell),some (.ref ac),some (.ref tb),some (tellV d.told),some vbad,u8,none])∧Same H4 G) ⟨⟨_,rfl⟩,Same.refl _⟩ ?_ ?_
      · rintro i σ G hi ⟨⟨u8,rfl⟩,sG⟩
        refine ⟨_,rfl,vt,b.toD,rfl,hgood,hvt.same sG,fun nms' G1 e g1=>⟨rfl,_,rfl,iteF ?_⟩,fun r c dx G1 e=>by rw [hlook] at e; cases e⟩
        refine ⟨_,rfl,_,rfl,vbad,_,d.told,rfl,hbadG,hbad.same (Same.trans sG g1),hbadL,fun G2 g2=>⟨_,rfl,iteF ?_⟩⟩
        exact ⟨⟨_,rfl⟩,Same.trans sG (Same.trans g1 g2)⟩
      rintro σ G ⟨⟨u8,rfl⟩,sG⟩
      refine hN _ _ ?_
      clear hN N1
      obtain ⟨t0,t1,t2,t3,t4,e5⟩:=toD_five b
      have hvt:=hvt.same sG
      rw [e5] at hvt
      refine seq_abs fun N1 hN=>?_
      refine for_evs (K:=K) (H:=G) (evs_lst (K:=K) (σ:=[some (.ref a),some vt,some (.ref lb),some (.int cell),some (.ref ac),some (.ref tb),some (tellV d.told),some vbad,u8,none]) (H0:=G) (ds:=[.non,.int 5,.str "leaf",.tup [],.oth,.tup ([t0,t1,t2,t3,t4].take 4),.oth,.tup [.tup [t0,t1,t2,t3,t4]]]) (evl_cons ev_non (evl_cons ev_int (evl_cons (ev_str (by decide +kernel)) (evl_cons (ev_tup evl_nil (by show 0 ≤ 100000; decide)) (evl_cons (ev_lst (evs_lst evl_nil (by show 0 ≤ 100000; decide))) (evl_cons (ev_till (l:=[t0,t1,t2,t3,t4]) (j:=4) (ev_var (i:=1) rfl hvt) nume_c (by show 4 < 5; decide)) (evl_cons (ev_lst (evs_list (ev_var (i:=1) rfl hvt))) (evl_cons (ev_tup (evl_cons (ev_var (i:=1) rfl hvt) evl_nil) (by show 1 ≤ 100000; decide)) evl_nil)))))))) (by show 8 ≤ 100000; decide)) fun l8 zs G1 g1 h8 hZ=>?_
      have hbads:∀ d ∈ ([.non,.int 5,.str "leaf",.tup [],.oth,.tup ([t0,t1,t2,t3,t4].take 4),.oth,.tup [.tup [t0,t1,t2,t3,t4]]]:List D),¬ d.tupOf 5=true:=by
        simp only [List.mem_cons,List.not_mem_nil,or_false]
        rintro d (rfl | rfl | rfl | rfl | rfl | rfl | rfl | rfl) z <;> cases z
      refine for_list (K:=K) (a:=l8) (xs:=zs) (fun i σ J=>(∃ u8 u9,σ=[some (.ref a),some vt,some (.ref lb),some (.int cell),some (.ref ac),some (.ref tb),some (tellV d.told),some vbad,u8,u9])∧Same G1 J) ⟨⟨_,_,rfl⟩,Same.refl _⟩ (fun i σ J _ ⟨_,sJ⟩=>SqL.of (sJ _ _ h8)) ?_ ?_
      · rintro i x σ J hx ⟨⟨u8,u9,rfl⟩,sJ⟩
        have hi:=get_lt hx
        rw [hZ.1] at hi
        have ed:=List.getElem?_eq_getElem hi
        have hxd:=(hZ.2 i x _ hx ed).same sJ
        obtain ⟨g5,l5⟩:=thing_bad (hbads _ (List.mem_of_getElem? ed))
        refine ⟨_,rfl,x,_,.non,rfl,g5,hxd,l5,fun J2 j2=>⟨_,rfl,iteF ?_⟩⟩
        exact ⟨⟨_,_,rfl⟩,Same.trans sJ j2⟩
      · rintro σ J ⟨⟨u8,u9,rfl⟩,sJ⟩
        exact hN _ _ (k J))
    clear hN
    rcases told with ⟨rfl,et⟩ | ⟨hn1,hn2,et,hfl⟩ | ⟨rfl,hne,et⟩
    · rw [et] at rest
      cases a1'
      refine ⟨_,rfl,tb,_,_,_,rfl,rfl,SqT.of htb,atI_nat (j:=1) rfl,_,rfl,rfl,_,rfl,iteC (by rw [decide_eq_true rfl]; rfl) ?_⟩
      exact rest
    · rw [et] at rest
      have fl:scal b1 (.str c.nm)=true∧scal b1 (.str b.nm)=true∧b1 ≠ .str c.nm∧b1 ≠ .str b.nm:=by
        rcases hfl with ⟨s,rfl,_⟩ | rfl | ⟨i,rfl⟩
        · cases a1'
          exact ⟨rfl,rfl,fun e=>hn1 (by injection e with e; rw [e]),fun e=>hn2 (by injection e with e; rw [e])⟩
        · cases a1'
          exact ⟨rfl,rfl,(fun e=>nomatch e),fun e=>nomatch e⟩
        · cases a1'
          exact ⟨rfl,rfl,(fun e=>nomatch e),fun e=>nomatch e⟩
      refine ⟨_,rfl,tb,_,_,_,rfl,rfl,SqT.of htb,atI_nat (j:=1) rfl,_,rfl,fl.1,_,rfl,iteB (by rw [decide_eq_false fl.2.2.1]; rfl) ?_⟩
      refine ⟨_,rfl,tb,_,_,_,rfl,rfl,SqT.of htb,atI_nat (j:=1) rfl,_,rfl,lb,_,_,_,rfl,rfl,SqL.of h23,atI_nat (j:=0) ev0,a0,_,_,_,rfl,rfl,SqT.of ha03,atI_nat (j:=1) rfl,fl.2.1,_,rfl,iteC (decide_eq_false fl.2.2.2) ?_⟩
      exact rest
    · rw [et] at rest
      cases a1'
      have ne:(V.str b.nm) ≠ .str c.nm:=fun e=>hne (by injection e)
      refine ⟨_,rfl,tb,_,_,_,rfl,rfl,SqT.of htb,atI_nat (j:=1) rfl,_,rfl,rfl,_,rfl,iteB (by rw [decide_eq_false ne]; rfl) ?_⟩
      refine ⟨_,rfl,tb,_,_,_,rfl,rfl,SqT.of htb,atI_nat (j:=1) rfl,_,rfl,lb,_,_,_,rfl,rfl,SqL.of h23,atI_nat (j:=0) ev0,a0,_,_,_,rfl,rfl,SqT.of ha03,atI_nat (j:=1) rfl,rfl,_,rfl,iteB (decide_eq_true rfl) ?_⟩
      refine ⟨_,rfl,tb,_,_,_,rfl,rfl,SqT.of htb,atI_nat (j:=1) rfl,?_⟩
      exact rest
end
end B06
namespace B06
open PySem L2 S2
theorem us0 {us:List Value} (h:us.length=0):us=[]:=List.eq_nil_of_length_eq_zero h
theorem usS {us:List Value} {n:Nat} (h:us.length=n + 1):∃ a vs,us=a :: vs∧vs.length=n:=by
  cases us with
  | nil=>cases h
  | cons a vs=>exact ⟨a,vs,rfl,Nat.succ.inj h⟩
theorem us1 {us:List Value} (h:us.length=1):∃ a,us=[a]:=by
  obtain ⟨a,vs,rfl,g⟩:=usS h
  exact ⟨a,by rw [us0 g]⟩
theorem us2 {us:List Value} (h:us.length=2):∃ a a1,us=[a,a1]:=by
  obtain ⟨a,vs,rfl,g⟩:=usS h
  obtain ⟨a1,rfl⟩:=us1 g
  exact ⟨a,a1,rfl⟩
theorem us3 {us:List Value} (h:us.length=3):∃ a a1 a2,us=[a,a1,a2]:=by
  obtain ⟨a,vs,rfl,g⟩:=usS h
  obtain ⟨a1,a2,rfl⟩:=us2 g
  exact ⟨a,a1,a2,rfl⟩
theorem us4 {us:List Value} (h:us.length=4):∃ a a1 a2 a3,us=[a,a1,a2,a3]:=by
  obtain ⟨a,vs,rfl,g⟩:=usS h
  obtain ⟨a1,a2,a3,rfl⟩:=us3 g
  exact ⟨a,a1,a2,a3,rfl⟩
theorem us5 {us:List Value} (h:us.length=5):∃ a a1 a2 a3 a4,us=[a,a1,a2,a3,a4]:=by
  obtain ⟨a,vs,rfl,g⟩:=usS h
  obtain ⟨a1,a2,a3,a4,rfl⟩:=us4 g
  exact ⟨a,a1,a2,a3,a4,rfl⟩
theorem fn_none {P:Program} {w:World} {K:PySem.W.Frag} {mg:Str→Option Value} {base:Heap} {CX:CXT} {k:Nat} {f:Addr} {fd:FuncData} {ps:List Str}:FnOk P w K mg base CX k f fd ps spNone:=⟨fun _ _ _ _ z=>z.elim,fun _ _ _ _ _ _ _ _ _ _ _ _ _ z=>z.elim⟩
set_option maxHeartbeats 8000000 in
theorem all_mk {l:PySem.W.OpenLaw} {w:World} {K:PySem.W.Frag} {h:Heap} {mg:Str→Option Value} {fa CB CT C1 C2 C3 C4 C5 C6 C7 C8 C9 C10 C11 C12 C13 C14 ad0 ad1 ad2 ad3 ad4 f1 f2 f3 f4 f5 f6 f7 f8 f9 f10 f11 f12 f13 f14 f15 f16 f17 f18 f19 f20 f21 f22 f23 f24 f25 f26 f27 f28 f29 f30 f31 f32 f33 f34 f35 f36 f37 f38 f39 f40 f41 f42 f43 f44 f45 f46 f47 f48 f49 f50 f51 f52 f53 f54 f55 f56:Addr} (X:K.In h) (G:h.Ns mainGlobals mg) (hfa:mg "law"=some (.ref fa))
    {od1 an1 od2 an2 od3 an3 od4 an4 od5 an5 od6 an6 od7 an7 od8 an8 od9 an9 od10 an10 od11 an11 od12 an12 od13 an13 od14 an14 od15 an15 od16 an16 od17 an17 od18 an18 od19 an19 od20 an20 od21 an21 od22 an22 od23 an23 od24 an24 od25 an25 od26 an26 od27 an27 od28 an28 od29 an29 od30 an30 od31 an31 od32 an32 od33 an33 od34 an34 od35 an35 od36 an36 od37 an37 od38 an38 od39 an39 od40 an40 od41 an41 od42 an42 od43 an43 od44 an44 od45 an45 od46 an46 od47 an47 od48 an48 od49 an49 od50 an50 od51 an51 od52 an52 od53 an53 od54 an54 od55 an55 od56 an56 oda0 oda1 oda2 oda3 oda4:Option Addr} {sl1 sl2 sl3 sl4 sl5 sl6 sl7 sl8 sl9 sl10 sl11 sl12 sl13 sl14 sl15 sl16 sl17 sl18 sl19 sl20 sl21 sl22 sl23 sl24 sl25 sl26 sl27 sl28 sl29 sl30 sl31 sl32 sl33 sl34 sl35 sl36 sl37 sl38 sl39 sl40 sl41 sl42 sl43 sl44 sl45 sl46 sl47 sl48 sl49 sl50 sl51 sl52 sl53 sl54 sl55 sl56 sla0 sla1 sla2 sla3 sla4:Array (Option Value)} {oc1 kV1 dc1 pm1 cd1 ct1 oc2 kV2 dc2 pm2 cd2 ct2 oc3 kV3 dc3 pm3 cd3 ct3 oc4 kV4 dc4 pm4 cd4 ct4 oc5 kV5 dc5 pm5 cd5 ct5 oc6 kV6 dc6 pm6 cd6 ct6 oc7 kV7 dc7 pm7 cd7 ct7 oc8 kV8 dc8 pm8 cd8 ct8 oc9 kV9 dc9 pm9 cd9 ct9 oc10 kV10 dc10 pm10 cd10 ct10 oc11 kV11 dc11 pm11 cd11 ct11 oc12 kV12 dc12 pm12 cd12 ct12 oc13 kV13 dc13 pm13 cd13 ct13 oc14 kV14 dc14 pm14 cd14 ct14 oc15 kV15 dc15 pm15 cd15 ct15 oc16 kV16 dc16 pm16 cd16 ct16 oc17 kV17 dc17 pm17 cd17 ct17 oc18 kV18 dc18 pm18 cd18 ct18 oc19 kV19 dc19 pm19 cd19 ct19 oc20 kV20 dc20 pm20 cd20 ct20 oc21 kV21 dc21 pm21 cd21 ct21 oc22 kV22 dc22 pm22 cd22 ct22 oc23 kV23 dc23 pm23 cd23 ct23 oc24 kV24 dc24 pm24 cd24 ct24 oc25 kV25 dc25 pm25 cd25 ct25 oc26 kV26 dc26 pm26 cd26 ct26 oc27 kV27 dc27 pm27 cd27 ct27 oc28 kV28 dc28 pm28 cd28 ct28 oc29 kV29 dc29 pm29 cd29 ct29 oc30 kV30 dc30 pm30 cd30 ct30 oc31 kV31 dc31 pm31 cd31 ct31 oc32 kV32 dc32 pm32 cd32 ct32 oc33 kV33 dc33 pm33 cd33 ct33 oc34 kV34 dc34 pm34 cd34 ct34 oc35 kV35 dc35 pm35 cd35 ct35 oc36 kV36 dc36 pm36 cd36 ct36 oc37 kV37 dc37 pm37 cd37 ct37 oc38 kV38 dc38 pm38 cd38 ct38 oc39 kV39 dc39 pm39 cd39 ct39 oc40 kV40 dc40 pm40 cd40 ct40 oc41 kV41 dc41 pm41 cd41 ct41 oc42 kV42 dc42 pm42 cd42 ct42 oc43 kV43 dc43 pm43 cd43 ct43 oc44 kV44 dc44 pm44 cd44 ct44 oc45 kV45 dc45 pm45 cd45 ct45 oc46 kV46 dc46 pm46 cd46 ct46 oc47 kV47 dc47 pm47 cd47 ct47 oc48 kV48 dc48 pm48 cd48 ct48 oc49 kV49 dc49 pm49 cd49 ct49 oc50 kV50 dc50 pm50 cd50 ct50 oc51 kV51 dc51 pm51 cd51 ct51 oc52 kV52 dc52 pm52 cd52 ct52 oc53 kV53 dc53 pm53 cd53 ct53 oc54 kV54 dc54 pm54 cd54 ct54 oc55 kV55 dc55 pm55 cd55 ct55 oc56 kV56 dc56 pm56 cd56 ct56:Value} {tk0 tk1 tk2 tk3 tk4 tk5 tk6 tk7 tk8 tk9 tk10 tk11 tk12 tk13 tk14 tk15 tk16 tk17 tk18 tk19 tk20 tk21 tk22 tk23 tk24 tk25 tk26 tk27 tk28 tk29 tk30 tk31 tk32 tk33 tk34 tk35 tk36 tk37 tk38 tk39 tk40:Tok} {na0 na1 na2 na3 na4:Nat}
    (aCB:PySem.W.nsIn K mainGlobals "BoxError"=some (some (.ref CB)))
    (aCT:PySem.W.nsIn K mainGlobals "BadBox"=some (some (.ref CT)))
    (aC1:PySem.W.nsIn K mainGlobals "NoBox"=some (some (.ref C1)))
    (aC2:PySem.W.nsIn K mainGlobals "NoEdit"=some (some (.ref C2)))
    (aC3:PySem.W.nsIn K mainGlobals "NoFloor"=some (some (.ref C3)))
    (aC4:PySem.W.nsIn K mainGlobals "NoName"=some (some (.ref C4)))
    (aC5:PySem.W.nsIn K mainGlobals "NoNumber"=some (some (.ref C5)))
    (aC6:PySem.W.nsIn K mainGlobals "NoPages"=some (some (.ref C6)))
    (aC7:PySem.W.nsIn K mainGlobals "NoRead"=some (some (.ref C7)))
    (aC8:PySem.W.nsIn K mainGlobals "NoRow"=some (some (.ref C8)))
    (aC9:PySem.W.nsIn K mainGlobals "NoRows"=some (some (.ref C9)))
    (aC10:PySem.W.nsIn K mainGlobals "NotTurned"=some (some (.ref C10)))
    (aC11:PySem.W.nsIn K mainGlobals "NoTree"=some (some (.ref C11)))
    (aC12:PySem.W.nsIn K mainGlobals "Ring"=some (some (.ref C12)))
    (aC13:PySem.W.nsIn K mainGlobals "TooGreat"=some (some (.ref C13)))
    (aC14:PySem.W.nsIn K mainGlobals "TooWide"=some (some (.ref C14)))
    (a1:PySem.W.nsIn K mainGlobals "is_whole"=some (some (.ref f1))) (l1:K.lookup f1=some ⟨oc1,od1,.func (PySem.W.fnOf "is_whole" "is_whole" (defArgs sIsWhole) (defBody sIsWhole) (defScope sIsWhole) .none kV1 dc1 pm1 an1 cd1 ct1),sl1⟩) (c1:PySem.W.codeIn K cd1 "is_whole"=true) (k1:PySem.W.keepIn K (.ref f1)=true)
    (a2:PySem.W.nsIn K mainGlobals "is_between"=some (some (.ref f2))) (l2:K.lookup f2=some ⟨oc2,od2,.func (PySem.W.fnOf "is_between" "is_between" (defArgs sIsBetween) (defBody sIsBetween) (defScope sIsBetween) .none kV2 dc2 pm2 an2 cd2 ct2),sl2⟩) (c2:PySem.W.codeIn K cd2 "is_between"=true) (k2:PySem.W.keepIn K (.ref f2)=true)
    (a3:PySem.W.nsIn K mainGlobals "is_tuple_of"=some (some (.ref f3))) (l3:K.lookup f3=some ⟨oc3,od3,.func (PySem.W.fnOf "is_tuple_of" "is_tuple_of" (defArgs sIsTupleOf) (defBody sIsTupleOf) (defScope sIsTupleOf) .none kV3 dc3 pm3 an3 cd3 ct3),sl3⟩) (c3:PySem.W.codeIn K cd3 "is_tuple_of"=true) (k3:PySem.W.keepIn K (.ref f3)=true)
    (a4:PySem.W.nsIn K mainGlobals "kind_of"=some (some (.ref f4))) (l4:K.lookup f4=some ⟨oc4,od4,.func (PySem.W.fnOf "kind_of" "kind_of" (defArgs sKindOf) (defBody sKindOf) (defScope sKindOf) .none kV4 dc4 pm4 an4 cd4 ct4),sl4⟩) (c4:PySem.W.codeIn K cd4 "kind_of"=true) (k4:PySem.W.keepIn K (.ref f4)=true)
    (a5:PySem.W.nsIn K mainGlobals "name_of"=some (some (.ref f5))) (l5:K.lookup f5=some ⟨oc5,od5,.func (PySem.W.fnOf "name_of" "name_of" (defArgs sNameOf) (defBody sNameOf) (defScope sNameOf) .none kV5 dc5 pm5 an5 cd5 ct5),sl5⟩) (c5:PySem.W.codeIn K cd5 "name_of"=true) (k5:PySem.W.keepIn K (.ref f5)=true)
    (a6:PySem.W.nsIn K mainGlobals "own_of"=some (some (.ref f6))) (l6:K.lookup f6=some ⟨oc6,od6,.func (PySem.W.fnOf "own_of" "own_of" (defArgs sOwnOf) (defBody sOwnOf) (defScope sOwnOf) .none kV6 dc6 pm6 an6 cd6 ct6),sl6⟩) (c6:PySem.W.codeIn K cd6 "own_of"=true) (k6:PySem.W.keepIn K (.ref f6)=true)
    (a7:PySem.W.nsIn K mainGlobals "what_of"=some (some (.ref f7))) (l7:K.lookup f7=some ⟨oc7,od7,.func (PySem.W.fnOf "what_of" "what_of" (defArgs sWhatOf) (defBody sWhatOf) (defScope sWhatOf) .none kV7 dc7 pm7 an7 cd7 ct7),sl7⟩) (c7:PySem.W.codeIn K cd7 "what_of"=true) (k7:PySem.W.keepIn K (.ref f7)=true)
    (a8:PySem.W.nsIn K mainGlobals "parts_of"=some (some (.ref f8))) (l8:K.lookup f8=some ⟨oc8,od8,.func (PySem.W.fnOf "parts_of" "parts_of" (defArgs sPartsOf) (defBody sPartsOf) (defScope sPartsOf) .none kV8 dc8 pm8 an8 cd8 ct8),sl8⟩) (c8:PySem.W.codeIn K cd8 "parts_of"=true) (k8:PySem.W.keepIn K (.ref f8)=true)
    (a9:PySem.W.nsIn K mainGlobals "is_size"=some (some (.ref f9))) (l9:K.lookup f9=some ⟨oc9,od9,.func (PySem.W.fnOf "is_size" "is_size" (defArgs sIsSize) (defBody sIsSize) (defScope sIsSize) .none kV9 dc9 pm9 an9 cd9 ct9),sl9⟩) (c9:PySem.W.codeIn K cd9 "is_size"=true) (k9:PySem.W.keepIn K (.ref f9)=true)
    (a10:PySem.W.nsIn K mainGlobals "is_gap"=some (some (.ref f10))) (l10:K.lookup f10=some ⟨oc10,od10,.func (PySem.W.fnOf "is_gap" "is_gap" (defArgs sIsGap) (defBody sIsGap) (defScope sIsGap) .none kV10 dc10 pm10 an10 cd10 ct10),sl10⟩) (c10:PySem.W.codeIn K cd10 "is_gap"=true) (k10:PySem.W.keepIn K (.ref f10)=true)
    (a11:PySem.W.nsIn K mainGlobals "is_bounds"=some (some (.ref f11))) (l11:K.lookup f11=some ⟨oc11,od11,.func (PySem.W.fnOf "is_bounds" "is_bounds" (defArgs sIsBounds) (defBody sIsBounds) (defScope sIsBounds) .none kV11 dc11 pm11 an11 cd11 ct11),sl11⟩) (c11:PySem.W.codeIn K cd11 "is_bounds"=true) (k11:PySem.W.keepIn K (.ref f11)=true)
    (a12:PySem.W.nsIn K mainGlobals "is_own"=some (some (.ref f12))) (l12:K.lookup f12=some ⟨oc12,od12,.func (PySem.W.fnOf "is_own" "is_own" (defArgs sIsOwn) (defBody sIsOwn) (defScope sIsOwn) .none kV12 dc12 pm12 an12 cd12 ct12),sl12⟩) (c12:PySem.W.codeIn K cd12 "is_own"=true) (k12:PySem.W.keepIn K (.ref f12)=true)
    (a13:PySem.W.nsIn K mainGlobals "is_name"=some (some (.ref f13))) (l13:K.lookup f13=some ⟨oc13,od13,.func (PySem.W.fnOf "is_name" "is_name" (defArgs sIsName) (defBody sIsName) (defScope sIsName) .none kV13 dc13 pm13 an13 cd13 ct13),sl13⟩) (c13:PySem.W.codeIn K cd13 "is_name"=true) (k13:PySem.W.keepIn K (.ref f13)=true)
    (a14:PySem.W.nsIn K mainGlobals "is_side"=some (some (.ref f14))) (l14:K.lookup f14=some ⟨oc14,od14,.func (PySem.W.fnOf "is_side" "is_side" (defArgs sIsSide) (defBody sIsSide) (defScope sIsSide) .none kV14 dc14 pm14 an14 cd14 ct14),sl14⟩) (c14:PySem.W.codeIn K cd14 "is_side"=true) (k14:PySem.W.keepIn K (.ref f14)=true)
    (a15:PySem.W.nsIn K mainGlobals "is_align"=some (some (.ref f15))) (l15:K.lookup f15=some ⟨oc15,od15,.func (PySem.W.fnOf "is_align" "is_align" (defArgs sIsAlign) (defBody sIsAlign) (defScope sIsAlign) .none kV15 dc15 pm15 an15 cd15 ct15),sl15⟩) (c15:PySem.W.codeIn K cd15 "is_align"=true) (k15:PySem.W.keepIn K (.ref f15)=true)
    (a16:PySem.W.nsIn K mainGlobals "is_leaf_what"=some (some (.ref f16))) (l16:K.lookup f16=some ⟨oc16,od16,.func (PySem.W.fnOf "is_leaf_what" "is_leaf_what" (defArgs sIsLeafWhat) (defBody sIsLeafWhat) (defScope sIsLeafWhat) .none kV16 dc16 pm16 an16 cd16 ct16),sl16⟩) (c16:PySem.W.codeIn K cd16 "is_leaf_what"=true) (k16:PySem.W.keepIn K (.ref f16)=true)
    (a17:PySem.W.nsIn K mainGlobals "is_lined_what"=some (some (.ref f17))) (l17:K.lookup f17=some ⟨oc17,od17,.func (PySem.W.fnOf "is_lined_what" "is_lined_what" (defArgs sIsLinedWhat) (defBody sIsLinedWhat) (defScope sIsLinedWhat) .none kV17 dc17 pm17 an17 cd17 ct17),sl17⟩) (c17:PySem.W.codeIn K cd17 "is_lined_what"=true) (k17:PySem.W.keepIn K (.ref f17)=true)
    (a18:PySem.W.nsIn K mainGlobals "is_span"=some (some (.ref f18))) (l18:K.lookup f18=some ⟨oc18,od18,.func (PySem.W.fnOf "is_span" "is_span" (defArgs sIsSpan) (defBody sIsSpan) (defScope sIsSpan) .none kV18 dc18 pm18 an18 cd18 ct18),sl18⟩) (c18:PySem.W.codeIn K cd18 "is_span"=true) (k18:PySem.W.keepIn K (.ref f18)=true)
    (a19:PySem.W.nsIn K mainGlobals "is_table_what"=some (some (.ref f19))) (l19:K.lookup f19=some ⟨oc19,od19,.func (PySem.W.fnOf "is_table_what" "is_table_what" (defArgs sIsTableWhat) (defBody sIsTableWhat) (defScope sIsTableWhat) .none kV19 dc19 pm19 an19 cd19 ct19),sl19⟩) (c19:PySem.W.codeIn K cd19 "is_table_what"=true) (k19:PySem.W.keepIn K (.ref f19)=true)
    (a20:PySem.W.nsIn K mainGlobals "is_what"=some (some (.ref f20))) (l20:K.lookup f20=some ⟨oc20,od20,.func (PySem.W.fnOf "is_what" "is_what" (defArgs sIsWhat) (defBody sIsWhat) (defScope sIsWhat) .none kV20 dc20 pm20 an20 cd20 ct20),sl20⟩) (c20:PySem.W.codeIn K cd20 "is_what"=true) (k20:PySem.W.keepIn K (.ref f20)=true)
    (a21:PySem.W.nsIn K mainGlobals "is_box"=some (some (.ref f21))) (l21:K.lookup f21=some ⟨oc21,od21,.func (PySem.W.fnOf "is_box" "is_box" (defArgs sIsBox) (defBody sIsBox) (defScope sIsBox) .none kV21 dc21 pm21 an21 cd21 ct21),sl21⟩) (c21:PySem.W.codeIn K cd21 "is_box"=true) (k21:PySem.W.keepIn K (.ref f21)=true)
    (a22:PySem.W.nsIn K mainGlobals "is_free"=some (some (.ref f22))) (l22:K.lookup f22=some ⟨oc22,od22,.func (PySem.W.fnOf "is_free" "is_free" (defArgs sFree) (defBody sFree) (defScope sFree) .none kV22 dc22 pm22 an22 cd22 ct22),sl22⟩) (c22:PySem.W.codeIn K cd22 "is_free"=true) (k22:PySem.W.keepIn K (.ref f22)=true)
    (a23:PySem.W.nsIn K mainGlobals "first_place"=some (some (.ref f23))) (l23:K.lookup f23=some ⟨oc23,od23,.func (PySem.W.fnOf "first_place" "first_place" (defArgs sFirst) (defBody sFirst) (defScope sFirst) .none kV23 dc23 pm23 an23 cd23 ct23),sl23⟩) (c23:PySem.W.codeIn K cd23 "first_place"=true) (k23:PySem.W.keepIn K (.ref f23)=true)
    (a24:PySem.W.nsIn K mainGlobals "take"=some (some (.ref f24))) (l24:K.lookup f24=some ⟨oc24,od24,.func (PySem.W.fnOf "take" "take" (defArgs sTakeC) (defBody sTakeC) (defScope sTakeC) .none kV24 dc24 pm24 an24 cd24 ct24),sl24⟩) (c24:PySem.W.codeIn K cd24 "take"=true) (k24:PySem.W.keepIn K (.ref f24)=true)
    (a25:PySem.W.nsIn K mainGlobals "put_cells"=some (some (.ref f25))) (l25:K.lookup f25=some ⟨oc25,od25,.func (PySem.W.fnOf "put_cells" "put_cells" (defArgs sPut) (defBody sPut) (defScope sPut) .none kV25 dc25 pm25 an25 cd25 ct25),sl25⟩) (c25:PySem.W.codeIn K cd25 "put_cells"=true) (k25:PySem.W.keepIn K (.ref f25)=true)
    (a26:PySem.W.nsIn K mainGlobals "spans_of"=some (some (.ref f26))) (l26:K.lookup f26=some ⟨oc26,od26,.func (PySem.W.fnOf "spans_of" "spans_of" (defArgs sSpansOf) (defBody sSpansOf) (defScope sSpansOf) .none kV26 dc26 pm26 an26 cd26 ct26),sl26⟩) (c26:PySem.W.codeIn K cd26 "spans_of"=true) (k26:PySem.W.keepIn K (.ref f26)=true)
    (a27:PySem.W.nsIn K mainGlobals "rows_taken"=some (some (.ref f27))) (l27:K.lookup f27=some ⟨oc27,od27,.func (PySem.W.fnOf "rows_taken" "rows_taken" (defArgs sRowsTaken) (defBody sRowsTaken) (defScope sRowsTaken) .none kV27 dc27 pm27 an27 cd27 ct27),sl27⟩) (c27:PySem.W.codeIn K cd27 "rows_taken"=true) (k27:PySem.W.keepIn K (.ref f27)=true)
    (a28:PySem.W.nsIn K mainGlobals "cells_of"=some (some (.ref f28))) (l28:K.lookup f28=some ⟨oc28,od28,.func (PySem.W.fnOf "cells_of" "cells_of" (defArgs sCellsOf) (defBody sCellsOf) (defScope sCellsOf) .none kV28 dc28 pm28 an28 cd28 ct28),sl28⟩) (c28:PySem.W.codeIn K cd28 "cells_of"=true) (k28:PySem.W.keepIn K (.ref f28)=true)
    (a29:PySem.W.nsIn K mainGlobals "table_rows"=some (some (.ref f29))) (l29:K.lookup f29=some ⟨oc29,od29,.func (PySem.W.fnOf "table_rows" "table_rows" (defArgs sTableRows) (defBody sTableRows) (defScope sTableRows) .none kV29 dc29 pm29 an29 cd29 ct29),sl29⟩) (c29:PySem.W.codeIn K cd29 "table_rows"=true) (k29:PySem.W.keepIn K (.ref f29)=true)
    (a30:PySem.W.nsIn K mainGlobals "alike_of"=some (some (.ref f30))) (l30:K.lookup f30=some ⟨oc30,od30,.func (PySem.W.fnOf "alike_of" "alike_of" (defArgs sAlikeOf) (defBody sAlikeOf) (defScope sAlikeOf) .none kV30 dc30 pm30 an30 cd30 ct30),sl30⟩) (c30:PySem.W.codeIn K cd30 "alike_of"=true) (k30:PySem.W.keepIn K (.ref f30)=true)
    (a31:PySem.W.nsIn K mainGlobals "name_told"=some (some (.ref f31))) (l31:K.lookup f31=some ⟨oc31,od31,.func (PySem.W.fnOf "name_told" "name_told" (defArgs sNameTold) (defBody sNameTold) (defScope sNameTold) .none kV31 dc31 pm31 an31 cd31 ct31),sl31⟩) (c31:PySem.W.codeIn K cd31 "name_told"=true) (k31:PySem.W.keepIn K (.ref f31)=true)
    (a32:PySem.W.nsIn K mainGlobals "may_be_alike"=some (some (.ref f32))) (l32:K.lookup f32=some ⟨oc32,od32,.func (PySem.W.fnOf "may_be_alike" "may_be_alike" (defArgs sMayBeAlike) (defBody sMayBeAlike) (defScope sMayBeAlike) .none kV32 dc32 pm32 an32 cd32 ct32),sl32⟩) (c32:PySem.W.codeIn K cd32 "may_be_alike"=true) (k32:PySem.W.keepIn K (.ref f32)=true)
    (a33:PySem.W.nsIn K mainGlobals "is_amiss"=some (some (.ref f33))) (l33:K.lookup f33=some ⟨oc33,od33,.func (PySem.W.fnOf "is_amiss" "is_amiss" (defArgs sIsAmiss) (defBody sIsAmiss) (defScope sIsAmiss) .none kV33 dc33 pm33 an33 cd33 ct33),sl33⟩) (c33:PySem.W.codeIn K cd33 "is_amiss"=true) (k33:PySem.W.keepIn K (.ref f33)=true)
    (a34:PySem.W.findIn K (.ref CT) "__init__"=some (some (.ref f34))) (i34:PySem.W.isFn K (.ref f34)=true) (l34:K.lookup f34=some ⟨oc34,od34,.func (PySem.W.fnOf "__init__" "BadBox.__init__" (defArgs sBadboxInit) (defBody sBadboxInit) (defScope sBadboxInit) .none kV34 dc34 pm34 an34 cd34 ct34),sl34⟩) (c34:PySem.W.codeIn K cd34 "BadBox.__init__"=true) (k34:PySem.W.keepIn K (.ref f34)=true)
    (a35:PySem.W.nsIn K mainGlobals "look_through"=some (some (.ref f35))) (l35:K.lookup f35=some ⟨oc35,od35,.func (PySem.W.fnOf "look_through" "look_through" (defArgs sLookThrough) (defBody sLookThrough) (defScope sLookThrough) .none kV35 dc35 pm35 an35 cd35 ct35),sl35⟩) (c35:PySem.W.codeIn K cd35 "look_through"=true) (k35:PySem.W.keepIn K (.ref f35)=true)
    (a36:PySem.W.nsIn K mainGlobals "check_tree"=some (some (.ref f36))) (l36:K.lookup f36=some ⟨oc36,od36,.func (PySem.W.fnOf "check_tree" "check_tree" (defArgs sCheckTree) (defBody sCheckTree) (defScope sCheckTree) .none kV36 dc36 pm36 an36 cd36 ct36),sl36⟩) (c36:PySem.W.codeIn K cd36 "check_tree"=true) (k36:PySem.W.keepIn K (.ref f36)=true)
    (a37:PySem.W.nsIn K mainGlobals "_law_at"=some (some (.ref f37))) (l37:K.lookup f37=some ⟨oc37,od37,.func (PySem.W.fnOf "_law_at" "_law_at" (defArgs sAt) (defBody sAt) (defScope sAt) .none kV37 dc37 pm37 an37 cd37 ct37),sl37⟩) (c37:PySem.W.codeIn K cd37 "_law_at"=true) (k37:PySem.W.keepIn K (.ref f37)=true)
    (a38:PySem.W.nsIn K mainGlobals "_law_mixed"=some (some (.ref f38))) (l38:K.lookup f38=some ⟨oc38,od38,.func (PySem.W.fnOf "_law_mixed" "_law_mixed" (defArgs sMixed) (defBody sMixed) (defScope sMixed) .none kV38 dc38 pm38 an38 cd38 ct38),sl38⟩) (c38:PySem.W.codeIn K cd38 "_law_mixed"=true) (k38:PySem.W.keepIn K (.ref f38)=true)
    (a39:PySem.W.nsIn K mainGlobals "_law_draws"=some (some (.ref f39))) (l39:K.lookup f39=some ⟨oc39,od39,.func (PySem.W.fnOf "_law_draws" "_law_draws" (defArgs sDraws) (defBody sDraws) (defScope sDraws) .none kV39 dc39 pm39 an39 cd39 ct39),sl39⟩) (c39:PySem.W.codeIn K cd39 "_law_draws"=true) (k39:PySem.W.keepIn K (.ref f39)=true)
    (a40:PySem.W.nsIn K mainGlobals "_law_label"=some (some (.ref f40))) (l40:K.lookup f40=some ⟨oc40,od40,.func (PySem.W.fnOf "_law_label" "_law_label" (defArgs sLabel) (defBody sLabel) (defScope sLabel) .none kV40 dc40 pm40 an40 cd40 ct40),sl40⟩) (c40:PySem.W.codeIn K cd40 "_law_label"=true) (k40:PySem.W.keepIn K (.ref f40)=true)
    (a41:PySem.W.nsIn K mainGlobals "_law_span"=some (some (.ref f41))) (l41:K.lookup f41=some ⟨oc41,od41,.func (PySem.W.fnOf "_law_span" "_law_span" (defArgs sLawSpan) (defBody sLawSpan) (defScope sLawSpan) .none kV41 dc41 pm41 an41 cd41 ct41),sl41⟩) (c41:PySem.W.codeIn K cd41 "_law_span"=true) (k41:PySem.W.keepIn K (.ref f41)=true)
    (a42:PySem.W.nsIn K mainGlobals "_law_own"=some (some (.ref f42))) (l42:K.lookup f42=some ⟨oc42,od42,.func (PySem.W.fnOf "_law_own" "_law_own" (defArgs sLawOwn) (defBody sLawOwn) (defScope sLawOwn) .none kV42 dc42 pm42 an42 cd42 ct42),sl42⟩) (c42:PySem.W.codeIn K cd42 "_law_own"=true) (k42:PySem.W.keepIn K (.ref f42)=true)
    (a43:PySem.W.nsIn K mainGlobals "_law_leaf"=some (some (.ref f43))) (l43:K.lookup f43=some ⟨oc43,od43,.func (PySem.W.fnOf "_law_leaf" "_law_leaf" (defArgs sLawLeaf) (defBody sLawLeaf) (defScope sLawLeaf) .none kV43 dc43 pm43 an43 cd43 ct43),sl43⟩) (c43:PySem.W.codeIn K cd43 "_law_leaf"=true) (k43:PySem.W.keepIn K (.ref f43)=true)
    (a44:PySem.W.nsIn K mainGlobals "_law_within"=some (some (.ref f44))) (l44:K.lookup f44=some ⟨oc44,od44,.func (PySem.W.fnOf "_law_within" "_law_within" (defArgs sLawWithin) (defBody sLawWithin) (defScope sLawWithin) .none kV44 dc44 pm44 an44 cd44 ct44),sl44⟩) (c44:PySem.W.codeIn K cd44 "_law_within"=true) (k44:PySem.W.keepIn K (.ref f44)=true)
    (a45:PySem.W.nsIn K mainGlobals "_law_step"=some (some (.ref f45))) (l45:K.lookup f45=some ⟨oc45,od45,.func (PySem.W.fnOf "_law_step" "_law_step" (defArgs sLawStep) (defBody sLawStep) (defScope sLawStep) .none kV45 dc45 pm45 an45 cd45 ct45),sl45⟩) (c45:PySem.W.codeIn K cd45 "_law_step"=true) (k45:PySem.W.keepIn K (.ref f45)=true)
    (a46:PySem.W.nsIn K mainGlobals "_law_tree"=some (some (.ref f46))) (l46:K.lookup f46=some ⟨oc46,od46,.func (PySem.W.fnOf "_law_tree" "_law_tree" (defArgs sLawTree) (defBody sLawTree) (defScope sLawTree) .none kV46 dc46 pm46 an46 cd46 ct46),sl46⟩) (c46:PySem.W.codeIn K cd46 "_law_tree"=true) (k46:PySem.W.keepIn K (.ref f46)=true)
    (a47:PySem.W.nsIn K mainGlobals "_law_boxes"=some (some (.ref f47))) (l47:K.lookup f47=some ⟨oc47,od47,.func (PySem.W.fnOf "_law_boxes" "_law_boxes" (defArgs sLawBoxes) (defBody sLawBoxes) (defScope sLawBoxes) .none kV47 dc47 pm47 an47 cd47 ct47),sl47⟩) (c47:PySem.W.codeIn K cd47 "_law_boxes"=true) (k47:PySem.W.keepIn K (.ref f47)=true)
    (a48:PySem.W.nsIn K mainGlobals "_law_named"=some (some (.ref f48))) (l48:K.lookup f48=some ⟨oc48,od48,.func (PySem.W.fnOf "_law_named" "_law_named" (defArgs sLawNamed) (defBody sLawNamed) (defScope sLawNamed) .none kV48 dc48 pm48 an48 cd48 ct48),sl48⟩) (c48:PySem.W.codeIn K cd48 "_law_named"=true) (k48:PySem.W.keepIn K (.ref f48)=true)
    (a49:PySem.W.nsIn K mainGlobals "_law_bent_own"=some (some (.ref f49))) (l49:K.lookup f49=some ⟨oc49,od49,.func (PySem.W.fnOf "_law_bent_own" "_law_bent_own" (defArgs sLawBentOwn) (defBody sLawBentOwn) (defScope sLawBentOwn) .none kV49 dc49 pm49 an49 cd49 ct49),sl49⟩) (c49:PySem.W.codeIn K cd49 "_law_bent_own"=true) (k49:PySem.W.keepIn K (.ref f49)=true)
    (a50:PySem.W.nsIn K mainGlobals "_law_bent"=some (some (.ref f50))) (l50:K.lookup f50=some ⟨oc50,od50,.func (PySem.W.fnOf "_law_bent" "_law_bent" (defArgs sLawBent) (defBody sLawBent) (defScope sLawBent) .none kV50 dc50 pm50 an50 cd50 ct50),sl50⟩) (c50:PySem.W.codeIn K cd50 "_law_bent"=true) (k50:PySem.W.keepIn K (.ref f50)=true)
    (a51:PySem.W.nsIn K mainGlobals "_law_kept"=some (some (.ref f51))) (l51:K.lookup f51=some ⟨oc51,od51,.func (PySem.W.fnOf "_law_kept" "_law_kept" (defArgs sLawKept) (defBody sLawKept) (defScope sLawKept) .none kV51 dc51 pm51 an51 cd51 ct51),sl51⟩) (c51:PySem.W.codeIn K cd51 "_law_kept"=true) (k51:PySem.W.keepIn K (.ref f51)=true)
    (a52:PySem.W.nsIn K mainGlobals "_law_refused"=some (some (.ref f52))) (l52:K.lookup f52=some ⟨oc52,od52,.func (PySem.W.fnOf "_law_refused" "_law_refused" (defArgs sLawRefused) (defBody sLawRefused) (defScope sLawRefused) .none kV52 dc52 pm52 an52 cd52 ct52),sl52⟩) (c52:PySem.W.codeIn K cd52 "_law_refused"=true) (k52:PySem.W.keepIn K (.ref f52)=true)
    (a53:PySem.W.nsIn K mainGlobals "law"=some (some (.ref f53))) (l53:K.lookup f53=some ⟨oc53,od53,.func (PySem.W.fnOf "law" "law" (defArgs sLaw) (defBody sLaw) (defScope sLaw) .none kV53 dc53 pm53 an53 cd53 ct53),sl53⟩) (c53:PySem.W.codeIn K cd53 "law"=true) (k53:PySem.W.keepIn K (.ref f53)=true)
    (a54:PySem.W.nsIn K mainGlobals "is_words_what"=some (some (.ref f54))) (l54:K.lookup f54=some ⟨oc54,od54,.func (PySem.W.fnOf "is_words_what" "is_words_what" (defArgs sIsWordsWhat) (defBody sIsWordsWhat) (defScope sIsWordsWhat) .none kV54 dc54 pm54 an54 cd54 ct54),sl54⟩) (c54:PySem.W.codeIn K cd54 "is_words_what"=true) (k54:PySem.W.keepIn K (.ref f54)=true)
    (a55:PySem.W.nsIn K mainGlobals "is_flow_what"=some (some (.ref f55))) (l55:K.lookup f55=some ⟨oc55,od55,.func (PySem.W.fnOf "is_flow_what" "is_flow_what" (defArgs sIsFlowWhat) (defBody sIsFlowWhat) (defScope sIsFlowWhat) .none kV55 dc55 pm55 an55 cd55 ct55),sl55⟩) (c55:PySem.W.codeIn K cd55 "is_flow_what"=true) (k55:PySem.W.keepIn K (.ref f55)=true)
    (a56:PySem.W.nsIn K mainGlobals "is_over_what"=some (some (.ref f56))) (l56:K.lookup f56=some ⟨oc56,od56,.func (PySem.W.fnOf "is_over_what" "is_over_what" (defArgs sIsOverWhat) (defBody sIsOverWhat) (defScope sIsOverWhat) .none kV56 dc56 pm56 an56 cd56 ct56),sl56⟩) (c56:PySem.W.codeIn K cd56 "is_over_what"=true) (k56:PySem.W.keepIn K (.ref f56)=true)
    (xtov:excOver K CT=true)
    (xtsa:PySem.W.findIn K (.ref CT) "__setattr__"=some (some (.builtin "object.__setattr__")))
    (xtga:PySem.W.findIn K (.ref CT) "__getattribute__"=some (some (.builtin "BaseException.__getattribute__")))
    (xtgt:PySem.W.findIn K (.ref CT) "__getattr__"=some none)
    (xtmb:PySem.W.mroIn K CT (.type "BaseException")=some true)
    (xtmo:PySem.W.mroIn K CT (.type "object")=some true)
    (xtcl:PySem.W.findIn K (.ref CT) "__class__"=some (some (.builtin "object.__class__")))
    (xttp:PySem.W.instIn K (.ref CT) (.type "tuple")=some false)
    (xtkp:PySem.W.keepIn K (.ref CT)=true)
    (xbov:excOver K CB=true)
    (xbmb:PySem.W.mroIn K CB (.type "BaseException")=some true)
    (xbtp:PySem.W.instIn K (.ref CB) (.type "tuple")=some false)
    (xcg:PySem.W.specialIn K (.builtin "object.__class__") "__get__"=some (some (.builtin "getset_descriptor.__get__")))
    (xct:PySem.W.takesIn K (.builtin "object.__class__")=some true)
    (xow:ownIn K CT f34=true)
    (xhd:PySem.W.hasDictIn K CT=true)
    (xnm:PySem.W.findIn K (.ref CT) "name"=some none)
    (xtb:PySem.W.mroIn K CT (.ref CB)=some true)
    (xtt:PySem.W.kitOne K (.ref CT) (.ref CT)=some true)
    (xno:PySem.W.kitAny K (.ref CT) [.ref C1,.ref C2,.ref C3,.ref C4,.ref C5,.ref C6,.ref C7,.ref C8,.ref C9,.ref C10]=some false)
    (xn2:PySem.W.kitAny K (.ref CT) [.ref C11,.ref C12,.ref C13,.ref C14]=some false)
    (xkv:PySem.W.kitOne K (.ref CT) (.type "ValueError")=some true)
    (kq0:PySem.W.nsIn K mainGlobals "ANCHOR_FARTHEST"=some (some (.int 1000000 tk0)))
    (kq1:PySem.W.nsIn K mainGlobals "OVER_PARTS"=some (some (.int 12 tk1)))
    (kq2:PySem.W.nsIn K mainGlobals "JOINT_MOST"=some (some (.int 999 tk2)))
    (kq3:PySem.W.nsIn K mainGlobals "PIECE_LONGEST"=some (some (.int 12 tk3)))
    (kq4:PySem.W.nsIn K mainGlobals "WORD_PIECES"=some (some (.int 6 tk4)))
    (kq5:PySem.W.nsIn K mainGlobals "WORDS_PIECES"=some (some (.int 60 tk5)))
    (kq6:PySem.W.nsIn K mainGlobals "FLOW_PARTS"=some (some (.int 12 tk6)))
    (kq7:PySem.W.nsIn K mainGlobals "FIRST_SIGN"=some (some (.int 33 tk7)))
    (kq8:PySem.W.nsIn K mainGlobals "LAST_SIGN"=some (some (.int 126 tk8)))
    (kq9:PySem.W.nsIn K mainGlobals "PERCENT_SIGN"=some (some (.int 37 tk9)))
    (kq10:PySem.W.nsIn K mainGlobals "BAR_SIGN"=some (some (.int 124 tk10)))
    (kq11:PySem.W.nsIn K mainGlobals "NAME_LONGEST"=some (some (.int 8 tk11)))
    (kq12:PySem.W.nsIn K mainGlobals "SIZE_MOST"=some (some (.int 1000000 tk12)))
    (kq13:PySem.W.nsIn K mainGlobals "WEIGHT_MOST"=some (some (.int 99 tk13)))
    (kq14:PySem.W.nsIn K mainGlobals "RANK_MOST"=some (some (.int 9 tk14)))
    (kq15:PySem.W.nsIn K mainGlobals "ALIKE_MOST"=some (some (.int 9 tk15)))
    (kq16:PySem.W.nsIn K mainGlobals "LINED_PARTS"=some (some (.int 20 tk16)))
    (kq17:PySem.W.nsIn K mainGlobals "GAP_MOST"=some (some (.int 1000 tk17)))
    (kq18:PySem.W.nsIn K mainGlobals "TABLE_PARTS"=some (some (.int 40 tk18)))
    (kq19:PySem.W.nsIn K mainGlobals "TABLE_COLUMNS"=some (some (.int 12 tk19)))
    (kq20:PySem.W.nsIn K mainGlobals "SPAN_MOST"=some (some (.int 12 tk20)))
    (kq21:PySem.W.nsIn K mainGlobals "BOXES_MOST"=some (some (.int 60 tk21)))
    (kq22:PySem.W.nsIn K mainGlobals "DEEPEST"=some (some (.int 8 tk22)))
    (kq23:PySem.W.nsIn K mainGlobals "TABLE_ROWS"=some (some (.int 60 tk23)))
    (tq0:PySem.W.nsIn K mainGlobals "ANCHOR_WORDS"=some (some (.ref ad0))) (lq0:K.lookup ad0=some ⟨.type "tuple",oda0,.seq #[.str "start" tk24,.str "mid" tk25,.str "mid2" tk26,.str "end" tk27] na0,sla0⟩)
    (tq1:PySem.W.nsIn K mainGlobals "SIDES"=some (some (.ref ad1))) (lq1:K.lookup ad1=some ⟨.type "tuple",oda1,.seq #[.str "left" tk28,.str "right" tk29] na1,sla1⟩)
    (tq2:PySem.W.nsIn K mainGlobals "LINED"=some (some (.ref ad2))) (lq2:K.lookup ad2=some ⟨.type "tuple",oda2,.seq #[.str "row" tk30,.str "column" tk31,.str "wrap" tk32] na2,sla2⟩)
    (tq3:PySem.W.nsIn K mainGlobals "ALIGNS"=some (some (.ref ad3))) (lq3:K.lookup ad3=some ⟨.type "tuple",oda3,.seq #[.str "start" tk33,.str "end" tk34,.str "mid" tk35,.str "mid2" tk36] na3,sla3⟩)
    (tq4:PySem.W.nsIn K mainGlobals "ALIKE_KINDS"=some (some (.ref ad4))) (lq4:K.lookup ad4=some ⟨.type "tuple",oda4,.seq #[.str "leaf" tk37,.str "row" tk38,.str "column" tk39,.str "wrap" tk40] na4,sla4⟩)
    (z0:PySem.W.nsIn K mainGlobals "len"=some none) (z1:PySem.W.nsIn K mainGlobals "max"=some none) (z2:PySem.W.nsIn K mainGlobals "list"=some none) (z3:PySem.W.nsIn K mainGlobals "int"=some none) (z4:PySem.W.nsIn K mainGlobals "isinstance"=some none) (z5:PySem.W.nsIn K mainGlobals "range"=some none) (z6:PySem.W.nsIn K mainGlobals "all"=some none) (z7:PySem.W.nsIn K mainGlobals "bool"=some none) (z8:PySem.W.nsIn K mainGlobals "sum"=some none) (z9:PySem.W.nsIn K mainGlobals "zip"=some none) (z10:PySem.W.nsIn K mainGlobals "str"=some none) (z11:PySem.W.nsIn K mainGlobals "tuple"=some none) (z12:PySem.W.nsIn K mainGlobals "ord"=some none) (z13:PySem.W.nsIn K mainGlobals "enumerate"=some none) (z14:PySem.W.nsIn K mainGlobals "any"=some none) (z15:PySem.W.nsIn K mainGlobals "ValueError"=some none) :
    ∃ fd:FuncData,(∀ (s:Shared) (v:Value),BindsTo s fd ⟨[v],[]⟩ [("_law_script",v)])∧∀ base:Heap,K.In base→base.Ns mainGlobals mg→FnOk l.prog w K mg base CX0 27 fa fd ["_law_script"] (spLaw K):=by
  have e:=hfa.symm.trans (PySem.W.mg_of X G a53)
  cases e
  have N:Names mg:=⟨PySem.W.mg_none_of X G z0,PySem.W.mg_none_of X G z1,PySem.W.mg_none_of X G z2,PySem.W.mg_none_of X G z3,PySem.W.mg_none_of X G z4,PySem.W.mg_none_of X G z5,PySem.W.mg_none_of X G z6,PySem.W.mg_none_of X G z7,PySem.W.mg_none_of X G z8,PySem.W.mg_none_of X G z9,PySem.W.mg_none_of X G z10,PySem.W.mg_none_of X G z11,PySem.W.mg_none_of X G z12,PySem.W.mg_none_of X G z13,PySem.W.mg_none_of X G z14⟩
  have nve:=PySem.W.mg_none_of X G z15
  have mCB:=PySem.W.mg_of X G aCB
  have mCT:=PySem.W.mg_of X G aCT
  have mC1:=PySem.W.mg_of X G aC1
  have mC2:=PySem.W.mg_of X G aC2
  have mC3:=PySem.W.mg_of X G aC3
  have mC4:=PySem.W.mg_of X G aC4
  have mC5:=PySem.W.mg_of X G aC5
  have mC6:=PySem.W.mg_of X G aC6
  have mC7:=PySem.W.mg_of X G aC7
  have mC8:=PySem.W.mg_of X G aC8
  have mC9:=PySem.W.mg_of X G aC9
  have mC10:=PySem.W.mg_of X G aC10
  have mC11:=PySem.W.mg_of X G aC11
  have mC12:=PySem.W.mg_of X G aC12
  have mC13:=PySem.W.mg_of X G aC13
  have mC14:=PySem.W.mg_of X G aC14
  have CC:Cst K mg (fun i=>[tk0,tk1,tk2,tk3,tk4,tk5,tk6,tk7,tk8,tk9,tk10,tk11,tk12,tk13,tk14,tk15,tk16,tk17,tk18,tk19,tk20,tk21,tk22,tk23].getD i tk0) (fun i=>[ad0,ad1,ad2,ad3,ad4].getD i 0):=⟨PySem.W.mg_of X G kq0,PySem.W.mg_of X G kq1,PySem.W.mg_of X G kq2,PySem.W.mg_of X G kq3,PySem.W.mg_of X G kq4,PySem.W.mg_of X G kq5,PySem.W.mg_of X G kq6,PySem.W.mg_of X G kq7,PySem.W.mg_of X G kq8,PySem.W.mg_of X G kq9,PySem.W.mg_of X G kq10,PySem.W.mg_of X G kq11,PySem.W.mg_of X G kq12,PySem.W.mg_of X G kq13,PySem.W.mg_of X G kq14,PySem.W.mg_of X G kq15,PySem.W.mg_of X G kq16,PySem.W.mg_of X G kq17,PySem.W.mg_of X G kq18,PySem.W.mg_of X G kq19,PySem.W.mg_of X G kq20,PySem.W.mg_of X G kq21,PySem.W.mg_of X G kq22,PySem.W.mg_of X G kq23,PySem.W.mg_of X G tq0,fun H=>.inr ⟨_,_,_,lq0,rfl,rfl,smallE (by show 4 ≤ 100000; decide),.cons ⟨_,rfl⟩ (.cons ⟨_,rfl⟩ (.cons ⟨_,rfl⟩ (.cons ⟨_,rfl⟩ .nil)))⟩,PySem.W.mg_of X G tq1,fun H=>.inr ⟨_,_,_,lq1,rfl,rfl,smallE (by show 2 ≤ 100000; decide),.cons ⟨_,rfl⟩ (.cons ⟨_,rfl⟩ .nil)⟩,PySem.W.mg_of X G tq2,fun H=>.inr ⟨_,_,_,lq2,rfl,rfl,smallE (by show 3 ≤ 100000; decide),.cons ⟨_,rfl⟩ (.cons ⟨_,rfl⟩ (.cons ⟨_,rfl⟩ .nil))⟩,PySem.W.mg_of X G tq3,fun H=>.inr ⟨_,_,_,lq3,rfl,rfl,smallE (by show 4 ≤ 100000; decide),.cons ⟨_,rfl⟩ (.cons ⟨_,rfl⟩ (.cons ⟨_,rfl⟩ (.cons ⟨_,rfl⟩ .nil)))⟩,PySem.W.mg_of X G tq4,fun H=>.inr ⟨_,_,_,lq4,rfl,rfl,smallE (by show 4 ≤ 100000; decide),.cons ⟨_,rfl⟩ (.cons ⟨_,rfl⟩ (.cons ⟨_,rfl⟩ (.cons ⟨_,rfl⟩ .nil)))⟩⟩
  have F1:=fun_mk (st:=sIsWhole) l1 c1 k1
  have b1:=F1.binds (ps:=["thing"]) fun _ _ _ _ _ _ us hl=>by obtain ⟨u0,rfl⟩:=us1 hl; rfl
  have m1:=PySem.W.mg_of X G a1
  have F2:=fun_mk (st:=sIsBetween) l2 c2 k2
  have b2:=F2.binds (ps:=["thing","least","most"]) fun _ _ _ _ _ _ us hl=>by obtain ⟨u0,u1,u2,rfl⟩:=us3 hl; rfl
  have m2:=PySem.W.mg_of X G a2
  have F3:=fun_mk (st:=sIsTupleOf) l3 c3 k3
  have b3:=F3.binds (ps:=["thing","many"]) fun _ _ _ _ _ _ us hl=>by obtain ⟨u0,u1,rfl⟩:=us2 hl; rfl
  have m3:=PySem.W.mg_of X G a3
  have F4:=fun_mk (st:=sKindOf) l4 c4 k4
  have b4:=F4.binds (ps:=["box"]) fun _ _ _ _ _ _ us hl=>by obtain ⟨u0,rfl⟩:=us1 hl; rfl
  have m4:=PySem.W.mg_of X G a4
  have F5:=fun_mk (st:=sNameOf) l5 c5 k5
  have b5:=F5.binds (ps:=["box"]) fun _ _ _ _ _ _ us hl=>by obtain ⟨u0,rfl⟩:=us1 hl; rfl
  have m5:=PySem.W.mg_of X G a5
  have F6:=fun_mk (st:=sOwnOf) l6 c6 k6
  have b6:=F6.binds (ps:=["box"]) fun _ _ _ _ _ _ us hl=>by obtain ⟨u0,rfl⟩:=us1 hl; rfl
  have m6:=PySem.W.mg_of X G a6
  have F7:=fun_mk (st:=sWhatOf) l7 c7 k7
  have b7:=F7.binds (ps:=["box"]) fun _ _ _ _ _ _ us hl=>by obtain ⟨u0,rfl⟩:=us1 hl; rfl
  have m7:=PySem.W.mg_of X G a7
  have F8:=fun_mk (st:=sPartsOf) l8 c8 k8
  have b8:=F8.binds (ps:=["box"]) fun _ _ _ _ _ _ us hl=>by obtain ⟨u0,rfl⟩:=us1 hl; rfl
  have m8:=PySem.W.mg_of X G a8
  have F9:=fun_mk (st:=sIsSize) l9 c9 k9
  have b9:=F9.binds (ps:=["thing"]) fun _ _ _ _ _ _ us hl=>by obtain ⟨u0,rfl⟩:=us1 hl; rfl
  have m9:=PySem.W.mg_of X G a9
  have F10:=fun_mk (st:=sIsGap) l10 c10 k10
  have b10:=F10.binds (ps:=["thing"]) fun _ _ _ _ _ _ us hl=>by obtain ⟨u0,rfl⟩:=us1 hl; rfl
  have m10:=PySem.W.mg_of X G a10
  have F11:=fun_mk (st:=sIsBounds) l11 c11 k11
  have b11:=F11.binds (ps:=["thing"]) fun _ _ _ _ _ _ us hl=>by obtain ⟨u0,rfl⟩:=us1 hl; rfl
  have m11:=PySem.W.mg_of X G a11
  have F12:=fun_mk (st:=sIsOwn) l12 c12 k12
  have b12:=F12.binds (ps:=["thing"]) fun _ _ _ _ _ _ us hl=>by obtain ⟨u0,rfl⟩:=us1 hl; rfl
  have m12:=PySem.W.mg_of X G a12
  have F13:=fun_mk (st:=sIsName) l13 c13 k13
  have b13:=F13.binds (ps:=["thing"]) fun _ _ _ _ _ _ us hl=>by obtain ⟨u0,rfl⟩:=us1 hl; rfl
  have m13:=PySem.W.mg_of X G a13
  have F14:=fun_mk (st:=sIsSide) l14 c14 k14
  have b14:=F14.binds (ps:=["thing"]) fun _ _ _ _ _ _ us hl=>by obtain ⟨u0,rfl⟩:=us1 hl; rfl
  have m14:=PySem.W.mg_of X G a14
  have F15:=fun_mk (st:=sIsAlign) l15 c15 k15
  have b15:=F15.binds (ps:=["thing"]) fun _ _ _ _ _ _ us hl=>by obtain ⟨u0,rfl⟩:=us1 hl; rfl
  have m15:=PySem.W.mg_of X G a15
  have F16:=fun_mk (st:=sIsLeafWhat) l16 c16 k16
  have b16:=F16.binds (ps:=["what","many"]) fun _ _ _ _ _ _ us hl=>by obtain ⟨u0,u1,rfl⟩:=us2 hl; rfl
  have m16:=PySem.W.mg_of X G a16
  have F17:=fun_mk (st:=sIsLinedWhat) l17 c17 k17
  have b17:=F17.binds (ps:=["what","many"]) fun _ _ _ _ _ _ us hl=>by obtain ⟨u0,u1,rfl⟩:=us2 hl; rfl
  have m17:=PySem.W.mg_of X G a17
  have F18:=fun_mk (st:=sIsSpan) l18 c18 k18
  have b18:=F18.binds (ps:=["thing","columns"]) fun _ _ _ _ _ _ us hl=>by obtain ⟨u0,u1,rfl⟩:=us2 hl; rfl
  have m18:=PySem.W.mg_of X G a18
  have F19:=fun_mk (st:=sIsTableWhat) l19 c19 k19
  have b19:=F19.binds (ps:=["what","many"]) fun _ _ _ _ _ _ us hl=>by obtain ⟨u0,u1,rfl⟩:=us2 hl; rfl
  have m19:=PySem.W.mg_of X G a19
  have F20:=fun_mk (st:=sIsWhat) l20 c20 k20
  have b20:=F20.binds (ps:=["kind","what","many"]) fun _ _ _ _ _ _ us hl=>by obtain ⟨u0,u1,u2,rfl⟩:=us3 hl; rfl
  have m20:=PySem.W.mg_of X G a20
  have F21:=fun_mk (st:=sIsBox) l21 c21 k21
  have b21:=F21.binds (ps:=["thing"]) fun _ _ _ _ _ _ us hl=>by obtain ⟨u0,rfl⟩:=us1 hl; rfl
  have m21:=PySem.W.mg_of X G a21
  have F22:=fun_mk (st:=sFree) l22 c22 k22
  have b22:=F22.binds (ps:=["taken","row","column","span"]) fun _ _ _ _ _ _ us hl=>by obtain ⟨u0,u1,u2,u3,rfl⟩:=us4 hl; rfl
  have m22:=PySem.W.mg_of X G a22
  have F23:=fun_mk (st:=sFirst) l23 c23 k23
  have b23:=F23.binds (ps:=["taken","columns","span"]) fun _ _ _ _ _ _ us hl=>by obtain ⟨u0,u1,u2,rfl⟩:=us3 hl; rfl
  have m23:=PySem.W.mg_of X G a23
  have F24:=fun_mk (st:=sTakeC) l24 c24 k24
  have b24:=F24.binds (ps:=["taken","place","span"]) fun _ _ _ _ _ _ us hl=>by obtain ⟨u0,u1,u2,rfl⟩:=us3 hl; rfl
  have m24:=PySem.W.mg_of X G a24
  have F25:=fun_mk (st:=sPut) l25 c25 k25
  have b25:=F25.binds (ps:=["columns","spans"]) fun _ _ _ _ _ _ us hl=>by obtain ⟨u0,u1,rfl⟩:=us2 hl; rfl
  have m25:=PySem.W.mg_of X G a25
  have F26:=fun_mk (st:=sSpansOf) l26 c26 k26
  have b26:=F26.binds (ps:=["box"]) fun _ _ _ _ _ _ us hl=>by obtain ⟨u0,rfl⟩:=us1 hl; rfl
  have m26:=PySem.W.mg_of X G a26
  have F27:=fun_mk (st:=sRowsTaken) l27 c27 k27
  have b27:=F27.binds (ps:=["places","spans"]) fun _ _ _ _ _ _ us hl=>by obtain ⟨u0,u1,rfl⟩:=us2 hl; rfl
  have m27:=PySem.W.mg_of X G a27
  have F28:=fun_mk (st:=sCellsOf) l28 c28 k28
  have b28:=F28.binds (ps:=["box"]) fun _ _ _ _ _ _ us hl=>by obtain ⟨u0,rfl⟩:=us1 hl; rfl
  have m28:=PySem.W.mg_of X G a28
  have F29:=fun_mk (st:=sTableRows) l29 c29 k29
  have b29:=F29.binds (ps:=["box"]) fun _ _ _ _ _ _ us hl=>by obtain ⟨u0,rfl⟩:=us1 hl; rfl
  have m29:=PySem.W.mg_of X G a29
  have F30:=fun_mk (st:=sAlikeOf) l30 c30 k30
  have b30:=F30.binds (ps:=["box"]) fun _ _ _ _ _ _ us hl=>by obtain ⟨u0,rfl⟩:=us1 hl; rfl
  have m30:=PySem.W.mg_of X G a30
  have F31:=fun_mk (st:=sNameTold) l31 c31 k31
  have b31:=F31.binds (ps:=["thing"]) fun _ _ _ _ _ _ us hl=>by obtain ⟨u0,rfl⟩:=us1 hl; rfl
  have m31:=PySem.W.mg_of X G a31
  have F32:=fun_mk (st:=sMayBeAlike) l32 c32 k32
  have b32:=F32.binds (ps:=["box","in_table"]) fun _ _ _ _ _ _ us hl=>by obtain ⟨u0,u1,rfl⟩:=us2 hl; rfl
  have m32:=PySem.W.mg_of X G a32
  have F33:=fun_mk (st:=sIsAmiss) l33 c33 k33
  have b33:=F33.binds (ps:=["thing","depth","in_table","names"]) fun _ _ _ _ _ _ us hl=>by obtain ⟨u0,u1,u2,u3,rfl⟩:=us4 hl; rfl
  have m33:=PySem.W.mg_of X G a33
  have F34:=fun_mk (st:=sBadboxInit) l34 c34 k34
  have b34:=F34.binds (ps:=["self","name"]) fun _ _ _ _ _ _ us hl=>by obtain ⟨u0,u1,rfl⟩:=us2 hl; rfl
  have F35:=fun_mk (st:=sLookThrough) l35 c35 k35
  have b35:=F35.binds (ps:=["thing","depth","in_table","names"]) fun _ _ _ _ _ _ us hl=>by obtain ⟨u0,u1,u2,u3,rfl⟩:=us4 hl; rfl
  have m35:=PySem.W.mg_of X G a35
  have F36:=fun_mk (st:=sCheckTree) l36 c36 k36
  have b36:=F36.binds (ps:=["thing"]) fun _ _ _ _ _ _ us hl=>by obtain ⟨u0,rfl⟩:=us1 hl; rfl
  have m36:=PySem.W.mg_of X G a36
  have F37:=fun_mk (st:=sAt) l37 c37 k37
  have b37:=F37.binds (ps:=["_law_script","_law_k"]) fun _ _ _ _ _ _ us hl=>by obtain ⟨u0,u1,rfl⟩:=us2 hl; rfl
  have m37:=PySem.W.mg_of X G a37
  have F38:=fun_mk (st:=sMixed) l38 c38 k38
  have b38:=F38.binds (ps:=["_law_cell"]) fun _ _ _ _ _ _ us hl=>by obtain ⟨u0,rfl⟩:=us1 hl; rfl
  have m38:=PySem.W.mg_of X G a38
  have F39:=fun_mk (st:=sDraws) l39 c39 k39
  have b39:=F39.binds (ps:=["_law_script","_law_first","_law_many","_law_base"]) fun _ _ _ _ _ _ us hl=>by obtain ⟨u0,u1,u2,u3,rfl⟩:=us4 hl; rfl
  have m39:=PySem.W.mg_of X G a39
  have F40:=fun_mk (st:=sLabel) l40 c40 k40
  have b40:=F40.binds (ps:=["_law_k","_law_cell"]) fun _ _ _ _ _ _ us hl=>by obtain ⟨u0,u1,rfl⟩:=us2 hl; rfl
  have m40:=PySem.W.mg_of X G a40
  have F41:=fun_mk (st:=sLawSpan) l41 c41 k41
  have b41:=F41.binds (ps:=["_law_n"]) fun _ _ _ _ _ _ us hl=>by obtain ⟨u0,rfl⟩:=us1 hl; rfl
  have m41:=PySem.W.mg_of X G a41
  have F42:=fun_mk (st:=sLawOwn) l42 c42 k42
  have b42:=F42.binds (ps:=["_law_n","_law_alike"]) fun _ _ _ _ _ _ us hl=>by obtain ⟨u0,u1,rfl⟩:=us2 hl; rfl
  have m42:=PySem.W.mg_of X G a42
  have F43:=fun_mk (st:=sLawLeaf) l43 c43 k43
  have b43:=F43.binds (ps:=["_law_name","_law_n"]) fun _ _ _ _ _ _ us hl=>by obtain ⟨u0,u1,rfl⟩:=us2 hl; rfl
  have m43:=PySem.W.mg_of X G a43
  have F44:=fun_mk (st:=sLawWithin) l44 c44 k44
  have b44:=F44.binds (ps:=["_law_kind","_law_name","_law_n","_law_some","_law_alike"]) fun _ _ _ _ _ _ us hl=>by obtain ⟨u0,u1,u2,u3,u4,rfl⟩:=us5 hl; rfl
  have m44:=PySem.W.mg_of X G a44
  have F45:=fun_mk (st:=sLawStep) l45 c45 k45
  have b45:=F45.binds (ps:=["_law_stack","_law_n","_law_name"]) fun _ _ _ _ _ _ us hl=>by obtain ⟨u0,u1,u2,rfl⟩:=us3 hl; rfl
  have m45:=PySem.W.mg_of X G a45
  have F46:=fun_mk (st:=sLawTree) l46 c46 k46
  have b46:=F46.binds (ps:=["_law_script","_law_first","_law_many"]) fun _ _ _ _ _ _ us hl=>by obtain ⟨u0,u1,u2,rfl⟩:=us3 hl; rfl
  have m46:=PySem.W.mg_of X G a46
  have F47:=fun_mk (st:=sLawBoxes) l47 c47 k47
  have b47:=F47.binds (ps:=["_law_tree_here"]) fun _ _ _ _ _ _ us hl=>by obtain ⟨u0,rfl⟩:=us1 hl; rfl
  have m47:=PySem.W.mg_of X G a47
  have F48:=fun_mk (st:=sLawNamed) l48 c48 k48
  have b48:=F48.binds (ps:=["_law_tree_here","_law_name","_law_other"]) fun _ _ _ _ _ _ us hl=>by obtain ⟨u0,u1,u2,rfl⟩:=us3 hl; rfl
  have m48:=PySem.W.mg_of X G a48
  have F49:=fun_mk (st:=sLawBentOwn) l49 c49 k49
  have b49:=F49.binds (ps:=["_law_own_here","_law_cell"]) fun _ _ _ _ _ _ us hl=>by obtain ⟨u0,u1,rfl⟩:=us2 hl; rfl
  have m49:=PySem.W.mg_of X G a49
  have F50:=fun_mk (st:=sLawBent) l50 c50 k50
  have b50:=F50.binds (ps:=["_law_box","_law_cell","_law_first"]) fun _ _ _ _ _ _ us hl=>by obtain ⟨u0,u1,u2,rfl⟩:=us3 hl; rfl
  have m50:=PySem.W.mg_of X G a50
  have F51:=fun_mk (st:=sLawKept) l51 c51 k51
  have b51:=F51.binds (ps:=["_law_tree_here"]) fun _ _ _ _ _ _ us hl=>by obtain ⟨u0,rfl⟩:=us1 hl; rfl
  have m51:=PySem.W.mg_of X G a51
  have F52:=fun_mk (st:=sLawRefused) l52 c52 k52
  have b52:=F52.binds (ps:=["_law_tree_here","_law_name"]) fun _ _ _ _ _ _ us hl=>by obtain ⟨u0,u1,rfl⟩:=us2 hl; rfl
  have m52:=PySem.W.mg_of X G a52
  have F53:=fun_mk (st:=sLaw) l53 c53 k53
  have F54:=fun_mk (st:=sIsWordsWhat) l54 c54 k54
  have b54:=F54.binds (ps:=["what","many"]) fun _ _ _ _ _ _ us hl=>by obtain ⟨u0,u1,rfl⟩:=us2 hl; rfl
  have m54:=PySem.W.mg_of X G a54
  have F55:=fun_mk (st:=sIsFlowWhat) l55 c55 k55
  have b55:=F55.binds (ps:=["what","many"]) fun _ _ _ _ _ _ us hl=>by obtain ⟨u0,u1,rfl⟩:=us2 hl; rfl
  have m55:=PySem.W.mg_of X G a55
  have F56:=fun_mk (st:=sIsOverWhat) l56 c56 k56
  have b56:=F56.binds (ps:=["what","many"]) fun _ _ _ _ _ _ us hl=>by obtain ⟨u0,u1,rfl⟩:=us2 hl; rfl
  have m56:=PySem.W.mg_of X G a56
  have eT:ExcC K CT:=⟨xtov,xtsa,xtga,xtgt,xtmb,xtmo,xtcl,xcg,xct⟩
  have cB:CatC K CB:=⟨(PySem.W.any_some xbov).elim fun cd h=>⟨cd,h.1⟩,xbtp,xbmb⟩
  refine ⟨PySem.W.fnOf "law" "law" (defArgs sLaw) (defBody sLaw) (defScope sLaw) .none kV53 dc53 pm53 an53 cd53 ct53,fun s v=>.of_eq rfl,fun base _ _=>?_⟩
  have G_1:=ok_isWhole (P:=l.prog) (w:=w) (mg:=mg) (base:=base) F1 N
  have G_2:=ok_isBetween (P:=l.prog) (w:=w) (mg:=mg) (base:=base) F2 N G_1 b1 m1 k1
  have G_3:=ok_isTupleOf (P:=l.prog) (w:=w) (mg:=mg) (base:=base) F3 N
  have G_4:=ok_kindOf (P:=l.prog) (w:=w) (mg:=mg) (base:=base) F4 N
  have G_5:=ok_nameOf (P:=l.prog) (w:=w) (mg:=mg) (base:=base) F5 N
  have G_6:=ok_ownOf (P:=l.prog) (w:=w) (mg:=mg) (base:=base) F6 N
  have G_7:=ok_whatOf (P:=l.prog) (w:=w) (mg:=mg) (base:=base) F7 N
  have G_8:=ok_partsOf (P:=l.prog) (w:=w) (mg:=mg) (base:=base) F8 N
  have G_9:=ok_isSize (P:=l.prog) (w:=w) (mg:=mg) (base:=base) CC F9 N G_2 b2 m2 k2
  have G_10:=ok_isGap (P:=l.prog) (w:=w) (mg:=mg) (base:=base) CC F10 N G_2 b2 m2 k2
  have G_11:=ok_isBounds (P:=l.prog) (w:=w) (mg:=mg) (base:=base) F11 N G_3 b3 m3 k3 G_9 b9 m9 k9
  have G_12:=ok_isOwn (P:=l.prog) (w:=w) (mg:=mg) (base:=base) CC F12 N G_3 b3 m3 k3 G_11 b11 m11 k11 G_2 b2 m2 k2
  have G_13:=ok_isName (P:=l.prog) (w:=w) (mg:=mg) (base:=base) CC F13 N
  have G_14:=ok_isSide (P:=l.prog) (w:=w) (mg:=mg) (base:=base) CC F14 N
  have G_15:=ok_isAlign (P:=l.prog) (w:=w) (mg:=mg) (base:=base) CC F15 N
  have G_16:=ok_isLeafWhat (P:=l.prog) (w:=w) (mg:=mg) (base:=base) F16 N G_3 b3 m3 k3 G_9 b9 m9 k9
  have G_17:=ok_isLinedWhat (P:=l.prog) (w:=w) (mg:=mg) (base:=base) CC F17 N G_3 b3 m3 k3 G_10 b10 m10 k10 G_15 b15 m15 k15 G_14 b14 m14 k14
  have G_18:=ok_isSpan (P:=l.prog) (w:=w) (mg:=mg) (base:=base) CC F18 N G_3 b3 m3 k3 G_2 b2 m2 k2
  have G_19:=ok_isTableWhat (P:=l.prog) (w:=w) (mg:=mg) (base:=base) CC F19 N G_3 b3 m3 k3 G_2 b2 m2 k2 G_10 b10 m10 k10 G_14 b14 m14 k14 G_18 b18 m18 k18
  have G_20:=ok_isWhat (P:=l.prog) (w:=w) (mg:=mg) (base:=base) CC F20 N G_17 b17 m17 k17 G_16 b16 m16 k16 G_19 b19 m19 k19 fn_none b54 m54 k54 fn_none b55 m55 k55 fn_none b56 m56 k56
  have G_21:=ok_isBox (P:=l.prog) (w:=w) (mg:=mg) (base:=base) F21 N G_3 b3 m3 k3 G_13 b13 m13 k13 G_5 b5 m5 k5 G_12 b12 m12 k12 G_6 b6 m6 k6 G_8 b8 m8 k8 G_20 b20 m20 k20 G_4 b4 m4 k4 G_7 b7 m7 k7
  have G_22:=ok_free (P:=l.prog) (w:=w) (mg:=mg) (base:=base) F22 N
  have G_23:=ok_first (P:=l.prog) (w:=w) (mg:=mg) (base:=base) F23 N G_22 b22 m22 k22
  have G_24:=ok_takeC (P:=l.prog) (w:=w) (mg:=mg) (base:=base) F24 N
  have G_25:=ok_put (P:=l.prog) (w:=w) (mg:=mg) (base:=base) F25 G_23 b23 m23 k23 G_24 b24 m24 k24
  have G_26:=ok_spansOf (P:=l.prog) (w:=w) (mg:=mg) (base:=base) F26 N G_7 b7 m7 k7
  have G_27:=ok_rowsTaken (P:=l.prog) (w:=w) (mg:=mg) (base:=base) F27 N
  have G_28:=ok_cellsOf (P:=l.prog) (w:=w) (mg:=mg) (base:=base) F28 N G_25 b25 m25 k25 G_7 b7 m7 k7 G_26 b26 m26 k26
  have G_29:=ok_tableRows (P:=l.prog) (w:=w) (mg:=mg) (base:=base) F29 N G_27 b27 m27 k27 G_28 b28 m28 k28 G_26 b26 m26 k26
  have G_30:=ok_alikeOf (P:=l.prog) (w:=w) (mg:=mg) (base:=base) F30 N G_6 b6 m6 k6
  have G_31:=ok_nameTold (P:=l.prog) (w:=w) (mg:=mg) (base:=base) F31 N G_3 b3 m3 k3 G_13 b13 m13 k13 G_5 b5 m5 k5
  have G_32:=ok_mayBeAlike (P:=l.prog) (w:=w) (mg:=mg) (base:=base) CC F32 N G_4 b4 m4 k4
  have G_33:=ok_isAmiss (P:=l.prog) (w:=w) (mg:=mg) (base:=base) CC F33 N G_21 b21 m21 k21 G_5 b5 m5 k5 G_30 b30 m30 k30 G_32 b32 m32 k32 G_4 b4 m4 k4 G_29 b29 m29 k29
  have G_34:=ok_bad (P:=l.prog) (w:=w) (mg:=mg) (base:=base) F34 eT xnm
  have G_35:=ok_look (P:=l.prog) (w:=w) (mg:=mg) (base:=base) F35 N b35 m35 k35 xow i34 xtkp mCT G_34 b34 G_33 b33 m33 k33 G_31 b31 m31 k31 G_5 b5 m5 k5 G_8 b8 m8 k8 G_4 b4 m4 k4 12
  have G_36:=ok_check (P:=l.prog) (w:=w) (mg:=mg) (base:=base) F36 G_35 b35 m35 k35
  have G_37:=ok_at (P:=l.prog) (w:=w) (mg:=mg) (base:=base) F37 N
  have G_38:=ok_mixed (P:=l.prog) (w:=w) (mg:=mg) (base:=base) F38
  have G_39:=ok_draws (P:=l.prog) (w:=w) (mg:=mg) (base:=base) F39 N G_37 b37 m37 k37 G_38 b38 m38 k38
  have G_40:=ok_label (P:=l.prog) (w:=w) (mg:=mg) (base:=base) F40 N
  have G_41:=ok_lSpan (P:=l.prog) (w:=w) (mg:=mg) (base:=base) F41 N
  have G_42:=ok_lOwn (P:=l.prog) (w:=w) (mg:=mg) (base:=base) F42 N G_41 b41 m41 k41
  have G_43:=ok_lLeaf (P:=l.prog) (w:=w) (mg:=mg) (base:=base) F43 N G_42 b42 m42 k42
  have G_44:=ok_lWithin (P:=l.prog) (w:=w) (mg:=mg) (base:=base) F44 N G_42 b42 m42 k42
  have G_45:=ok_lStep (P:=l.prog) (w:=w) (mg:=mg) (base:=base) F45 N G_43 b43 m43 k43 G_44 b44 m44 k44
  have G_46:=ok_lTree (P:=l.prog) (w:=w) (mg:=mg) (base:=base) F46 N G_37 b37 m37 k37 G_38 b38 m38 k38 G_39 b39 m39 k39 G_40 b40 m40 k40 G_44 b44 m44 k44 G_45 b45 m45 k45
  have G_47:=ok_lBoxes (P:=l.prog) (w:=w) (mg:=mg) (base:=base) F47 N
  have G_48:=True.intro
  have G_48:=ok_named (P:=l.prog) (w:=w) (mg:=mg) (base:=base) F48 N b48 m48 k48 6
  have G_49:=ok_lBentOwn (P:=l.prog) (w:=w) (mg:=mg) (base:=base) F49 N
  have G_50:=ok_lBent (P:=l.prog) (w:=w) (mg:=mg) (base:=base) F50 N G_49 b49 m49 k49
  have G_51:=ok_kept (P:=l.prog) (w:=w) (mg:=mg) (base:=base) F51 N G_36 b36 m36 k36 mCB cB xtb
  have G_52:=ok_refused (P:=l.prog) (w:=w) (mg:=mg) (base:=base) F52 N nve G_51 b51 m51 k51 mCT mC1 mC2 mC3 mC4 mC5 mC6 mC7 mC8 mC9 mC10 mC11 mC12 mC13 mC14 eT xhd xnm xtt xno xn2 xkv
  exact ok_law (P:=l.prog) (w:=w) (mg:=mg) (base:=base) F53 N G_46 b46 m46 k46 G_47 b47 m47 k47 G_37 b37 m37 k37 G_50 b50 m50 k50 G_48 b48 m48 k48 G_51 b51 m51 k51 G_52 b52 m52 k52
theorem walk {l:PySem.W.OpenLaw} {q:Program} {loose:List Str} {XP:(Str→Option Value)→Heap→Prop} {YP:World→Heap→Prop} {d:DefRec} {K:Params→PySem.W.Frag} (hn:l.most=some 63) (hdf:d.params.defaults=[])
    (hY:∀ (w:World) (h:Heap),YP w h→(K w.params).In h)
    (F:∀ (w:World) (mg:Str→Option Value) (fa:Addr) (h:Heap),(K w.params).In h→h.Ns mainGlobals mg→mg d.name=some (.ref fa) →
      ∃ fd:FuncData,(∀ (s:Shared) (u:Value),BindsTo s fd ⟨[u],[]⟩ [("_law_script",u)])∧∀ base:Heap,(K w.params).In base→base.Ns mainGlobals mg→FnOk l.prog w (K w.params) mg base CX0 27 fa fd ["_law_script"] (spLaw (K w.params))) :
    PySem.W.WalkO q loose XP YP l.row.toRowW d [] (fun f vs=>PySem.call f vs) :=
  L2.walk_of (n:=63) (k:=27) (x:="_law_script") (CX:=fun _=>CX0) (sp:=fun w=>spLaw (K w.params)) hn (by decide) hdf ⟨rfl,by decide,by decide⟩ hY F (fun _ _ a ns hl _ hS=>⟨a,ns,rfl,hS,hl,fun _=>rfl⟩) fun _ _ _ _ _ z=>z
end B06
namespace PySem.W.Fast
theorem tw8069428758757482434:True:=trivial
theorem tw15690025857801382652:True:=trivial
theorem tw3122612698241466563:True:=trivial
theorem tw5453728970517079284:True:=trivial
theorem tw15829956223655499884:True:=trivial
theorem tw2487881547641801819:True:=trivial
theorem tw11345665769280328726:True:=trivial
theorem tw14765177958832685113:True:=trivial
theorem tw3450346527541710627:True:=trivial
theorem tw9028939123323923722:True:=trivial
theorem tw7247766307667844913:True:=trivial
theorem tw203734487040940091:True:=trivial
theorem tw5130988224885100755:True:=trivial
theorem tw15389067204041914947:True:=trivial
theorem tw7980604471104120624:True:=trivial
theorem tw1281402335893273354:True:=trivial
theorem tw14097824219214405611:True:=trivial
theorem tw12544233347690124145:True:=trivial
theorem tw16605830797155577048:True:=trivial
theorem tw16993750825964472855:True:=trivial
theorem tw449607644776494694:True:=trivial
theorem tw7957254628772215373:True:=trivial
theorem tw696336693086187464:True:=trivial
theorem tw3296963727341215955:True:=trivial
theorem tw3502678822765859230:True:=trivial
theorem tw2914719738774870158:True:=trivial
theorem tw7643901516481815094:True:=trivial
theorem tw11489736270549745248:True:=trivial
theorem tw5143476171048318874:True:=trivial
theorem tw14137911356264291345:True:=trivial
theorem tw11372849389446971724:True:=trivial
theorem tw14473646477534206716:True:=trivial
theorem tw6668845761602934920:True:=trivial
theorem tw11034946770053125368:True:=trivial
theorem tw3399437535500811453:True:=trivial
theorem tw13403601836840032541:True:=trivial
theorem tw16127781094587712329:True:=trivial
theorem tw15560949448202568406:True:=trivial
theorem tw18083348680889206040:True:=trivial
theorem tw13843110490630445448:True:=trivial
theorem tw7996137906479313525:True:=trivial
theorem tw1411184126134641024:True:=trivial
theorem tw13636546833115011934:True:=trivial
theorem tw2117405151543154118:True:=trivial
theorem tw1375637171595773077:True:=trivial
theorem tw10331730715273309353:True:=trivial
theorem tw4295691327894389186:True:=trivial
theorem tw7791267035038911737:True:=trivial
theorem tw5652452868169513273:True:=trivial
theorem tw9013092536263404452:True:=trivial
theorem tw1141366466047574325:True:=trivial
theorem tw10999160215421802104:True:=trivial
theorem tw3394000292526442408:True:=trivial
theorem tw12543323429929492064:True:=trivial
theorem tw10020714996411703877:True:=trivial
theorem tw16035662588833812234:True:=trivial
theorem tw6397083562372286038:True:=trivial
theorem tw10663480631656064033:True:=trivial
theorem tw14377410914600048124:True:=trivial
theorem tw7915157839208779942:True:=trivial
theorem tw6044858233940092836:True:=trivial
theorem tw10160126221417076505:True:=trivial
theorem tw5657532453630506061:True:=trivial
theorem tw16805428876343920500:True:=trivial
theorem tw5375502102830947039:True:=trivial
theorem tw15032016604267956982:True:=trivial
theorem tw5790134580080526584:True:=trivial
theorem tw339805009616196464:True:=trivial
theorem tw12991189664806503945:True:=trivial
theorem tw740038606256199204:True:=trivial
theorem tw1270774575774049303:True:=trivial
theorem tw6707082514519601897:True:=trivial
theorem tw5165292983375455785:True:=trivial
theorem tw4849940056725420160:True:=trivial
theorem tw7091785821918847432:True:=trivial
theorem tw2007994791612433448:True:=trivial
theorem tw4567103958310176238:True:=trivial
theorem tw542847685183456816:True:=trivial
theorem tw12282037850584328294:True:=trivial
theorem tw7677647746076170176:True:=trivial
theorem tw8952254432825069170:True:=trivial
theorem tw9853479660543138549:True:=trivial
theorem tw3215764877143214858:True:=trivial
theorem tw5651221270110461401:True:=trivial
theorem tw5353454210189587123:True:=trivial
theorem tw2064279385260470436:True:=trivial
theorem tw9007594628594340576:True:=trivial
theorem tw18193527626146577899:True:=trivial
theorem tw11973860193163072685:True:=trivial
theorem tw17057727872802553514:True:=trivial
theorem tw10367060977181320996:True:=trivial
theorem tw4513732052108159071:True:=trivial
theorem tw10172153156053653745:True:=trivial
theorem tw11029023830225372484:True:=trivial
theorem tw7132165208637532529:True:=trivial
theorem tw15480371459327151168:True:=trivial
theorem tw995583639716736380:True:=trivial
theorem tw16843448308897351290:True:=trivial
theorem tw14844159978766186:True:=trivial
theorem tw5828255384275742837:True:=trivial
theorem tw11159458583633862734:True:=trivial
theorem tw4201667821062276609:True:=trivial
theorem tw6490449728429174697:True:=trivial
theorem tw3138397313719427987:True:=trivial
theorem tw6204088309466396620:True:=trivial
theorem tw5868804074689013821:True:=trivial
theorem tw12067447295620397537:True:=trivial
theorem tw7886439723286799197:True:=trivial
theorem tw4968898367830769615:True:=trivial
theorem tw764636994025836689:True:=trivial
theorem tw4290299530751920990:True:=trivial
theorem tw719520422703808219:True:=trivial
theorem tw15058108684843220908:True:=trivial
theorem tw7845171754464342259:True:=trivial
theorem tw13123352701330491383:True:=trivial
theorem tw8901335970862589190:True:=trivial
theorem tw3851193045534887422:True:=trivial
theorem tw10365123942246299900:True:=trivial
theorem tw5984206233982311073:True:=trivial
theorem tw5692402860054486220:True:=trivial
theorem tw13442447595393236334:True:=trivial
theorem tw1974630341266267232:True:=trivial
theorem tw18142347645987980974:True:=trivial
theorem tw7573493769671311625:True:=trivial
theorem tw2800243014651383059:True:=trivial
theorem tw325981204328115275:True:=trivial
theorem tw14650575087887511225:True:=trivial
theorem tw13813670625495615240:True:=trivial
theorem tw10495886037480623063:True:=trivial
theorem tw10816702511428917027:True:=trivial
theorem tw9768570613852581468:True:=trivial
theorem tw10209803453652066050:True:=trivial
theorem tw17899335785745530110:True:=trivial
theorem tw4814557359348273033:True:=trivial
theorem tw9132263026239104721:True:=trivial
theorem tw5483017058246992043:True:=trivial
theorem tw6799199832667418780:True:=trivial
theorem tw12384606690182550606:True:=trivial
theorem tw8621309958250139606:True:=trivial
theorem tw9936624097458600943:True:=trivial
theorem tw198126675661267311:True:=trivial
theorem tw14143205028718879119:True:=trivial
theorem tw12009244646837922205:True:=trivial
theorem tw4155634988266531905:True:=trivial
theorem tw13816788813452915520:True:=trivial
theorem tw3927571003267376971:True:=trivial
theorem tw5467358043494274260:True:=trivial
theorem tw5677609443659300494:True:=trivial
theorem tw5147197755042441668:True:=trivial
theorem tw129450540362105861:True:=trivial
theorem tw6675794429366989763:True:=trivial
theorem tw2720304731290882278:True:=trivial
theorem tw4020058953067032066:True:=trivial
theorem tw3151399059085576376:True:=trivial
theorem tw4570699733900363494:True:=trivial
theorem tw10766709008390989609:True:=trivial
theorem tw17665098212912006916:True:=trivial
theorem tw12497673546645234886:True:=trivial
theorem tw13521844641135733681:True:=trivial
theorem tw16517557224957197535:True:=trivial
theorem tw2273822426667342395:True:=trivial
theorem tw41695197282384845:True:=trivial
theorem tw6099817356985825126:True:=trivial
theorem tw4276701709683925540:True:=trivial
theorem tw16274933829652382266:True:=trivial
theorem tw3784073734486143999:True:=trivial
theorem tw5537558716913522548:True:=trivial
theorem tw12810661522111861611:True:=trivial
theorem tw6764838705290847196:True:=trivial
theorem tw14676628439016776790:True:=trivial
theorem tw5204907967175474440:True:=trivial
theorem tw7402239400340497206:True:=trivial
theorem tw17011185933512034013:True:=trivial
theorem tw3006235015187404406:True:=trivial
theorem tw3195239726681654036:True:=trivial
theorem tw3819710111892657909:True:=trivial
theorem tw2460926806467574093:True:=trivial
theorem tw8817024559676586607:True:=trivial
theorem tw4964426736789534580:True:=trivial
theorem tw3087829399314105129:True:=trivial
theorem tw8295185423952447741:True:=trivial
theorem tw689652871151254250:True:=trivial
theorem tw14326707279791473369:True:=trivial
theorem tw18202750002777884392:True:=trivial
theorem tw11880072270793101708:True:=trivial
theorem tw8616960855843687177:True:=trivial
theorem tw10407406652919517986:True:=trivial
theorem tw18194658598295219573:True:=trivial
theorem tw14631437634133634711:True:=trivial
theorem tw1947420259740466804:True:=trivial
theorem tw14178283085012469401:True:=trivial
theorem tw18368308885499201187:True:=trivial
theorem tw6292802220421237958:True:=trivial
theorem tw5097626195668266704:True:=trivial
theorem tw17543766033380526933:True:=trivial
theorem tw5287839062519213390:True:=trivial
theorem tw11281470862297983090:True:=trivial
theorem tw4130387316877777224:True:=trivial
theorem tw9223688479257656094:True:=trivial
theorem tw17075503188072308026:True:=trivial
theorem tw8723490695950148053:True:=trivial
theorem tw5488303285779908917:True:=trivial
theorem tw8411436083851965351:True:=trivial
theorem tw5626042455915851156:True:=trivial
theorem tw10971209730676018607:True:=trivial
theorem tw4723589042697581574:True:=trivial
theorem tw4851619282001606471:True:=trivial
theorem tw6317007304459355502:True:=trivial
theorem tw4328485690213495149:True:=trivial
theorem tw8803394755224032340:True:=trivial
theorem tw14665790333258323669:True:=trivial
theorem tw2629196646210767587:True:=trivial
theorem tw11347084650004251892:True:=trivial
theorem tw13501543883474668663:True:=trivial
theorem tw18436989519317671059:True:=trivial
theorem tw5888515249686061183:True:=trivial
theorem tw16823221340158226758:True:=trivial
theorem tw3615396399588205183:True:=trivial
theorem tw8585271593812028576:True:=trivial
theorem tw7620988280990653613:True:=trivial
theorem tw15889983694011598966:True:=trivial
theorem tw11465151299171356390:True:=trivial
theorem tw8398146208731829949:True:=trivial
theorem tw5665243398756932224:True:=trivial
theorem tw14192504741242028705:True:=trivial
theorem tw8293658637600462682:True:=trivial
theorem tw16302842345892029220:True:=trivial
theorem tw12863308172231560927:True:=trivial
theorem tw1472934511729221038:True:=trivial
theorem tw4862643436096696816:True:=trivial
theorem tw3338614006310787683:True:=trivial
theorem tw16657165849758509173:True:=trivial
theorem tw14145179765947051303:True:=trivial
theorem tw8011483760789804420:True:=trivial
theorem tw10224912677612998665:True:=trivial
theorem tw11864314577357421420:True:=trivial
theorem tw16404300532256394673:True:=trivial
theorem tw18262214056049828477:True:=trivial
theorem tw3415210197419782036:True:=trivial
theorem tw16323394549554486701:True:=trivial
theorem tw10903940374011785136:True:=trivial
theorem tw10389300543762241166:True:=trivial
theorem tw2679127306400791898:True:=trivial
theorem tw11711954763725545623:True:=trivial
theorem tw2270867120822200587:True:=trivial
theorem tw6899923512112933690:True:=trivial
theorem tw15998562971832896243:True:=trivial
theorem tw4949614386648792270:True:=trivial
theorem tw3018424889680294942:True:=trivial
theorem tw547781265127999459:True:=trivial
theorem tw1119236457971800516:True:=trivial
theorem tw7755665481254692520:True:=trivial
theorem tw8705777197481626626:True:=trivial
theorem tw9687642239743624131:True:=trivial
theorem tw18204382886906765453:True:=trivial
theorem tw8707556056788525234:True:=trivial
theorem tw10464811536900613979:True:=trivial
theorem tw1348893032073666798:True:=trivial
theorem tw8272641840157548719:True:=trivial
theorem tw10381682965776419823:True:=trivial
theorem tw16896549554463497181:True:=trivial
theorem tw12315845861790612652:True:=trivial
theorem tw11534004894601905885:True:=trivial
theorem tw12154597495020919007:True:=trivial
theorem tw4485098684464960692:True:=trivial
theorem tw8655521933662723430:True:=trivial
theorem tw13514771016546520974:True:=trivial
theorem tw948187289961311883:True:=trivial
theorem tw5705723353104227163:True:=trivial
theorem tw8228534533462244738:True:=trivial
theorem tw7309246926842194150:True:=trivial
theorem tw17943348536925646633:True:=trivial
theorem tw16920309250392537003:True:=trivial
theorem tw3133848857779431573:True:=trivial
theorem tw2111234916633928277:True:=trivial
theorem tw8041739431597425266:True:=trivial
theorem tw12982948253131509733:True:=trivial
theorem tw18427268672851927552:True:=trivial
theorem tw11659896729148281051:True:=trivial
theorem tw15669429952276714610:True:=trivial
theorem tw4897092460920129648:True:=trivial
theorem tw7967816271958408128:True:=trivial
theorem tw11586203381456168620:True:=trivial
theorem tw15660296750532164781:True:=trivial
theorem tw8652717401206263255:True:=trivial
theorem tw6459697388130294606:True:=trivial
theorem tw13593599463099212094:True:=trivial
theorem tw9290507445977804664:True:=trivial
theorem tw10450684684600690169:True:=trivial
theorem tw9268529762499561844:True:=trivial
theorem tw15183223268621977120:True:=trivial
theorem tw10853475053920249321:True:=trivial
theorem tw1993738167011487210:True:=trivial
theorem tw16043518584409523216:True:=trivial
theorem tw265261899849740323:True:=trivial
theorem tw6944898194869183631:True:=trivial
theorem tw2592435301776237947:True:=trivial
theorem tw14392760958432538836:True:=trivial
theorem tw12309769913204500742:True:=trivial
theorem tw3963633385379833946:True:=trivial
theorem tw3037953409401953298:True:=trivial
theorem tw2877835916369566026:True:=trivial
theorem tw12351748880335885249:True:=trivial
theorem tw4735089666137285656:True:=trivial
theorem tw6403479725141208555:True:=trivial
theorem tw2791834585872397411:True:=trivial
theorem tw4898283570207250261:True:=trivial
theorem tw15768976838847590277:True:=trivial
theorem tw16828716696533360523:True:=trivial
theorem tw4171422576179665100:True:=trivial
theorem tw4167211392269911901:True:=trivial
theorem tw2151779572474445908:True:=trivial
theorem tw1780302150949597344:True:=trivial
theorem tw15539837843200970709:True:=trivial
theorem tw10881891993882736252:True:=trivial
theorem tw17535495802198419800:True:=trivial
theorem tw14091007760137187997:True:=trivial
theorem tw1303074354354898734:True:=trivial
theorem tw9282221184739164857:True:=trivial
theorem tw9977378335334844756:True:=trivial
theorem tw2599591813075265665:True:=trivial
theorem tw1791885466106394862:True:=trivial
theorem tw8359462995236471632:True:=trivial
theorem tw11720098044506199010:True:=trivial
theorem tw5028139431238337748:True:=trivial
theorem tw8435317304596916743:True:=trivial
theorem tw9398637354390545525:True:=trivial
theorem tw1663904068714961756:True:=trivial
theorem tw484092189138328903:True:=trivial
theorem tw14410732423651878231:True:=trivial
theorem tw1074749630842517814:True:=trivial
theorem tw10834129693983218472:True:=trivial
theorem tw8110550616771933485:True:=trivial
theorem tw9639106284831204271:True:=trivial
theorem tw14999939514006606275:True:=trivial
theorem tw13555096586913569023:True:=trivial
theorem tw672368294530070409:True:=trivial
theorem tw2014478958476956207:True:=trivial
theorem tw1293482982993962650:True:=trivial
theorem tw14313058872502693563:True:=trivial
theorem tw3940533468364309993:True:=trivial
theorem tw6646958778899880444:True:=trivial
theorem tw8078088126904272891:True:=trivial
theorem tw5639867689811331113:True:=trivial
theorem tw13479927950043786414:True:=trivial
theorem tw1289805878419369624:True:=trivial
theorem tw16469217611276613412:True:=trivial
theorem tw10761133725257277947:True:=trivial
theorem tw8303728064584922232:True:=trivial
theorem tw278369874235726104:True:=trivial
theorem tw8317326015625972502:True:=trivial
theorem tw13890636186807048498:True:=trivial
theorem tw17304784406555225583:True:=trivial
theorem tw7778483865135988627:True:=trivial
theorem tw9343751727243288755:True:=trivial
theorem tw17058165802380885412:True:=trivial
theorem tw1093017060971543488:True:=trivial
theorem tw3442239458807852908:True:=trivial
theorem tw7877479866554219550:True:=trivial
theorem tw15978434977961350041:True:=trivial
theorem tw14934229235278275467:True:=trivial
theorem tw15950691100405786106:True:=trivial
theorem tw7146899634323793754:True:=trivial
theorem tw12742688576094807585:True:=trivial
theorem tw6026411082821252365:True:=trivial
theorem tw17102345498099369953:True:=trivial
theorem tw4931895124476997837:True:=trivial
theorem tw11836039058377658185:True:=trivial
theorem tw17823900131234595897:True:=trivial
theorem tw4344954782913950874:True:=trivial
theorem tw265684371089068411:True:=trivial
theorem tw6681605382164489580:True:=trivial
theorem tw5649074747705615219:True:=trivial
theorem tw7878510191719484834:True:=trivial
theorem tw5470122605265657616:True:=trivial
theorem tw1916808136602559303:True:=trivial
theorem tw7200316610054468499:True:=trivial
theorem tw7531312759485325282:True:=trivial
theorem tw3069454746086448350:True:=trivial
theorem tw16162300744095848306:True:=trivial
theorem tw6886774603071943130:True:=trivial
theorem tw11340396385843226187:True:=trivial
theorem tw4393410267650203285:True:=trivial
theorem tw10659998232211577762:True:=trivial
theorem tw17590366994313628575:True:=trivial
theorem tw8383183564379836893:True:=trivial
theorem tw17181209257192548456:True:=trivial
theorem tw1534957754632891516:True:=trivial
theorem tw18442427704903048748:True:=trivial
theorem tw5259570914969657510:True:=trivial
theorem tw9614701163626317074:True:=trivial
theorem tw5404741714995947748:True:=trivial
theorem tw12366953633348154070:True:=trivial
theorem tw5390944733995685368:True:=trivial
theorem tw12912660169624380981:True:=trivial
theorem tw17745267315158053981:True:=trivial
theorem tw6052074956888088169:True:=trivial
theorem tw16816656909687521398:True:=trivial
theorem tw4793621019563992023:True:=trivial
theorem tw13572810542602500511:True:=trivial
theorem tw4888853946971773424:True:=trivial
theorem tw16060379155939118914:True:=trivial
theorem tw15953334910801991519:True:=trivial
theorem tw3670632290290133382:True:=trivial
theorem tw10519502251716971972:True:=trivial
theorem tw15261802024882218460:True:=trivial
theorem tw3204843208537948807:True:=trivial
theorem tw4316225375401610872:True:=trivial
theorem tw2597349390234648:True:=trivial
theorem tw12874376436603831534:True:=trivial
theorem tw10153371376249910837:True:=trivial
theorem tw7097897246176660238:True:=trivial
theorem tw6243189278221899871:True:=trivial
theorem tw2537206208128621037:True:=trivial
theorem tw17829891266166669743:True:=trivial
theorem tw8064332396648992502:True:=trivial
theorem tw8096722553094129396:True:=trivial
theorem tw5559488345675882688:True:=trivial
theorem tw1282269132880477668:True:=trivial
theorem tw199313607494640801:True:=trivial
theorem tw18114156356466272563:True:=trivial
theorem tw9336082312806901493:True:=trivial
theorem tw1071870765404495810:True:=trivial
theorem tw2627977825391671658:True:=trivial
theorem tw14744233676417915840:True:=trivial
theorem tw18165812343759662682:True:=trivial
theorem tw16850354748124001945:True:=trivial
theorem tw12104177210021911121:True:=trivial
theorem tw3487073826800344201:True:=trivial
theorem tw17690680105047617484:True:=trivial
theorem tw7268013942851085740:True:=trivial
theorem tw17219114122998553350:True:=trivial
theorem tw16823353762437259151:True:=trivial
theorem tw2460900501798105844:True:=trivial
theorem tw5760281403853828414:True:=trivial
theorem tw13290855560447945993:True:=trivial
theorem tw12873612842702105327:True:=trivial
theorem tw5456171396052103633:True:=trivial
theorem tw3853867756729426728:True:=trivial
theorem tw16355477184772458113:True:=trivial
theorem tw10526842327079994656:True:=trivial
theorem tw3691488504870203327:True:=trivial
theorem tw3058388919467703210:True:=trivial
theorem tw16875335686610795311:True:=trivial
theorem tw17789681210683461848:True:=trivial
theorem tw2340992340828840437:True:=trivial
theorem tw11068649907470473735:True:=trivial
theorem tw7834448269497588768:True:=trivial
theorem tw12131829475667389888:True:=trivial
theorem tw15646591365356961992:True:=trivial
theorem tw14698608799739291072:True:=trivial
theorem tw4811944722111427117:True:=trivial
theorem tw5950957746193857808:True:=trivial
theorem tw2330728949715800693:True:=trivial
theorem tw17590662915789287143:True:=trivial
theorem tw969076837315389010:True:=trivial
theorem tw12152321276448395148:True:=trivial
theorem tw12553858953855408164:True:=trivial
theorem tw11505419435834139829:True:=trivial
theorem tw13055381495668257800:True:=trivial
theorem tw2559918546232752502:True:=trivial
theorem tw8498226585372729354:True:=trivial
theorem tw13545107490289366359:True:=trivial
theorem tw10499999799253321041:True:=trivial
theorem tw4475558169698973759:True:=trivial
theorem tw12549470069767129810:True:=trivial
theorem tw17561945012366482836:True:=trivial
theorem tw11289617877988977764:True:=trivial
theorem tw14999638676610039041:True:=trivial
theorem tw16950780123648190767:True:=trivial
theorem tw5830963045271114746:True:=trivial
theorem tw5934826865351334772:True:=trivial
theorem tw332070452063472031:True:=trivial
theorem tw13557795335813855286:True:=trivial
theorem tw14296072319379210844:True:=trivial
theorem tw3435223291028335452:True:=trivial
theorem tw12408318803062959380:True:=trivial
theorem tw3720527702459570011:True:=trivial
theorem tw16200451880334401541:True:=trivial
theorem tw1394683718586643178:True:=trivial
theorem tw18017354375468698144:True:=trivial
theorem tw3251363806075298754:True:=trivial
theorem tw1413107543534166841:True:=trivial
theorem tw14888846520278302265:True:=trivial
theorem tw6451009862114934070:True:=trivial
theorem tw2650076884209728424:True:=trivial
theorem tw6815638952089222602:True:=trivial
theorem tw3534583744864645623:True:=trivial
theorem tw10575218588933943685:True:=trivial
theorem tw12187008449754993345:True:=trivial
theorem tw329637306155099214:True:=trivial
theorem tw16368237759535132450:True:=trivial
theorem tw9393740001211462353:True:=trivial
theorem tw5858849723558733831:True:=trivial
theorem tw9945243203586696244:True:=trivial
theorem tw1551052453551995640:True:=trivial
theorem tw4803667481218387300:True:=trivial
theorem tw11722507526527383761:True:=trivial
theorem tw9914191265414685007:True:=trivial
theorem tw12148744768856915473:True:=trivial
theorem tw7278074885183963088:True:=trivial
theorem tw1598775271710290583:True:=trivial
theorem tw4638579525015487851:True:=trivial
theorem tw15333239566465540404:True:=trivial
theorem tw3221023132374017105:True:=trivial
theorem tw5056457710112533032:True:=trivial
theorem tw12105817356428222475:True:=trivial
theorem tw16080941065545470371:True:=trivial
theorem tw3251387734821976574:True:=trivial
theorem tw5868352918509945753:True:=trivial
theorem tw1651383178676555521:True:=trivial
theorem tw9585921696901424444:True:=trivial
theorem tw12287115277110096624:True:=trivial
theorem tw3704670068323369491:True:=trivial
theorem tw15499379155281980983:True:=trivial
theorem tw6567829666228290949:True:=trivial
theorem tw7320180977487585739:True:=trivial
theorem tw6664165126007154737:True:=trivial
theorem tw10824768983534777846:True:=trivial
theorem tw12139397440769844361:True:=trivial
theorem tw11558075645480871616:True:=trivial
theorem tw1526122551135700121:True:=trivial
theorem tw2254415395847532074:True:=trivial
theorem tw13536922299636207829:True:=trivial
theorem tw16571140438245946571:True:=trivial
theorem tw14777616544819074832:True:=trivial
theorem tw14721878194837437939:True:=trivial
theorem tw1101667293348887503:True:=trivial
theorem tw5897629587737749132:True:=trivial
theorem tw14935069225033822081:True:=trivial
theorem tw8248926576366054344:True:=trivial
theorem tw4345482761608030931:True:=trivial
theorem tw8677044947382294630:True:=trivial
theorem tw7196802864797147946:True:=trivial
theorem tw4265751061002608338:True:=trivial
theorem tw12929457325194175045:True:=trivial
theorem tw17499418198199402690:True:=trivial
theorem tw3792047746518834418:True:=trivial
theorem tw5397381925154969710:True:=trivial
theorem tw10113473811626923523:True:=trivial
theorem tw4778396691126458710:True:=trivial
theorem tw17642219262382395584:True:=trivial
theorem tw10770691689057204272:True:=trivial
theorem tw8880669034024947435:True:=trivial
theorem tw5704835686257525030:True:=trivial
theorem tw12130137269539196500:True:=trivial
theorem tw12431656420598942315:True:=trivial
theorem tw4820042190661479482:True:=trivial
theorem tw18428658906414405884:True:=trivial
theorem tw10898057754200430724:True:=trivial
theorem tw5298667644840705713:True:=trivial
theorem tw8870632035075983567:True:=trivial
theorem tw1963552139467988804:True:=trivial
theorem tw15976894557429685587:True:=trivial
theorem tw8449966566130981154:True:=trivial
theorem tw10688278685846819750:True:=trivial
theorem tw11662817766911828130:True:=trivial
theorem tw1607481504111685083:True:=trivial
theorem tw3318134786214570584:True:=trivial
theorem tw6351794163614777418:True:=trivial
theorem tw1811987813139408079:True:=trivial
theorem tw8405774347336544665:True:=trivial
theorem tw8176065880015555652:True:=trivial
theorem tw5995143378038752199:True:=trivial
theorem tw4384066314520307569:True:=trivial
theorem tw3186780426788246843:True:=trivial
theorem tw6464957206266436710:True:=trivial
theorem tw14997851651730493986:True:=trivial
theorem tw4812720198446262856:True:=trivial
theorem tw17395317587019446022:True:=trivial
theorem tw11013718908788638601:True:=trivial
theorem tw11571791171215194384:True:=trivial
theorem tw5183301230248295557:True:=trivial
theorem tw8329555510113555311:True:=trivial
theorem tw6726483410301508257:True:=trivial
theorem tw13519853395956389690:True:=trivial
theorem tw12520993999821609699:True:=trivial
theorem tw5965740774922353623:True:=trivial
theorem tw17605675063506874546:True:=trivial
theorem tw9265280256793902577:True:=trivial
theorem tw17498332256611638520:True:=trivial
theorem tw15141705092691374392:True:=trivial
theorem tw2420030644468448698:True:=trivial
theorem tw2338287359510614721:True:=trivial
theorem tw10178268070406576722:True:=trivial
theorem tw8370155803771993782:True:=trivial
theorem tw4160421417538438970:True:=trivial
theorem tw9633061876286748922:True:=trivial
theorem tw17994260364973221673:True:=trivial
theorem tw16372444269124333423:True:=trivial
theorem tw16844521682474806448:True:=trivial
theorem tw5376345490387102566:True:=trivial
theorem tw13181577625079575498:True:=trivial
theorem tw10277256751552199511:True:=trivial
theorem tw9164289119512395266:True:=trivial
theorem tw13078349413747263967:True:=trivial
theorem tw8725888279513076454:True:=trivial
theorem tw330200371341804980:True:=trivial
theorem tw10035471106689902599:True:=trivial
theorem tw3064699813198672697:True:=trivial
theorem tw12102651463799519597:True:=trivial
theorem tw12397072903172783322:True:=trivial
theorem tw16535067605304842765:True:=trivial
theorem tw8396989308260968395:True:=trivial
theorem tw15597612599856057849:True:=trivial
theorem tw9346520620344207691:True:=trivial
theorem tw17231616893933631202:True:=trivial
theorem tw15976254882536604599:True:=trivial
theorem tw12002429390021468717:True:=trivial
theorem tw2714728935389328507:True:=trivial
theorem tw4390587595297144587:True:=trivial
theorem tw10361389340634331656:True:=trivial
theorem tw10784523658647760430:True:=trivial
theorem tw40726074658125574:True:=trivial
theorem tw2244065930234745848:True:=trivial
theorem tw15351757178311590599:True:=trivial
theorem tw11600574621530652788:True:=trivial
theorem tw16385167441853378948:True:=trivial
theorem tw12015421483414523649:True:=trivial
theorem tw78075765021990506:True:=trivial
theorem tw16416697919110835301:True:=trivial
theorem tw16337569639521834833:True:=trivial
theorem tw3269900597482515349:True:=trivial
theorem tw9421422755225891926:True:=trivial
theorem tw4866756900184655671:True:=trivial
theorem tw4421281768094543304:True:=trivial
theorem tw7057085379543496197:True:=trivial
theorem tw7322151877465532713:True:=trivial
theorem tw5448783349948085700:True:=trivial
theorem tw9784128985687556204:True:=trivial
theorem tw1306800640930754247:True:=trivial
theorem tw3344138960819234623:True:=trivial
theorem tw4544749085209332037:True:=trivial
theorem tw5073993487256427546:True:=trivial
theorem tw6860280399372446441:True:=trivial
theorem tw12943960547333561801:True:=trivial
theorem tw5723736214003954580:True:=trivial
theorem tw1682024785476228737:True:=trivial
theorem tw3705425662342986946:True:=trivial
theorem tw5156475004885300392:True:=trivial
theorem tw10666285275565114209:True:=trivial
theorem tw17038878431560502207:True:=trivial
theorem tw3825158858781743776:True:=trivial
theorem tw2952963195614517949:True:=trivial
theorem tw11199479366484208962:True:=trivial
theorem tw10035129915492437299:True:=trivial
theorem tw6599232990151453183:True:=trivial
theorem tw1594453061542693651:True:=trivial
theorem tw230512858289448842:True:=trivial
theorem tw14574761891078481207:True:=trivial
theorem tw706058382421606154:True:=trivial
theorem tw4427418416765981694:True:=trivial
theorem tw13352414485981647531:True:=trivial
theorem tw13619810901899636534:True:=trivial
theorem tw8459699630739178535:True:=trivial
theorem tw6731019918083546466:True:=trivial
theorem tw7611914374880513691:True:=trivial
theorem tw18327347522157999316:True:=trivial
theorem tw12792831350553424663:True:=trivial
theorem tw11797934444168011658:True:=trivial
theorem tw797926942972479827:True:=trivial
theorem tw17970308445034443245:True:=trivial
theorem tw733597475559259536:True:=trivial
theorem tw17807951886200557237:True:=trivial
theorem tw9294016353650543647:True:=trivial
theorem tw5909080869008348356:True:=trivial
theorem tw9129222870908503743:True:=trivial
theorem tw12466357377379096944:True:=trivial
theorem tw14683205859435959626:True:=trivial
theorem tw15899793228431390107:True:=trivial
theorem tw12421766297719345522:True:=trivial
theorem tw3205483755091186024:True:=trivial
theorem tw15007456234821425940:True:=trivial
theorem tw2827553684880340482:True:=trivial
theorem tw16645806359805316040:True:=trivial
theorem tw12688120024124814454:True:=trivial
theorem tw12190064228092231574:True:=trivial
theorem tw9893281592554724598:True:=trivial
theorem tw3939811475355043644:True:=trivial
theorem tw2607035481660694929:True:=trivial
theorem tw112173178307187523:True:=trivial
theorem tw11780087944066892260:True:=trivial
theorem tw13727724722445844565:True:=trivial
theorem tw13166665498414662887:True:=trivial
theorem tw13645333306158586653:True:=trivial
theorem tw17129972401966096639:True:=trivial
theorem tw3091492269674965513:True:=trivial
theorem tw16436389809226933331:True:=trivial
theorem tw3554898604256749488:True:=trivial
theorem tw2841600427227075108:True:=trivial
end PySem.W.Fast
open PySem PySem.W PyProof.Rows
set_option maxRecDepth 100000 in
set_option maxHeartbeats 0 in
theorem PySem.Challenge.cw_boxgalley_k06_what_is_a_tree_holds : PySem.Challenge.rw_boxgalley_k06_what_is_a_tree.Holds := by
  w_on; o_law; k_head; (case hw=>w_witness2)
  k_fill
  refine B06.walk (l:=PySem.Challenge.rw_boxgalley_k06_what_is_a_tree) rfl rfl (fun w h Y=>PySem.W.kIn_of Y) ?F
  case F =>
    intro w mg fa h KX G hmg
    refine' B06.all_mk KX G hmg ?aCB ?aCT ?aC1 ?aC2 ?aC3 ?aC4 ?aC5 ?aC6 ?aC7 ?aC8 ?aC9 ?aC10 ?aC11 ?aC12 ?aC13 ?aC14 ?a1 ?l1 ?c1 ?k1 ?a2 ?l2 ?c2 ?k2 ?a3 ?l3 ?c3 ?k3 ?a4 ?l4 ?c4 ?k4 ?a5 ?l5 ?c5 ?k5 ?a6 ?l6 ?c6 ?k6 ?a7 ?l7 ?c7 ?k7 ?a8 ?l8 ?c8 ?k8 ?a9 ?l9 ?c9 ?k9 ?a10 ?l10 ?c10 ?k10 ?a11 ?l11 ?c11 ?k11 ?a12 ?l12 ?c12 ?k12 ?a13 ?l13 ?c13 ?k13 ?a14 ?l14 ?c14 ?k14 ?a15 ?l15 ?c15 ?k15 ?a16 ?l16 ?c16 ?k16 ?a17 ?l17 ?c17 ?k17 ?a18 ?l18 ?c18 ?k18 ?a19 ?l19 ?c19 ?k19 ?a20 ?l20 ?c20 ?k20 ?a21 ?l21 ?c21 ?k21 ?a22 ?l22 ?c22 ?k22 ?a23 ?l23 ?c23 ?k23 ?a24 ?l24 ?c24 ?k24 ?a25 ?l25 ?c25 ?k25 ?a26 ?l26 ?c26 ?k26 ?a27 ?l27 ?c27 ?k27 ?a28 ?l28 ?c28 ?k28 ?a29 ?l29 ?c29 ?k29 ?a30 ?l30 ?c30 ?k30 ?a31 ?l31 ?c31 ?k31 ?a32 ?l32 ?c32 ?k32 ?a33 ?l33 ?c33 ?k33 ?a34 ?i34 ?l34 ?c34 ?k34 ?a35 ?l35 ?c35 ?k35 ?a36 ?l36 ?c36 ?k36 ?a37 ?l37 ?c37 ?k37 ?a38 ?l38 ?c38 ?k38 ?a39 ?l39 ?c39 ?k39 ?a40 ?l40 ?c40 ?k40 ?a41 ?l41 ?c41 ?k41 ?a42 ?l42 ?c42 ?k42 ?a43 ?l43 ?c43 ?k43 ?a44 ?l44 ?c44 ?k44 ?a45 ?l45 ?c45 ?k45 ?a46 ?l46 ?c46 ?k46 ?a47 ?l47 ?c47 ?k47 ?a48 ?l48 ?c48 ?k48 ?a49 ?l49 ?c49 ?k49 ?a50 ?l50 ?c50 ?k50 ?a51 ?l51 ?c51 ?k51 ?a52 ?l52 ?c52 ?k52 ?a53 ?l53 ?c53 ?k53 ?a54 ?l54 ?c54 ?k54 ?a55 ?l55 ?c55 ?k55 ?a56 ?l56 ?c56 ?k56 ?xtov ?xtsa ?xtga ?xtgt ?xtmb ?xtmo ?xtcl ?xttp ?xtkp ?xbov ?xbmb ?xbtp ?xcg ?xct ?xow ?xhd ?xnm ?xtb ?xtt ?xno ?xn2 ?xkv ?kq0 ?kq1 ?kq2 ?kq3 ?kq4 ?kq5 ?kq6 ?kq7 ?kq8 ?kq9 ?kq10 ?kq11 ?kq12 ?kq13 ?kq14 ?kq15 ?kq16 ?kq17 ?kq18 ?kq19 ?kq20 ?kq21 ?kq22 ?kq23 ?tq0 ?lq0 ?tq1 ?lq1 ?tq2 ?lq2 ?tq3 ?lq3 ?tq4 ?lq4 ?z0 ?z1 ?z2 ?z3 ?z4 ?z5 ?z6 ?z7 ?z8 ?z9 ?z10 ?z11 ?z12 ?z13 ?z14 ?z15
    (case aCB=>k_is); (case aCT=>k_is); (case aC1=>k_is); (case aC2=>k_is); (case aC3=>k_is); (case aC4=>k_is)
    (case aC5=>k_is); (case aC6=>k_is); (case aC7=>k_is); (case aC8=>k_is); (case aC9=>k_is); (case aC10=>k_is)
    (case aC11=>k_is); (case aC12=>k_is); (case aC13=>k_is); (case aC14=>k_is); (case a1=>k_is); (case l1=>k_is)
    (case c1=>k_is); (case k1=>k_is); (case a2=>k_is); (case l2=>k_is); (case c2=>k_is); (case k2=>k_is)
    (case a3=>k_is); (case l3=>k_is); (case c3=>k_is); (case k3=>k_is); (case a4=>k_is); (case l4=>k_is)
    (case c4=>k_is); (case k4=>k_is); (case a5=>k_is); (case l5=>k_is); (case c5=>k_is); (case k5=>k_is)
    (case a6=>k_is); (case l6=>k_is); (case c6=>k_is); (case k6=>k_is); (case a7=>k_is); (case l7=>k_is)
    (case c7=>k_is); (case k7=>k_is); (case a8=>k_is); (case l8=>k_is); (case c8=>k_is); (case k8=>k_is)
    (case a9=>k_is); (case l9=>k_is); (case c9=>k_is); (case k9=>k_is); (case a10=>k_is); (case l10=>k_is)
    (case c10=>k_is); (case k10=>k_is); (case a11=>k_is); (case l11=>k_is); (case c11=>k_is); (case k11=>k_is)
    (case a12=>k_is); (case l12=>k_is); (case c12=>k_is); (case k12=>k_is); (case a13=>k_is); (case l13=>k_is)
    (case c13=>k_is); (case k13=>k_is); (case a14=>k_is); (case l14=>k_is); (case c14=>k_is); (case k14=>k_is)
    (case a15=>k_is); (case l15=>k_is); (case c15=>k_is); (case k15=>k_is); (case a16=>k_is); (case l16=>k_is)
    (case c16=>k_is); (case k16=>k_is); (case a17=>k_is); (case l17=>k_is); (case c17=>k_is); (case k17=>k_is)
    (case a18=>k_is); (case l18=>k_is); (case c18=>k_is); (case k18=>k_is); (case a19=>k_is); (case l19=>k_is)
    (case c19=>k_is); (case k19=>k_is); (case a20=>k_is); (case l20=>k_is); (case c20=>k_is); (case k20=>k_is)
    (case a21=>k_is); (case l21=>k_is); (case c21=>k_is); (case k21=>k_is); (case a22=>k_is); (case l22=>k_is)
    (case c22=>k_is); (case k22=>k_is); (case a23=>k_is); (case l23=>k_is); (case c23=>k_is); (case k23=>k_is)
    (case a24=>k_is); (case l24=>k_is); (case c24=>k_is); (case k24=>k_is); (case a25=>k_is); (case l25=>k_is)
    (case c25=>k_is); (case k25=>k_is); (case a26=>k_is); (case l26=>k_is); (case c26=>k_is); (case k26=>k_is)
    (case a27=>k_is); (case l27=>k_is); (case c27=>k_is); (case k27=>k_is); (case a28=>k_is); (case l28=>k_is)
    (case c28=>k_is); (case k28=>k_is); (case a29=>k_is); (case l29=>k_is); (case c29=>k_is); (case k29=>k_is)
    (case a30=>k_is); (case l30=>k_is); (case c30=>k_is); (case k30=>k_is); (case a31=>k_is); (case l31=>k_is)
    (case c31=>k_is); (case k31=>k_is); (case a32=>k_is); (case l32=>k_is); (case c32=>k_is); (case k32=>k_is)
    (case a33=>k_is); (case l33=>k_is); (case c33=>k_is); (case k33=>k_is); (case a34=>k_is); (case i34=>k_is)
    (case l34=>k_is); (case c34=>k_is); (case k34=>k_is); (case a35=>k_is); (case l35=>k_is); (case c35=>k_is)
    (case k35=>k_is); (case a36=>k_is); (case l36=>k_is); (case c36=>k_is); (case k36=>k_is); (case a37=>k_is)
    (case l37=>k_is); (case c37=>k_is); (case k37=>k_is); (case a38=>k_is); (case l38=>k_is); (case c38=>k_is)
    (case k38=>k_is); (case a39=>k_is); (case l39=>k_is); (case c39=>k_is); (case k39=>k_is); (case a40=>k_is)
    (case l40=>k_is); (case c40=>k_is); (case k40=>k_is); (case a41=>k_is); (case l41=>k_is); (case c41=>k_is)
    (case k41=>k_is); (case a42=>k_is); (case l42=>k_is); (case c42=>k_is); (case k42=>k_is); (case a43=>k_is)
    (case l43=>k_is); (case c43=>k_is); (case k43=>k_is); (case a44=>k_is); (case l44=>k_is); (case c44=>k_is)
    (case k44=>k_is); (case a45=>k_is); (case l45=>k_is); (case c45=>k_is); (case k45=>k_is); (case a46=>k_is)
    (case l46=>k_is); (case c46=>k_is); (case k46=>k_is); (case a47=>k_is); (case l47=>k_is); (case c47=>k_is)
    (case k47=>k_is); (case a48=>k_is); (case l48=>k_is); (case c48=>k_is); (case k48=>k_is); (case a49=>k_is)
    (case l49=>k_is); (case c49=>k_is); (case k49=>k_is); (case a50=>k_is); (case l50=>k_is); (case c50=>k_is)
    (case k50=>k_is); (case a51=>k_is); (case l51=>k_is); (case c51=>k_is); (case k51=>k_is); (case a52=>k_is)
    (case l52=>k_is); (case c52=>k_is); (case k52=>k_is); (case a53=>k_is); (case l53=>k_is); (case c53=>k_is)
    (case k53=>k_is); (case a54=>k_is); (case l54=>k_is); (case c54=>k_is); (case k54=>k_is); (case a55=>k_is)
    (case l55=>k_is); (case c55=>k_is); (case k55=>k_is); (case a56=>k_is); (case l56=>k_is); (case c56=>k_is)
    (case k56=>k_is); (case xtov=>rfl); (case xtsa=>k_is); (case xtga=>k_is); (case xtgt=>k_is); (case xtmb=>k_is)
    (case xtmo=>k_is); (case xtcl=>k_is); (case xttp=>k_is); (case xtkp=>k_is); (case xbov=>rfl); (case xbmb=>k_is)
    (case xbtp=>k_is); (case xcg=>k_is); (case xct=>k_is); (case xow=>with_unfolding_all exact Eq.refl true); (case xhd=>k_is); (case xnm=>k_is)
    (case xtb=>k_is); (case xtt=>rfl); (case xno=>rfl); (case xn2=>rfl); (case xkv=>rfl); (case kq0=>k_is)
    (case kq1=>k_is); (case kq2=>k_is); (case kq3=>k_is); (case kq4=>k_is); (case kq5=>k_is); (case kq6=>k_is)
    (case kq7=>k_is); (case kq8=>k_is); (case kq9=>k_is); (case kq10=>k_is); (case kq11=>k_is); (case kq12=>k_is)
    (case kq13=>k_is); (case kq14=>k_is); (case kq15=>k_is); (case kq16=>k_is); (case kq17=>k_is); (case kq18=>k_is)
    (case kq19=>k_is); (case kq20=>k_is); (case kq21=>k_is); (case kq22=>k_is); (case kq23=>k_is); (case tq0=>k_is)
    (case lq0=>k_is); (case tq1=>k_is); (case lq1=>k_is); (case tq2=>k_is); (case lq2=>k_is); (case tq3=>k_is)
    (case lq3=>k_is); (case tq4=>k_is); (case lq4=>k_is); (case z0=>k_is); (case z1=>k_is); (case z2=>k_is)
    (case z3=>k_is); (case z4=>k_is); (case z5=>k_is); (case z6=>k_is); (case z7=>k_is); (case z8=>k_is)
    (case z9=>k_is); (case z10=>k_is); (case z11=>k_is); (case z12=>k_is); (case z13=>k_is); (case z14=>k_is)
    (case z15=>k_is)
