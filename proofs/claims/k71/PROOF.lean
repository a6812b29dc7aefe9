import PyProof.Rows.All
import Wide.All
import OpenK.AllK
import Wide.FinOn
import Lean
import PyProof.EqAt
import PyProof.EqKinds
import PyProof.TupleCall
import PyProof.MinMaxWalk
import PyProof.Rows.ZipGen
import KE.KMinKey
import PyProof.NeKinds
import PyProof.Rows.Range3
import PyProof.SetKind
import PyProof.Rows.SetFrom
import PyProof.DictWalks
import KE.KDictSum
import PyProof.DictItems
import KE.KEqDict
import KE.KSortTup
import KE.KLam
import KE.KNestM
import PyProof.Rows.SortStr
import PyProof.Rows.SortWalk
import PyProof.FString5
import PyProof.StrOps2
import PySem.Challenge.RW_boxgalley_k71_whole_stretches
set_option Elab.async false
set_option linter.all false
set_option maxRecDepth 100000
namespace L2
open PySem PySem.Spec PyProof.Rows
abbrev Key := Sum Int Str
def keyIs : Key → Value → Bool
  | .inl k, v => Value.isInt k v
  | .inr x, v => Value.isStrOf x v
def keyH (w : World) : Key → Int
  | .inl k => hashInt k
  | .inr x => hashStr w x
theorem keyIs_shape : ∀ {k : Key} {v : Value}, keyIs k v = true → (∃ i t, k = Sum.inl i ∧ v = Value.int i t) ∨ (∃ x t, k = Sum.inr x ∧ v = Value.str x t)
  | .inl i, v, h => by
    obtain ⟨t, e⟩ := Value.isInt_shape (k := i) (v := v) h
    exact .inl ⟨i, t, rfl, e⟩
  | .inr x, v, h => by
    obtain ⟨t, e⟩ := Value.isStrOf_shape (x := x) (v := v) h
    exact .inr ⟨x, t, rfl, e⟩
theorem key_ll (a b : Int) : decide ((Sum.inl a : Key) = Sum.inl b) = (a == b) := by
  by_cases e : a = b
  · subst e; simp
  · have h : ¬ (Sum.inl a : Key) = Sum.inl b := fun q => e (Sum.inl.inj q)
    rw [decide_eq_false h]
    exact (beq_eq_false_iff_ne.mpr e).symm
theorem key_rr (a b : Str) : decide ((Sum.inr a : Key) = Sum.inr b) = decide (a = b) := by
  by_cases e : a = b
  · subst e; simp
  · have h : ¬ (Sum.inr a : Key) = Sum.inr b := fun q => e (Sum.inr.inj q)
    rw [decide_eq_false h, decide_eq_false e]
theorem key_lr (a : Int) (b : Str) : decide ((Sum.inl a : Key) = Sum.inr b) = false := decide_eq_false (fun q => nomatch q)
theorem key_rl (a : Str) (b : Int) : decide ((Sum.inr a : Key) = Sum.inl b) = false := decide_eq_false (fun q => nomatch q)
def mixKind (prog : Program) (w : World) : PySem.KeyKind prog w Key where
  is := keyIs
  hash := keyH w
  inj := fun v a b ha hb => by
    rcases keyIs_shape ha with ⟨i, t, rfl, rfl⟩ | ⟨x, t, rfl, rfl⟩
    · rcases keyIs_shape hb with ⟨j, u, rfl, e⟩ | ⟨y, u, rfl, e⟩
      · injection e with e1 _; rw [e1]
      · exact nomatch e
    · rcases keyIs_shape hb with ⟨j, u, rfl, e⟩ | ⟨y, u, rfl, e⟩
      · exact nomatch e
      · injection e with e1 _; rw [e1]
  byValue := fun k v h => by
    rcases keyIs_shape h with ⟨i, t, rfl, rfl⟩ | ⟨x, t, rfl, rfl⟩ <;> rfl
  pyHash := fun hv h => by
    rcases keyIs_shape hv with ⟨i, t, rfl, rfl⟩ | ⟨x, t, rfl, rfl⟩
    · exact wpAny_pyHash_int h
    · exact wpAny_pyHash_str h
  eqBool := fun hu hv h => by
    rcases keyIs_shape hu with ⟨i, t, rfl, rfl⟩ | ⟨x, t, rfl, rfl⟩
    · rcases keyIs_shape hv with ⟨j, u, rfl, rfl⟩ | ⟨y, u, rfl, rfl⟩
      · rw [key_ll] at h; exact wpAny_eqBool_int h
      · rw [key_lr] at h; exact SeqAt.EqAt.int_str i t y u _ _ _ _ h
    · rcases keyIs_shape hv with ⟨j, u, rfl, rfl⟩ | ⟨y, u, rfl, rfl⟩
      · rw [key_rl] at h; exact SeqAt.EqAt.str_int x t j u _ _ _ _ h
      · rw [key_rr] at h; exact wpAny_eqBool_str h
  «strs» := fun k x t v h => by
    rcases keyIs_shape h with ⟨i, u, rfl, e⟩ | ⟨y, u, rfl, e⟩
    · exact nomatch e
    · injection e with e1 _
      subst e1
      cases v <;> rfl
end L2
namespace L2
open PySem PySem.Spec PyProof.Rows
inductive V where
  | non | bl (b : Bool) | int (i : Int) | str (x : Str) | byt (b : Array UInt8) | flt (b : UInt64) | ref (a : Addr) | ty (n : String)
  deriving DecidableEq
def RelV : V → Value → Prop
  | .non, u => u = Value.none
  | .bl b, u => u = Value.bool b
  | .int i, u => ∃ t, u = Value.int i t
  | .str x, u => ∃ t, u = Value.str x t
  | .byt b, u => ∃ t, u = Value.bytes b t
  | .flt b, u => ∃ t, u = Value.float b t
  | .ref a, u => u = Value.ref a
  | .ty n, u => u = Value.type n
abbrev Vals : List V → List Value → Prop := Paired RelV
theorem Vals.length {xs : List V} {us : List Value} (r : Vals xs us) : xs.length = us.length := Paired.length r
theorem Vals.get : ∀ {xs : List V} {us : List Value} {i : Nat} {x : V}, Vals xs us → xs[i]? = some x → ∃ u, us[i]? = some u ∧ RelV x u
  | _, _, _, _, .nil, e => by simp at e
  | _, _, 0, _, .cons r _, e => by simp at e; subst e; exact ⟨_, rfl, r⟩
  | _, _, i + 1, x, .cons _ t, e => by
    obtain ⟨u, h1, h2⟩ := Vals.get (i := i) (x := x) t (by simpa using e)
    exact ⟨u, by simpa using h1, h2⟩
theorem Vals.append : ∀ {xs ys : List V} {us ws : List Value}, Vals xs us → Vals ys ws → Vals (xs ++ ys) (us ++ ws)
  | _, _, _, _, .nil, s => s
  | _, _, _, _, .cons r t, s => .cons r (Vals.append t s)
theorem Vals.take : ∀ {xs : List V} {us : List Value} (n : Nat), Vals xs us → Vals (xs.take n) (us.take n)
  | _, _, 0, _ => .nil
  | _, _, _ + 1, .nil => .nil
  | _, _, n + 1, .cons r t => .cons r (Vals.take n t)
theorem Vals.drop : ∀ {xs : List V} {us : List Value} (n : Nat), Vals xs us → Vals (xs.drop n) (us.drop n)
  | _, _, 0, r => r
  | _, _, _ + 1, .nil => .nil
  | _, _, n + 1, .cons _ t => Vals.drop n t
def RelO : Option V → Option Value → Prop
  | some v, some u => RelV v u
  | none, none => True
  | _, _ => False
def KV {κ : Type} : List (κ × V) → List (κ × Value) → Prop := Paired fun (p : κ × V) (q : κ × Value) => p.1 = q.1 ∧ RelV p.2 q.2
def kV : Key → V
  | .inl i => .int i
  | .inr x => .str x
inductive HO where
  /-- a list -/
  | lst (xs : List V)
  /-- a tuple (never changes) -/
  | tup (xs : List V)
  /-- a dict whose keys are ints and texts; one whose keys are tuples of ints and texts (the empty one is both) -/
  | dK (kvs : List (Key × V)) | dT (kvs : List (List Key × V))
  /-- a set of ints: its members, its size -/
  | set (S : Int → Bool) (n : Nat)
  /-- an instance of the class at C, its dict at dx, its attributes -/
  | ins (C dx : Addr) (fs : List (Str × V))
  /-- the dict of the instance at x -/
  | own (x : Addr)
  /-- the dict of an exception -/
  | xd (fs : List (Str × V))
  /-- a bound method, f of x -/
  | met (f x : Addr)
  /-- a range object lo, lo + 1, .. below hi -/
  | rng (lo hi : Int)
  /-- a thing that is known to the object (the script; a dict while a loop walks it): read, never written while it is so -/
  | frz (o : Obj) (u : HO)
  /-- a code object's table -/
  | tbl (ps : Array Value)
  /-- any other thing, by what is true of its one object (a def of one's own: SetO a S n := HO.ext fun h => ..) -/
  | ext (φ : Heap → Prop)
abbrev Hp := Addr → Option HO
def upd (H : Hp) (a : Addr) (o : HO) : Hp := fun b => if b = a then some o else H b
theorem upd_same {H : Hp} {a : Addr} {o : HO} : upd H a o a = some o := by unfold upd; rw [if_pos rfl]
theorem upd_ne {H : Hp} {a b : Addr} {o : HO} (h : b ≠ a) : upd H a o b = H b := by unfold upd; rw [if_neg h]
theorem upd_upd {H : Hp} {a : Addr} {o u : HO} : upd (upd H a o) a u = upd H a u := by
  funext b; unfold upd; split <;> rfl
theorem ne_of {H : Hp} {a b : Addr} {o u : HO} (h : H a = some o) (h' : H b = some u) (d : o ≠ u) : a ≠ b := by
  intro e; subst e; rw [h] at h'; exact d (Option.some.inj h')
theorem ne_of_none {H : Hp} {a b : Addr} {o : HO} (h : H a = some o) (h' : H b = none) : a ≠ b := by
  intro e; subst e; rw [h] at h'; cases h'
section
variable (P : Program) (w : World)
def ObjOk (H : Hp) (h : Heap) (a : Addr) : HO → Prop
  | .lst xs => xs.length ≤ sizeLine ∧ ∃ (its : List Value) (n : Nat), Vals xs its ∧ h.get? a = some { cls := .type "list", data := .seq its.toArray n }
  | .tup xs => xs.length ≤ sizeLine ∧ ∃ its : List Value, Vals xs its ∧ IsTup h a its.toArray
  | .dK kvs => kvs.length ≤ sizeLine ∧ (a == sysModules) = false ∧ ∃ vs, KV kvs vs ∧ h.DictOf (mixKind P w) a vs
  | .dT kvs => kvs.length ≤ sizeLine ∧ (a == sysModules) = false ∧ ∃ xs : List (List Key × Addr × Value),
      Paired (fun (p : List Key × V) (q : List Key × Addr × Value) => p.1 = q.1 ∧ H q.2.1 = some (.tup (p.1.map kV)) ∧ RelV p.2 q.2.2) kvs xs ∧
      ∃ o es ep, h.get? a = some o ∧ o.ExactDict ∧ o.data = .dict es ep ∧ es.toList = xs.map (entryOfKey (tupleKind (mixKind P w))) ∧ (xs.map (·.1)).Nodup
  | .set S n => h.SetOf (intKind P w) a S n
  | .ins C dx fs => H dx = some (.own a) ∧ fs.length ≤ 1000 ∧ dx ≠ a ∧ h.get? a = some (PySem.W.instObj C dx) ∧
      ∃ mA, h.Ns1 dx mA ∧ (∀ f, RelO (fs.lookup f) (mA f)) ∧ PySem.Within mA (fs.map (·.1))
  | .own _ => ∃ o, h.get? a = some o
  | .xd fs => ∃ mA, h.Ns1 a mA ∧ ∀ f, RelO (fs.lookup f) (mA f)
  | .rng lo hi => ∃ t u v, h.get? a = some { cls := .type "range", data := .fields #[.int lo t, .int hi u, .int 1 v] }
  | .frz o u => h.get? a = some o ∧ ObjOk H h a u
  | .tbl ps => h.get? a = some { cls := .none, data := .fields ps }
  | .met f x => h.get? a = some (PySem.W.methodObj (.ref f) (.ref x))
  | .ext φ => φ h ∧ (∃ o, h.get? a = some o) ∧ ∀ h1 h2 : Heap, φ h1 → (∀ o, h1.get? a = some o → h2.get? a = some o) → φ h2
def HOk (H : Hp) (h : Heap) : Prop := ∀ a o, H a = some o → ObjOk P w H h a o
end
section
variable {P : Program} {w : World} {H H' : Hp} {h h' : Heap} {a : Addr} {o : HO}
theorem ObjOk.lt (x : ObjOk P w H h a o) : a < h.objs.size := by
  cases o with
  | lst xs => obtain ⟨_, _, _, _, e⟩ := x; exact Heap.lt_size e
  | tup xs => obtain ⟨_, _, _, p⟩ := x; exact p.lt
  | dK kvs => obtain ⟨_, _, _, _, o, _, _, e, _⟩ := x; exact Heap.lt_size e
  | dT kvs => obtain ⟨_, _, _, _, o, _, _, e, _⟩ := x; exact Heap.lt_size e
  | set S n => obtain ⟨o, _, _, _, e, _⟩ := x; exact Heap.lt_size e
  | ins C dx fs => obtain ⟨_, _, _, e, _⟩ := x; exact Heap.lt_size e
  | own y => obtain ⟨_, e⟩ := x; exact Heap.lt_size e
  | xd fs => obtain ⟨_, ⟨_, _, _, e, _⟩, _⟩ := x; exact Heap.lt_size e
  | rng lo hi => obtain ⟨_, _, _, e⟩ := x; exact Heap.lt_size e
  | frz ob u => obtain ⟨e, _⟩ := x; exact Heap.lt_size e
  | tbl ps => exact Heap.lt_size (show h.get? a = some _ from x)
  | met f y => exact Heap.lt_size (show h.get? a = some _ from x)
  | ext φ => obtain ⟨_, ⟨_, e⟩, _⟩ := x; exact Heap.lt_size e
theorem Paired.mapP {α β : Type} {F G : α → β → Prop} : ∀ {l₁ : List α} {l₂ : List β}, Paired F l₁ l₂ → (∀ a b, F a b → G a b) → Paired G l₁ l₂
  | _, _, .nil, _ => .nil
  | _, _, .cons r t, f => .cons (f _ _ r) (Paired.mapP t f)
theorem ObjOk.stay (x : ObjOk P w H h a o) (k : ∀ b u, (b = a ∨ H b = some (.own a)) → h.get? b = some u → h'.get? b = some u)
    (ho : ∀ b, H b = some (.own a) → H' b = some (.own a)) (ht : ∀ b xs, H b = some (.tup xs) → H' b = some (.tup xs)) : ObjOk P w H' h' a o := by
  induction o with
  | lst xs => obtain ⟨z, its, n, r, e⟩ := x; exact ⟨z, its, n, r, k _ _ (.inl rfl) e⟩
  | tup xs => obtain ⟨z, its, r, ob, e, c⟩ := x; exact ⟨z, its, r, ob, k _ _ (.inl rfl) e, c⟩
  | dK kvs => obtain ⟨z, y, vs, r, ob, es, ep, e, c⟩ := x; exact ⟨z, y, vs, r, ob, es, ep, k _ _ (.inl rfl) e, c⟩
  | dT kvs =>
    obtain ⟨z, y, xs, r, ob, es, ep, e, c⟩ := x
    exact ⟨z, y, xs, Paired.mapP r fun p q z => ⟨z.1, ht _ _ z.2.1, z.2.2⟩, ob, es, ep, k _ _ (.inl rfl) e, c⟩
  | set S n => obtain ⟨ob, es, ep, t, e, c⟩ := x; exact ⟨ob, es, ep, t, k _ _ (.inl rfl) e, c⟩
  | ins C dx fs =>
    obtain ⟨d, z, ne, e, mA, ⟨od, es, ep, e2, c⟩, r⟩ := x
    exact ⟨ho _ d, z, ne, k _ _ (.inl rfl) e, mA, ⟨od, es, ep, k _ _ (.inr d) e2, c⟩, r⟩
  | own y => obtain ⟨ob, e⟩ := x; exact ⟨ob, k _ _ (.inl rfl) e⟩
  | xd fs => obtain ⟨mA, ⟨od, es, ep, e, c⟩, r⟩ := x; exact ⟨mA, ⟨od, es, ep, k _ _ (.inl rfl) e, c⟩, r⟩
  | rng lo hi => obtain ⟨t, u, v, e⟩ := x; exact ⟨t, u, v, k _ _ (.inl rfl) e⟩
  | frz ob u ih => obtain ⟨e, q⟩ := x; exact ⟨k _ _ (.inl rfl) e, ih q⟩
  | tbl ps =>
    have e : h.get? a = some { cls := .none, data := .fields ps } := x
    show h'.get? a = some { cls := .none, data := .fields ps }
    exact k a _ (.inl rfl) e
  | met f y =>
    have e : h.get? a = some (PySem.W.methodObj (.ref f) (.ref y)) := x
    show h'.get? a = some (PySem.W.methodObj (.ref f) (.ref y))
    exact k a _ (.inl rfl) e
  | ext φ => obtain ⟨p, ⟨o, e⟩, st⟩ := x; exact ⟨st _ _ p fun o q => k _ _ (.inl rfl) q, ⟨o, k _ _ (.inl rfl) e⟩, st⟩
theorem HOk.lt (x : HOk P w H h) (e : H a = some o) : a < h.objs.size := (x a o e).lt
theorem HOk.fresh (x : HOk P w H h) (e : h.objs.size ≤ a) : H a = none := by
  cases q : H a with
  | none => rfl
  | some u => exact absurd (Nat.lt_of_lt_of_le (x.lt q) e) (Nat.lt_irrefl _)
theorem HOk.kept (x : HOk P w H h) (k : ∀ b u, h.get? b = some u → h'.get? b = some u) : HOk P w H h' := fun a o e =>
  (x a o e).stay (fun b u _ q => k b u q) (fun _ q => q) fun _ _ q => q
theorem HOk.laid (x : HOk P w H h) (k : ∀ b u, h.get? b = some u → h'.get? b = some u) (hp : h.objs.size ≤ a) (new : ObjOk P w (upd H a o) h' a o) : HOk P w (upd H a o) h' := fun b u e => by
  have hn := x.fresh hp
  by_cases hb : b = a
  · subst hb; rw [upd_same] at e; cases e; exact new
  · rw [upd_ne hb] at e
    exact (x b u e).stay (fun c v _ q => k c v q) (fun c q => by rw [upd_ne (ne_of_none q hn)]; exact q) fun c xs q => by rw [upd_ne (ne_of_none q hn)]; exact q
end
def Rd (H : Hp) (a : Addr) (u : HO) : Prop := H a = some u ∨ ∃ o, H a = some (.frz o u)
theorem Rd.ok {P : Program} {w : World} {H : Hp} {h : Heap} {a : Addr} {u : HO} (r : Rd H a u) (x : HOk P w H h) : ObjOk P w H h a u := by
  rcases r with r | ⟨o, r⟩
  · exact x a u r
  · obtain ⟨_, q⟩ := x a _ r
    exact q
def Mut : Option HO → Prop
  | some (.lst _) => True
  | some (.dK _) => True
  | some (.dT _) => True
  | some (.set _ _) => True
  | some (.ins _ _ _) => True
  | some (.ext _) => True
  | _ => False
section
variable {P : Program} {w : World} {H : Hp} {h h' : Heap} {x e : Addr} {o' : HO}
theorem HOk.write (ok : HOk P w H h) (mu : Mut (H x)) (he : e = x ∨ H e = some (.own x)) (k : ∀ b u, b ≠ e → h.get? b = some u → h'.get? b = some u) (heo : ∃ u, h'.get? e = some u)
    (new : ObjOk P w (upd H x o') h' x o') : HOk P w (upd H x o') h' := fun b u q => by
  have nown : ∀ c y, H c = some (.own y) → c ≠ x := fun c y r z => by subst z; rw [r] at mu; exact mu
  have ntup : ∀ c xs, H c = some (.tup xs) → c ≠ x := fun c xs r z => by subst z; rw [r] at mu; exact mu
  by_cases hb : b = x
  · subst hb; rw [upd_same] at q; cases q; exact new
  · rw [upd_ne hb] at q
    by_cases hbe : b = e
    · have q' : H b = some (.own x) := by
        rcases he with z | z
        · exact absurd (hbe.trans z) hb
        · rw [hbe]; exact z
      rw [q] at q'; cases q'
      obtain ⟨v, hv⟩ := heo
      exact ⟨v, by rw [hbe]; exact hv⟩
    · refine (ok b u q).stay (fun c v hc r => k c v ?_ r) (fun c r => by rw [upd_ne (nown c b r)]; exact r) fun c xs r => by rw [upd_ne (ntup c xs r)]; exact r
      rcases hc with rfl | hc
      · exact hbe
      · rintro rfl
        rcases he with z | z
        · exact nown c b hc z
        · rw [hc] at z; cases z; exact hb rfl
end
structure Un (fs ex : List Addr) (H H' : Hp) (h h' : Heap) : Prop where
  keep : ∀ b o, h.get? b = some o → H b = none → b ∉ fs → b ∉ ex → h'.get? b = some o
  slot : ∀ b o, h.get? b = some o → H b = none → b ∈ fs → b ∉ ex → ∃ sl, h'.get? b = some { o with slots := sl }
  free : ∀ b o, h.get? b = some o → H b = none → b ∉ ex → H' b = none
  there : ∀ b o, h.get? b = some o → b ∉ ex → ∃ o', h'.get? b = some o'
  tups : ∀ b xs, H b = some (.tup xs) → H' b = some (.tup xs)
  frzs : ∀ b o u, H b = some (.frz o u) → H' b = some (.frz o u)
  tbls : ∀ b ps, H b = some (.tbl ps) → ∃ more, H' b = some (.tbl (ps ++ more))
section
variable {fs fs' ex ex' : List Addr} {H H1 H2 : Hp} {h h1 h2 h' : Heap} {a x e : Addr} {o : HO}
theorem Un.any (u : Un fs ex H H1 h h1) {b : Addr} {ob : Obj} (q : h.get? b = some ob) (n : H b = none) (hx : b ∉ ex) : ∃ sl, h1.get? b = some { ob with slots := sl } := by
  by_cases hb : b ∈ fs
  · exact u.slot b ob q n hb hx
  · exact ⟨ob.slots, u.keep b ob q n hb hx⟩
theorem Un.kept (k : ∀ b u, h.get? b = some u → h'.get? b = some u) : Un fs ex H H h h' :=
  ⟨fun b ob q _ _ _ => k b ob q, fun b ob q _ _ _ => ⟨ob.slots, k b ob q⟩, fun _ _ _ n _ => n, fun b ob q _ => ⟨ob, k b ob q⟩, fun _ _ q => q, fun _ _ _ q => q, fun _ ps q => ⟨#[], by rw [q]; simp⟩⟩
theorem Un.refl : Un fs ex H H h h := Un.kept fun _ _ q => q
theorem Un.laid (k : ∀ b u, h.get? b = some u → h'.get? b = some u) (hp : h.objs.size ≤ a) (hn : H a = none) : Un fs ex H (upd H a o) h h' where
  keep := fun b u q _ _ _ => k b u q
  slot := fun b u q _ _ _ => ⟨u.slots, k b u q⟩
  free := fun b u q n _ => by rw [upd_ne (Nat.ne_of_lt (Nat.lt_of_lt_of_le (Heap.lt_size q) hp))]; exact n
  there := fun b u q _ => ⟨u, k b u q⟩
  tups := fun b xs q => by rw [upd_ne (ne_of_none q hn)]; exact q
  frzs := fun b u xs q => by rw [upd_ne (ne_of_none q hn)]; exact q
  tbls := fun b ps q => ⟨#[], by rw [upd_ne (ne_of_none q hn), q]; simp⟩
theorem Un.write (mu : Mut (H x)) (he : e = x ∨ H e = some (.own x)) (k : ∀ b u, b ≠ e → h.get? b = some u → h'.get? b = some u) (heo : ∃ u, h'.get? e = some u) : Un fs ex H (upd H x o) h h' := by
  have hx : ∀ b, H b = none → b ≠ x := fun b n z => by subst z; rw [n] at mu; exact mu
  have hb : ∀ b, H b = none → b ≠ e := fun b n z => by
    subst z
    rcases he with r | r
    · exact hx b n r
    · rw [n] at r; cases r
  have hm : ∀ b u, H b = some u → ¬ Mut (some u) → b ≠ x := fun b u q nm z => by subst z; rw [q] at mu; exact nm mu
  refine ⟨fun b u q n _ _ => k b u (hb b n) q, fun b u q n _ _ => ⟨u.slots, k b u (hb b n) q⟩, fun b u q n _ => by rw [upd_ne (hx b n)]; exact n, fun b u q _ => ?_,
    fun b xs q => by rw [upd_ne (hm b _ q fun z => z)]; exact q, fun b u xs q => by rw [upd_ne (hm b _ q fun z => z)]; exact q, fun b ps q => ⟨#[], by rw [upd_ne (hm b _ q fun z => z), q]; simp⟩⟩
  by_cases hbe : b = e
  · subst hbe; exact heo
  · exact ⟨u, k b u hbe q⟩
end
def trk (h : Heap) (H : Hp) : List Addr := (List.range h.objs.size).filter fun a => (H a).isSome
def hidT (h : Heap) (H : Hp) : Heap := PySem.W.hideAll h (trk h H)
theorem hidT_size (h : Heap) (H : Hp) : (hidT h H).objs.size = h.objs.size := PySem.W.hideAll_size _ _
theorem hidT_get {h : Heap} {H : Hp} {b : Addr} {o : Obj} (e : h.get? b = some o) (n : H b = none) : (hidT h H).get? b = some o :=
  PySem.W.hideAll_get _ e fun hm => by
    have q : (H b).isSome = true := (List.mem_filter.mp hm).2
    rw [n] at q; simp at q
theorem of_hidT {h : Heap} {H : Hp} {b : Addr} {o : Obj} (e : (hidT h H).get? b = some o) : h.get? b = some o ∧ H b = none := by
  have e' : h.get? b = some o := PySem.W.of_hideAll (trk h H) e
  refine ⟨e', ?_⟩
  cases q : H b with
  | none => rfl
  | some x =>
    have hm : b ∈ trk h H := List.mem_filter.mpr ⟨List.mem_range.mpr (Heap.lt_size e'), by simp [q]⟩
    have z : (hidT h H).get? b = none := PySem.W.hideAll_none (trk h H) hm
    rw [z] at e; cases e
end L2
namespace L2
open PySem PySem.Spec PyProof.Rows
structure Mod (K : PySem.W.Frag) (mg : Str → Option Value) (base : Heap) : Prop where
  kin : K.In base
  glob : base.Ns mainGlobals mg
  blt : ∃ mb, base.Ns builtinsNs mb ∧ ∀ x : Str, x ≠ "__name__" → mb x = bootBuiltins x
  nolimit : base.NoLimit
structure Cx where
  prog : Program
  w : World
  K : PySem.W.Frag
  mg : Str → Option Value
  base : Heap
  A : Around
  N : List Str
  s₀ : Shared
  H₀ : Hp
  env : Env
  outer : List Env
  stack : List Env
  ex : List Addr
  fn : Str → Bool
  calm : Bool
  pn : List (Addr × Obj)
  xe : Value → Shared → Prop
def frs (l : List Env) : List Addr := l.filterMap (·.frame)
abbrev Cx.fs (X : Cx) : List Addr := frs X.outer
def Vis (sc : Scope) (x : Str) : Prop := sc.names.lookup x = some .local ∨ sc.names.lookup x = some .cell ∨ sc.names.lookup x = some .free
def Loc (sc : Scope) (x : Str) : Prop := sc.names.lookup x = some .local ∨ sc.names.lookup x = some .cell
def Look (env : Env) (h : Heap) (m : Str → Option Value) (x : Str) (u : Value) : Prop :=
  (env.kindOf x = some .local ∧ m x = some u) ∨ ((env.kindOf x = some .cell ∨ env.kindOf x = some .free) ∧ ∃ c, env.cells.lookup x = some c ∧ h.IsCell c (some u))
structure Cx.Ok (X : Cx) : Prop where
  mod : Mod X.K X.mg X.base
  kind : X.env.scope.kind = .function
  glob : X.env.globals = mainGlobals
  blt : X.env.builtins = builtinsNs
  above : X.s₀.heap.objs.size ≤ X.env.locals
  inj : ∀ x y c, X.env.cells.lookup x = some c → X.env.cells.lookup y = some c → x = y
  has : ∀ x, (X.env.kindOf x = some .cell ∨ X.env.kindOf x = some .free) → ∃ c, X.env.cells.lookup x = some c
  cab : ∀ x c, X.fn x = true → X.env.cells.lookup x = some c → X.s₀.heap.objs.size ≤ c
  hd : X.calm = true → X.A.handled = none
  frames : X.A.frames = some X.stack
  stk : X.stack = X.outer ∨ (X.stack = X.env :: X.outer ∧ X.env.frame = some X.env.locals)
  exf : ∀ b ∈ X.ex, b ≠ X.env.locals ∧ ∀ x c, X.env.cells.lookup x = some c → c ≠ b
  bs : ∀ b o, X.base.get? b = some o → X.s₀.heap.get? b = some o ∧ X.H₀ b = none
  bsz : X.base.objs.size ≤ X.s₀.heap.objs.size
  noex : ∀ b o, X.base.get? b = some o → b ∉ X.ex
  exfs : ∀ b ∈ X.ex, b ∉ X.fs
  funs : X.s₀.heap.FunFrames X.base X.outer
  frf : ∀ b ∈ X.fs, X.H₀ b = none
structure Inv (X : Cx) (pins : List (Addr × Obj)) (σ : List (Option V)) (H : Hp) (s : Shared) : Prop where
  ok : X.Ok
  os : s.os = X.s₀.os
  bare : AllBare s.gens
  base : Un X.fs X.ex X.H₀ H X.s₀.heap s.heap
  loc : ∃ m, s.heap.Ns X.env.locals m ∧ ∀ (i : Nat) (x : Str) (v : V), X.N[i]? = some x → σ[i]? = some (some v) → Vis X.env.scope x → ∃ u, RelV v u ∧ Look X.env s.heap m x u
  cell : ∀ x c, X.env.cells.lookup x = some c → ∃ v, s.heap.IsCell c v
  free : H X.env.locals = none
  freeC : ∀ x c, X.env.cells.lookup x = some c → H c = none
  pin : ∀ p ∈ X.pn ++ pins, s.heap.get? p.1 = some p.2 ∧ H p.1 = none ∧ p.1 ≠ X.env.locals ∧ p.1 ∉ X.fs ∧ ∀ v, p.2.data ≠ .cell v
  hok : HOk X.prog X.w H s.heap
  len : σ.length = X.N.length
section
variable {X : Cx} {pins : List (Addr × Obj)} {σ : List (Option V)} {H H' : Hp} {s : Shared} {h' : Heap}
theorem Cx.Ok.nofr (ok : X.Ok) {b : Addr} {o : Obj} (e : X.base.get? b = some o) : b ∉ X.fs := fun hb => by
  have := (ok.funs.mem hb).1
  rw [e] at this; cases this
theorem Inv.bs (I : Inv X pins σ H s) : ∀ b o, X.base.get? b = some o → s.heap.get? b = some o ∧ H b = none := fun b o e =>
  ⟨I.base.keep b o (I.ok.bs b o e).1 (I.ok.bs b o e).2 (I.ok.nofr e) (I.ok.noex b o e), I.base.free b o (I.ok.bs b o e).1 (I.ok.bs b o e).2 (I.ok.noex b o e)⟩
theorem Inv.bk (I : Inv X pins σ H s) : ∀ b o, X.base.get? b = some o → s.heap.get? b = some o := fun b o e => (I.bs b o e).1
theorem Inv.mod (I : Inv X pins σ H s) : Mod X.K X.mg X.base := I.ok.mod
theorem Inv.kIn (I : Inv X pins σ H s) : X.K.In s.heap := I.ok.mod.kin.keeps I.bk
theorem Inv.lt (I : Inv X pins σ H s) : X.env.locals < s.heap.objs.size := let ⟨_, hn, _⟩ := I.loc; hn.lt
theorem Inv.sz (I : Inv X pins σ H s) : X.s₀.heap.objs.size ≤ s.heap.objs.size := Nat.le_trans I.ok.above (Nat.le_of_lt I.lt)
theorem Inv.nofs (I : Inv X pins σ H s) {a : Addr} (h : s.heap.objs.size ≤ a) : a ∉ X.fs := fun hb => by
  obtain ⟨_, o, ho, _⟩ := I.ok.funs.mem hb
  exact absurd (Nat.lt_of_lt_of_le (Heap.lt_size ho) (Nat.le_trans I.sz h)) (Nat.lt_irrefl _)
theorem Inv.cne (I : Inv X pins σ H s) : ∀ x c, X.env.cells.lookup x = some c → c ≠ X.env.locals := fun x c e z => by
  obtain ⟨v, o, ho, hd⟩ := I.cell x c e
  obtain ⟨m, ⟨o', es, ep, ho', hd', _⟩, _⟩ := I.loc
  rw [z, ho'] at ho; cases ho; rw [hd'] at hd; cases hd
theorem Inv.funs (I : Inv X pins σ H s) : s.heap.FunFrames X.base X.outer := by
  have all : ∀ (l : List Env), (∀ b ∈ frs l, b ∈ X.fs) → X.s₀.heap.FunFrames X.base l → s.heap.FunFrames X.base l := by
    intro l
    induction l with
    | nil => intro _ _; trivial
    | cons env r ih =>
      intro hs hl
      obtain ⟨hk, ⟨L, o, hf, hn, ho, hd⟩, hr⟩ := hl
      have hL : L ∈ X.fs := hs L (by unfold frs; rw [List.filterMap_cons, hf]; exact List.mem_cons_self)
      obtain ⟨sl, e⟩ := I.base.slot L o ho (I.ok.frf L hL) hL fun z => I.ok.exfs L z hL
      exact ⟨hk, ⟨L, _, hf, hn, e, hd⟩, ih (fun b hb => hs b (by unfold frs; rw [List.filterMap_cons, hf]; exact List.mem_cons_of_mem _ hb)) hr⟩
  exact all X.outer (fun _ hb => hb) I.ok.funs
theorem Inv.stack (I : Inv X pins σ H s) : s.heap.FunFrames X.base X.stack := by
  rcases I.ok.stk with e | ⟨e, hf⟩
  · rw [e]; exact I.funs
  · rw [e]
    obtain ⟨m, hn, _⟩ := I.loc
    refine .cons (by rw [I.ok.kind]; decide) hf hn ?_ I.funs
    exact Heap.get?_none_of_le (Nat.le_trans I.ok.bsz I.ok.above)
theorem Inv.stkSub (I : Inv X pins σ H s) : ∀ b ∈ frs X.stack, b ∈ X.env.locals :: X.fs := fun b hb => by
  rcases I.ok.stk with e | ⟨e, hf⟩
  · rw [e] at hb; exact List.mem_cons_of_mem _ hb
  · rw [e] at hb
    unfold frs at hb
    rw [List.filterMap_cons, hf] at hb
    exact hb
theorem Inv.stkFree (I : Inv X pins σ H s) : ∀ b ∈ frs X.stack, H b = none := fun b hb => by
  rcases List.mem_cons.mp (I.stkSub b hb) with e | hb
  · rw [e]; exact I.free
  · obtain ⟨_, o, ho, _⟩ := I.ok.funs.mem hb
    exact I.base.free b o ho (I.ok.frf b hb) fun z => I.ok.exfs b z hb
theorem Inv.step {g' : Array GenState} {t' : Nat} {d' : Drawn} {ch : List Addr} (I : Inv X pins σ H s)
    (hch : ∀ b ∈ ch, (b ∈ X.ex ∨ X.s₀.heap.objs.size ≤ b) ∧ b ≠ X.env.locals ∧ (∀ x c, X.env.cells.lookup x = some c → c ≠ b) ∧ ∀ p ∈ X.pn ++ pins, p.1 ≠ b)
    (keep : ∀ b o, b ≠ X.env.locals → b ∉ X.fs → b ∉ ch → s.heap.get? b = some o → H b = none → h'.get? b = some o)
    (slot : ∀ b o, b ≠ X.env.locals → b ∈ X.fs → b ∉ ch → s.heap.get? b = some o → H b = none → ∃ sl, h'.get? b = some { o with slots := sl }) (free : ∀ b o, b ∉ ch → s.heap.get? b = some o → H b = none → H' b = none)
    (there : ∀ b o, b ∉ ch → s.heap.get? b = some o → ∃ o', h'.get? b = some o')
    (tups : ∀ b xs, H b = some (.tup xs) → H' b = some (.tup xs)) (frzs : ∀ b o u, H b = some (.frz o u) → H' b = some (.frz o u)) (tbls : ∀ b ps, H b = some (.tbl ps) → ∃ more, H' b = some (.tbl (ps ++ more)))
    (ns : ∀ m, s.heap.Ns X.env.locals m → h'.Ns X.env.locals m) (hok : HOk X.prog X.w H' h') (hg : AllBare g') :
    Inv X pins σ H' { s with heap := h', gens := g', drawn := d', toks := t' } := by
  have neL : ∀ b o, X.s₀.heap.get? b = some o → b ≠ X.env.locals := fun b o e => Nat.ne_of_lt (Nat.lt_of_lt_of_le (Heap.lt_size e) I.ok.above)
  have neC : ∀ b o, X.s₀.heap.get? b = some o → b ∉ X.ex → b ∉ ch := fun b o e hx hb => by
    rcases (hch b hb).1 with z | z
    · exact hx z
    · exact absurd (Nat.lt_of_lt_of_le (Heap.lt_size e) z) (Nat.lt_irrefl _)
  have cellK : ∀ x c, X.env.cells.lookup x = some c → ∀ v, s.heap.IsCell c v → h'.IsCell c v := fun x c e v ⟨o, ho, hd⟩ => by
    have nch : c ∉ ch := fun z => (hch c z).2.2.1 x c e rfl
    by_cases hc : c ∈ X.fs
    · obtain ⟨sl, q⟩ := slot c o (I.cne x c e) hc nch ho (I.freeC x c e)
      exact ⟨_, q, hd⟩
    · exact ⟨o, keep c o (I.cne x c e) hc nch ho (I.freeC x c e), hd⟩
  refine ⟨I.ok, I.os, hg, ⟨fun b o e n hb hx => ?_, fun b o e n hb hx => ?_, fun b o e n hx => ?_, fun b o e hx => ?_, fun b xs e => tups b xs (I.base.tups b xs e), fun b o xs e => frzs b o xs (I.base.frzs b o xs e), fun b ps e => ?_⟩, ?_, fun x c e => ?_, ?_, fun x c e => ?_, fun p hp => ?_, hok, I.len⟩
  · exact keep b o (neL b o e) hb (neC b o e hx) (I.base.keep b o e n hb hx) (I.base.free b o e n hx)
  · obtain ⟨sl, e1⟩ := I.base.slot b o e n hb hx
    obtain ⟨sl', e2⟩ := slot b _ (neL b o e) hb (neC b o e hx) e1 (I.base.free b o e n hx)
    exact ⟨sl', e2⟩
  · obtain ⟨o', e1⟩ := I.base.there b o e hx
    exact free b o' (neC b o e hx) e1 (I.base.free b o e n hx)
  · obtain ⟨o', e1⟩ := I.base.there b o e hx
    exact there b o' (neC b o e hx) e1
  · obtain ⟨m1, e1⟩ := I.base.tbls b ps e
    obtain ⟨m2, e2⟩ := tbls b _ e1
    exact ⟨m1 ++ m2, by rw [e2, Array.append_assoc]⟩
  · obtain ⟨m, hn, hl⟩ := I.loc
    refine ⟨m, ns m hn, fun i x v e1 e2 e3 => ?_⟩
    obtain ⟨u, r, l⟩ := hl i x v e1 e2 e3
    refine ⟨u, r, ?_⟩
    rcases l with l | ⟨k, c, e, z⟩
    · exact .inl l
    · exact .inr ⟨k, c, e, cellK x c e _ z⟩
  · obtain ⟨v, z⟩ := I.cell x c e
    exact ⟨v, cellK x c e v z⟩
  · obtain ⟨m, ⟨o, _, _, ho, _⟩, _⟩ := I.loc
    exact free _ o (fun z => (hch _ z).2.1 rfl) ho I.free
  · obtain ⟨v, o, ho, hd⟩ := I.cell x c e
    exact free c o (fun z => (hch c z).2.2.1 x c e rfl) ho (I.freeC x c e)
  · obtain ⟨e, n, ne, nf, d⟩ := I.pin p hp
    have nch : p.1 ∉ ch := fun z => (hch p.1 z).2.2.2 p hp rfl
    exact ⟨keep p.1 p.2 ne nf nch e n, free p.1 p.2 nch e n, ne, nf, d⟩
theorem Inv.un {t' : Nat} (I : Inv X pins σ H s) (u : Un X.fs [] H H' s.heap h') (hok : HOk X.prog X.w H' h') : Inv X pins σ H' { s with heap := h', toks := t' } := by
  obtain ⟨m, ⟨o, es, ep, ho, r⟩, _⟩ := id I.loc
  obtain ⟨sl, hL⟩ := u.any ho I.free (by simp)
  exact I.step (g' := s.gens) (d' := s.drawn) (ch := []) (fun _ z => nomatch z) (fun b o _ hb _ e n => u.keep b o e n hb (by simp)) (fun b o _ hb _ e n => u.slot b o e n hb (by simp)) (fun b o _ e n => u.free b o e n (by simp)) (fun b o _ e => u.there b o e (by simp)) u.tups u.frzs u.tbls (fun m' hm => by
    obtain ⟨o', es', ep', ho', r'⟩ := hm
    rw [ho] at ho'; cases ho'
    exact ⟨_, es', ep', hL, r'⟩) hok I.bare
theorem Inv.call {g' : Array GenState} {t' : Nat} {d' : Drawn} {ch : List Addr} (I : Inv X pins σ H s) (u : Un (frs X.stack) ch H H' s.heap h') (hok : HOk X.prog X.w H' h') (hg : AllBare g')
    (hch : ∀ b ∈ ch, (b ∈ X.ex ∨ X.s₀.heap.objs.size ≤ b) ∧ b ≠ X.env.locals ∧ (∀ x c, X.env.cells.lookup x = some c → c ≠ b) ∧ ∀ p ∈ X.pn ++ pins, p.1 ≠ b) :
    Inv X pins σ H' { s with heap := h', gens := g', drawn := d', toks := t' } := by
  obtain ⟨m, ⟨o, es, ep, ho, r⟩, _⟩ := id I.loc
  obtain ⟨sl, hL⟩ := u.any ho I.free fun z => (hch _ z).2.1 rfl
  exact I.step (ch := ch) hch (fun b o hL hb hc e n => u.keep b o e n (fun z => (List.mem_cons.mp (I.stkSub b z)).elim hL hb) hc) (fun b o _ _ hc e n => u.any e n hc) (fun b o hc e n => u.free b o e n hc) (fun b o hc e => u.there b o e hc) u.tups u.frzs u.tbls (fun m' hm => by
    obtain ⟨o', es', ep', ho', r'⟩ := hm
    rw [ho] at ho'; cases ho'
    exact ⟨_, es', ep', hL, r'⟩) hok hg
theorem Inv.turned {t' : Nat} {it : Addr} (I : Inv X pins σ H s) (k : ∀ b o, b ≠ it → s.heap.get? b = some o → h'.get? b = some o) (hn : H it = none) (hL : it ≠ X.env.locals)
    (h1 : it ∈ X.ex ∨ X.s₀.heap.objs.size ≤ it) (h2 : ∀ x c, X.env.cells.lookup x = some c → c ≠ it) (h3 : ∀ p ∈ X.pn ++ pins, p.1 ≠ it) : Inv X pins σ H { s with heap := h', toks := t' } := by
  have nit : ∀ b u, H b = some u → b ≠ it := fun b u e z => by rw [z, hn] at e; cases e
  refine I.step (g' := s.gens) (d' := s.drawn) (ch := [it]) (fun b hb => ?_) (fun b o _ _ hc e _ => k b o (fun z => hc (by simp [z])) e) (fun b o _ _ hc e _ => ⟨o.slots, k b o (fun z => hc (by simp [z])) e⟩) (fun _ _ _ _ n => n)
    (fun b o hc e => ⟨o, k b o (fun z => hc (by simp [z])) e⟩) (fun _ _ e => e) (fun _ _ _ e => e) (fun b ps e => ⟨#[], by rw [e]; simp⟩) (fun m hm => ?_) (fun b u e => ?_) I.bare
  · have e : b = it := by simpa using hb
    subst e
    exact ⟨h1, hL, h2, h3⟩
  · obtain ⟨o, es, ep, ho, r⟩ := hm
    exact ⟨o, es, ep, k _ o (Ne.symm hL) ho, r⟩
  · refine (I.hok b u e).stay (fun c v hc q => k c v ?_ q) (fun _ q => q) fun _ _ q => q
    rcases hc with z | z
    · rw [z]; exact nit b u e
    · exact nit c _ z
theorem Inv.tok (I : Inv X pins σ H s) (t : Nat) : Inv X pins σ H { s with toks := t } := I.un (h' := s.heap) (t' := t) Un.refl I.hok
theorem Inv.kept {t' : Nat} (I : Inv X pins σ H s) (k : ∀ b u, s.heap.get? b = some u → h'.get? b = some u) : Inv X pins σ H { s with heap := h', toks := t' } := I.un (Un.kept k) (I.hok.kept k)
theorem Inv.laid {a : Addr} {o : HO} {t' : Nat} (I : Inv X pins σ H s) (k : ∀ b u, s.heap.get? b = some u → h'.get? b = some u) (hp : s.heap.objs.size ≤ a) (new : ObjOk X.prog X.w (upd H a o) h' a o) :
    Inv X pins σ (upd H a o) { s with heap := h', toks := t' } := I.un (Un.laid k hp (I.hok.fresh hp)) (I.hok.laid k hp new)
theorem Inv.write {x e : Addr} {o : HO} {t' : Nat} (I : Inv X pins σ H s) (mu : Mut (H x)) (he : e = x ∨ H e = some (.own x)) (k : ∀ b u, b ≠ e → s.heap.get? b = some u → h'.get? b = some u) (heo : ∃ u, h'.get? e = some u)
    (new : ObjOk X.prog X.w (upd H x o) h' x o) : Inv X pins σ (upd H x o) { s with heap := h', toks := t' } := I.un (Un.write mu he k heo) (I.hok.write mu he k heo new)
theorem Inv.pins_of {pins' : List (Addr × Obj)} (I : Inv X pins σ H s) (h : ∀ p ∈ pins', s.heap.get? p.1 = some p.2 ∧ H p.1 = none ∧ p.1 ≠ X.env.locals ∧ p.1 ∉ X.fs ∧ ∀ v, p.2.data ≠ .cell v) : Inv X pins' σ H s :=
  ⟨I.ok, I.os, I.bare, I.base, I.loc, I.cell, I.free, I.freeC, fun p hp => (List.mem_append.mp hp).elim (fun z => I.pin p (List.mem_append_left _ z)) (h p), I.hok, I.len⟩
theorem nodup_ix {N : List Str} (hN : N.Nodup) {i j : Nat} {x : Str} (a : N[i]? = some x) (b : N[j]? = some x) : i = j := by
  obtain ⟨h1, e1⟩ := List.getElem?_eq_some_iff.mp a
  obtain ⟨h2, e2⟩ := List.getElem?_eq_some_iff.mp b
  exact (List.getElem_inj hN).mp (e1.trans e2.symm)
theorem store_ok2 {M : Model} {A : Around} {E : Value → Shared → Prop} {i : Nat} {x : Str} {v : V} {u : Value} {Q : Unit → Shared → Prop} (I : Inv X pins σ H s) (hN : X.N.Nodup) (hi : X.N[i]? = some x) (hx : Loc X.env.scope x) (r : RelV v u)
    (h : ∀ s', Inv X pins (σ.set i (some v)) H s' → (∃ a, Heap.SameBut a s.heap s'.heap ∧ (a = X.env.locals ∨ X.env.cells.lookup x = some a)) → Q () s') (hf : X.fn x = true ∨ X.env.scope.names.lookup x = some .local := by first | exact .inl rfl | exact .inr rfl | assumption) : wpAny M A (storeName X.env x u) Q E s := by
  obtain ⟨m, hn, hl⟩ := id I.loc
  have hcls : (X.env.scope.kind == .class || (X.env.scope.kind == .module && X.env.locals != X.env.globals)) = false := by rw [I.ok.kind]; rfl
  have hiσ : i < σ.length := by rw [I.len]; exact (List.getElem?_eq_some_iff.mp hi).1
  have cne := I.cne
  have tracked : ∀ {a : Addr} {h' : Heap}, (∃ o, s.heap.get? a = some o ∧ H a = none) → Heap.SameBut a s.heap h' → HOk X.prog X.w H h' := fun {a h'} ha hs b ob e => by
    obtain ⟨_, _, hfree⟩ := ha
    refine (I.hok b ob e).stay (fun c w' hc q => (hs.2 c ?_).trans q) (fun _ q => q) fun _ _ q => q
    rintro rfl
    rcases hc with rfl | hc
    · rw [hfree] at e; cases e
    · rw [hfree] at hc; cases hc
  rcases hx with hk | hk
  · refine wpAny_storeName_local hk hn (fun h' hn' hs => ?_) hcls
    obtain ⟨oL, _, _, hoL, _⟩ := id hn
    refine h _ ⟨I.ok, I.os, I.bare, ⟨fun b o e n hb hx => ?_, fun b o e n hb hx => ?_, I.base.free, fun b o e hx => ?_, I.base.tups, I.base.frzs, I.base.tbls⟩, ⟨_, hn', fun j y v' e1 e2 e3 => ?_⟩, fun y c e => ?_, I.free, I.freeC, fun p hp => ?_, tracked ⟨oL, hoL, I.free⟩ hs, by simpa using I.len⟩ ⟨_, hs, .inl rfl⟩
    · exact (hs.2 b (Nat.ne_of_lt (Nat.lt_of_lt_of_le (Heap.lt_size e) I.ok.above))).trans (I.base.keep b o e n hb hx)
    · obtain ⟨sl, e1⟩ := I.base.slot b o e n hb hx
      exact ⟨sl, (hs.2 b (Nat.ne_of_lt (Nat.lt_of_lt_of_le (Heap.lt_size e) I.ok.above))).trans e1⟩
    · obtain ⟨o', e1⟩ := I.base.there b o e hx
      exact ⟨o', (hs.2 b (Nat.ne_of_lt (Nat.lt_of_lt_of_le (Heap.lt_size e) I.ok.above))).trans e1⟩
    · by_cases hj : j = i
      · subst hj
        rw [hi] at e1; cases e1
        rw [List.getElem?_set_self hiσ] at e2
        cases e2
        exact ⟨u, r, .inl ⟨hk, by simp⟩⟩
      · rw [List.getElem?_set_ne (Ne.symm hj)] at e2
        obtain ⟨u', r', q⟩ := hl j y v' e1 e2 e3
        refine ⟨u', r', ?_⟩
        rcases q with ⟨k, e⟩ | ⟨k, c, e, z⟩
        · refine .inl ⟨k, ?_⟩
          have : y ≠ x := fun e => hj (nodup_ix hN e1 (e ▸ hi))
          simp [this, e]
        · exact .inr ⟨k, c, e, z.sameBut hs (cne y c e)⟩
    · obtain ⟨w', z⟩ := I.cell y c e
      exact ⟨w', z.sameBut hs (cne y c e)⟩
    · obtain ⟨e, n, ne, nf, d⟩ := I.pin p hp
      exact ⟨(hs.2 p.1 ne).trans e, n, ne, nf, d⟩
  · have hfn : X.fn x = true := by
      rcases hf with z | z
      · exact z
      · rw [z] at hk; cases hk
    obtain ⟨c, hc⟩ := I.ok.has x (.inl hk)
    obtain ⟨w', z⟩ := I.cell x c hc
    refine wpAny_storeName_cell I.ok.kind hk hc z (fun h' hc' hs => ?_)
    obtain ⟨oc, hoc, hocd⟩ := id z
    refine h { s with heap := h' } ⟨I.ok, I.os, I.bare, ⟨fun b o e n hb hx => ?_, fun b o e n hb hx => ?_, I.base.free, fun b o e hx => ?_, I.base.tups, I.base.frzs, I.base.tbls⟩, ⟨m, hn.sameBut hs (Ne.symm (cne x c hc)), fun j y v' e1 e2 e3 => ?_⟩, fun y c' e => ?_, I.free, I.freeC, fun p hp => ?_, tracked ⟨oc, hoc, I.freeC x c hc⟩ hs, by simpa using I.len⟩ ⟨c, hs, .inr hc⟩
    · exact (hs.2 b (Nat.ne_of_lt (Nat.lt_of_lt_of_le (Heap.lt_size e) (I.ok.cab x c hfn hc)))).trans (I.base.keep b o e n hb hx)
    · obtain ⟨sl, e1⟩ := I.base.slot b o e n hb hx
      exact ⟨sl, (hs.2 b (Nat.ne_of_lt (Nat.lt_of_lt_of_le (Heap.lt_size e) (I.ok.cab x c hfn hc)))).trans e1⟩
    · obtain ⟨o', e1⟩ := I.base.there b o e hx
      exact ⟨o', (hs.2 b (Nat.ne_of_lt (Nat.lt_of_lt_of_le (Heap.lt_size e) (I.ok.cab x c hfn hc)))).trans e1⟩
    · by_cases hj : j = i
      · subst hj
        rw [hi] at e1; cases e1
        rw [List.getElem?_set_self hiσ] at e2
        cases e2
        exact ⟨u, r, .inr ⟨.inl hk, c, hc, hc'⟩⟩
      · rw [List.getElem?_set_ne (Ne.symm hj)] at e2
        obtain ⟨u', r', q⟩ := hl j y v' e1 e2 e3
        refine ⟨u', r', ?_⟩
        rcases q with q | ⟨k, c', e, z'⟩
        · exact .inl q
        · refine .inr ⟨k, c', e, z'.sameBut hs ?_⟩
          rintro rfl
          exact hj (nodup_ix hN e1 (I.ok.inj _ _ _ e hc ▸ hi))
    · by_cases hcc : c' = c
      · subst hcc; exact ⟨_, hc'⟩
      · obtain ⟨w2, z2⟩ := I.cell y c' e
        exact ⟨w2, z2.sameBut hs hcc⟩
    · obtain ⟨e, n, ne, nf, d⟩ := I.pin p hp
      refine ⟨(hs.2 p.1 ?_).trans e, n, ne, nf, d⟩
      intro q
      rw [q, hoc] at e
      have q' : oc = p.2 := Option.some.inj e
      exact d w' (by rw [← q']; exact hocd)
theorem store_ok {M : Model} {A : Around} {E : Value → Shared → Prop} {i : Nat} {x : Str} {v : V} {u : Value} {Q : Unit → Shared → Prop} (I : Inv X pins σ H s) (hN : X.N.Nodup) (hi : X.N[i]? = some x) (hx : Loc X.env.scope x) (r : RelV v u)
    (h : ∀ s', Inv X pins (σ.set i (some v)) H s' → Q () s') (hf : X.fn x = true ∨ X.env.scope.names.lookup x = some .local := by first | exact .inl rfl | exact .inr rfl | assumption) : wpAny M A (storeName X.env x u) Q E s :=
  store_ok2 I hN hi hx r (fun s' I' _ => h s' I') hf
theorem Inv.call' {s' : Shared} {ch : List Addr} (I : Inv X pins σ H s) (ho : s'.os = s.os) (u : Un (frs X.stack) ch H H' s.heap s'.heap) (hok : HOk X.prog X.w H' s'.heap) (hg : AllBare s'.gens)
    (hch : ∀ b ∈ ch, (b ∈ X.ex ∨ X.s₀.heap.objs.size ≤ b) ∧ b ≠ X.env.locals ∧ (∀ x c, X.env.cells.lookup x = some c → c ≠ b) ∧ ∀ p ∈ X.pn ++ pins, p.1 ≠ b) : Inv X pins σ H' s' := by
  obtain ⟨h', g', d', t', o'⟩ := s'
  have e : o' = s.os := ho
  subst e
  exact I.call (g' := g') (t' := t') (d' := d') u hok hg hch
end
abbrev XK := Value → Option Addr → Hp → Prop
abbrev St := List (Option V)
abbrev VK := V → Hp → Prop
abbrev TE := St → Hp → VK → Prop
abbrev TT := St → Hp → (Bool → Hp → Prop) → Prop
abbrev TA := St → Hp → (List V → Hp → Prop) → Prop
structure Ends where
  nx : St → Hp → Prop
  rt : VK
  bk : St → Hp → Prop := fun _ _ => False
  ct : St → Hp → Prop := fun _ _ => False
abbrev TS := Ends → St → Hp → Prop
def EP (X : Cx) (pins : List (Addr × Obj)) (σ : St) (Q : VK) (u : Value) (s' : Shared) : Prop := ∃ v H', Inv X pins σ H' s' ∧ RelV v u ∧ Q v H'
def TP (X : Cx) (pins : List (Addr × Obj)) (σ : St) (Q : Bool → Hp → Prop) (b : Bool) (s' : Shared) : Prop := ∃ H', Inv X pins σ H' s' ∧ Q b H'
def AP (X : Cx) (pins : List (Addr × Obj)) (σ : St) (Q : List V → Hp → Prop) (us : List Value) (s' : Shared) : Prop := ∃ vs H', Inv X pins σ H' s' ∧ Vals vs us ∧ Q vs H'
def SP (X : Cx) (pins : List (Addr × Obj)) (D : Ends) (f : Flow) (s' : Shared) : Prop :=
  match f with
  | .next => ∃ σ' H', Inv X pins σ' H' s' ∧ D.nx σ' H'
  | .brk => ∃ σ' H', Inv X pins σ' H' s' ∧ D.bk σ' H'
  | .cont => ∃ σ' H', Inv X pins σ' H' s' ∧ D.ct σ' H'
  | .ret u => ∃ v σ' H', Inv X pins σ' H' s' ∧ RelV v u ∧ D.rt v H'
def PE (X : Cx) (e : Expr) (t : TE) : Prop :=
  ∀ (pins : List (Addr × Obj)) (s : Shared) (σ : St) (H : Hp) (Q : VK), Inv X pins σ H s → t σ H Q → wpAny (model X.prog X.w) X.A (eval e X.env) (EP X pins σ Q) X.xe s
def PT (X : Cx) (e : Expr) (t : TT) : Prop :=
  ∀ (pins : List (Addr × Obj)) (s : Shared) (σ : St) (H : Hp) (Q : Bool → Hp → Prop), Inv X pins σ H s → t σ H Q → wpAny (model X.prog X.w) X.A (isTrue e X.env (eval e X.env)) (TP X pins σ Q) X.xe s
def PW (X : Cx) (e : Expr) (t : TT) : Prop :=
  ∀ (whole : Sem Value) (pins : List (Addr × Obj)) (s : Shared) (σ : St) (H : Hp) (Q : Bool → Hp → Prop), Inv X pins σ H s → t σ H Q → wpAny (model X.prog X.w) X.A (isTrue e X.env whole) (TP X pins σ Q) X.xe s
theorem PW.pt {X : Cx} {e : Expr} {t : TT} (h : PW X e t) : PT X e t := h _
def PA (X : Cx) (es : List Expr) (t : TA) : Prop :=
  ∀ (pos : Pos) (pins : List (Addr × Obj)) (s : Shared) (σ : St) (H : Hp) (Q : List V → Hp → Prop), Inv X pins σ H s → t σ H Q → wpAny (model X.prog X.w) X.A (spliced (backTo pos (starEach es X.env))) (AP X pins σ Q) X.xe s
def PS (X : Cx) (st : Stmt) (t : TS) : Prop :=
  ∀ (pins : List (Addr × Obj)) (s : Shared) (σ : St) (H : Hp) (D : Ends), Inv X pins σ H s → t D σ H → wpAny (model X.prog X.w) X.A (exec st X.env) (SP X pins D) X.xe s
def PSs (X : Cx) (st : List Stmt) (t : TS) : Prop :=
  ∀ (pins : List (Addr × Obj)) (s : Shared) (σ : St) (H : Hp) (D : Ends), Inv X pins σ H s → t D σ H → wpAny (model X.prog X.w) X.A (execs st X.env) (SP X pins D) X.xe s
theorem thn {α : Type} {t : Sem α} {Q Q' : α → Shared → Prop} {M : Model} {A : Around} {E : Value → Shared → Prop} {s : Shared} (h : wpAny M A t Q E s) (hQ : ∀ a s, Q a s → Q' a s) : wpAny M A t Q' E s := wpAny_mono h hQ fun _ _ x => x
end L2
namespace L2
open PySem PySem.Spec PyProof.Rows
section
variable {X : Cx}
def tVar (i : Nat) : TE := fun σ H Q => ∃ v, σ[i]? = some (some v) ∧ Q v H
def tC (v : V) : TE := fun _ H Q => Q v H
theorem pe_var {i : Nat} {x : Str} {pos : Pos} (hN : X.N[i]? = some x) (hv : Vis X.env.scope x) (hd : (x == ("__debug__" : Str)) = false := by decide) (hcd : (x == ("__classdict__" : Str)) = false := by decide) : PE X (.Name x pos) (tVar i) := by
  intro pins s σ H Q I h
  obtain ⟨v, e, h⟩ := h
  obtain ⟨m, hn, hl⟩ := I.loc
  obtain ⟨u, r, l⟩ := hl i x v hN e hv
  have fin : EP X pins σ Q u s := ⟨v, H, I, r, h⟩
  rcases l with ⟨hk, hm⟩ | ⟨hk, c, hc, hcell⟩
  · exact wpAny_Name (wpAny_loadName_local I.ok.kind hk hn hm fin) hd
  · rcases hk with hk | hk
    · exact wpAny_Name (wpAny_loadName_cell I.ok.kind hk hc hcell fin) hd
    · exact wpAny_Name (wpAny_loadName_free I.ok.kind hk hc hcell fin hcd) hd
theorem pe_int {i j pos} : PE X (.Constant (.int i) j pos) (tC (.int i)) := fun _ _ _ H _ I h => wpAny_Constant_int ⟨.int i, H, I.tok _, ⟨_, rfl⟩, h⟩
theorem pe_bl {b j pos} : PE X (.Constant (.bool b) j pos) (tC (.bl b)) := fun _ _ _ H _ I h => Constant_bool ⟨.bl b, H, I, rfl, h⟩
theorem pe_non {j pos} : PE X (.Constant .none j pos) (tC .non) := fun _ _ _ H _ I h => Constant_none ⟨.non, H, I, rfl, h⟩
theorem pe_str {x j pos} : PE X (.Constant (.str x) j pos) (tC (.str x)) := fun _ _ _ H _ I h => Calls.Constant_str ⟨.str x, H, I.tok _, ⟨_, rfl⟩, h⟩
def Gl (X : Cx) (x : Str) : Prop := X.env.kindOf x = some .globalImplicit
theorem ld_glob {E : Value → Shared → Prop} {pins : List (Addr × Obj)} {s : Shared} {σ : St} {H : Hp} {x : Str} {u : Value} {pos : Pos} {Q : Value → Shared → Prop} (I : Inv X pins σ H s) (hg : Gl X x) (hm : X.mg x = some u) (h : Q u s)
    (hd : (x == ("__debug__" : Str)) = false := by decide) : wpAny (model X.prog X.w) X.A (eval (.Name x pos) X.env) Q E s :=
  Calls.Name_function_global I.ok.kind hg (Calls.loadGlobal_global (by rw [I.ok.glob]; exact I.mod.glob.keeps I.bk) hm h) hd
theorem ld_blt {E : Value → Shared → Prop} {pins : List (Addr × Obj)} {s : Shared} {σ : St} {H : Hp} {x : Str} {u : Value} {pos : Pos} {Q : Value → Shared → Prop} (I : Inv X pins σ H s) (hg : Gl X x) (hm : X.mg x = none) (hv : bootBuiltins x = some u) (h : Q u s)
    (hn : x ≠ "__name__" := by decide) (hd : (x == ("__debug__" : Str)) = false := by decide) : wpAny (model X.prog X.w) X.A (eval (.Name x pos) X.env) Q E s := by
  obtain ⟨mb, h1, h2⟩ := I.mod.blt
  exact Calls.Name_function_global I.ok.kind hg (Calls.loadGlobal_builtin (by rw [I.ok.glob]; exact I.mod.glob.keeps I.bk) hm (by rw [I.ok.blt]; exact h1.keeps I.bk) ((h2 x hn).trans hv) h) hd
theorem pe_glob {x : Str} {v : V} {u : Value} {pos : Pos} (hg : Gl X x) (hm : X.mg x = some u) (r : RelV v u) (hd : (x == ("__debug__" : Str)) = false := by decide) : PE X (.Name x pos) (tC v) :=
  fun _ _ _ H _ I h => ld_glob I hg hm ⟨v, H, I, r, h⟩ hd
theorem pe_bltn {x : Str} {v : V} {u : Value} {pos : Pos} (hg : Gl X x) (hm : X.mg x = none) (hv : bootBuiltins x = some u) (r : RelV v u) (hn : x ≠ "__name__" := by decide) (hd : (x == ("__debug__" : Str)) = false := by decide) : PE X (.Name x pos) (tC v) :=
  fun _ _ _ H _ I h => ld_blt I hg hm hv ⟨v, H, I, r, h⟩ hn hd
variable {a b : Expr} {ta tb : TE} {pos : Pos}
def PC (X : Cx) (op : CmpOp) (a b : Expr) (t : TE) : Prop :=
  ∀ (pins : List (Addr × Obj)) (s : Shared) (σ : St) (H : Hp) (Q : VK), Inv X pins σ H s → t σ H Q →
    wpAny (model X.prog X.w) X.A (eval a X.env) (fun v s₁ => wpAny (model X.prog X.w) X.A (eval b X.env) (fun u s₂ => wpAny (model X.prog X.w) X.A (compareOp op v u) (EP X pins σ Q) X.xe s₂) X.xe s₁) X.xe s
theorem nobehind (b : Expr) {op : CmpOp} (h : op ≠ .In) (h2 : op ≠ .NotIn) : behindInMarks op b = false := by
  have e1 : (op == CmpOp.In) = false := by cases op <;> first | rfl | exact absurd rfl h
  have e2 : (op == CmpOp.NotIn) = false := by cases op <;> first | rfl | exact absurd rfl h2
  cases b <;> simp [behindInMarks, e1, e2]
def tIsN (ta : TE) : TE := fun σ H Q => ta σ H fun x H1 => Q (.bl (decide (x = .non))) H1
def tNotN (ta : TE) : TE := fun σ H Q => ta σ H fun x H1 => Q (.bl (!decide (x = .non))) H1
theorem RelV.none_iff {x : V} {v : Value} (r : RelV x v) : (v == Value.none) = decide (x = .non) := by
  cases x with
  | non => cases r; rfl
  | bl _ => cases r; rfl
  | int _ => obtain ⟨t, rfl⟩ := r; rfl
  | str _ => obtain ⟨t, rfl⟩ := r; rfl
  | byt _ => obtain ⟨t, rfl⟩ := r; rfl
  | flt _ => obtain ⟨t, rfl⟩ := r; rfl
  | ref _ => cases r; rfl
  | ty _ => cases r; rfl
theorem pc_isN {j pos'} (ha : PE X a ta) : PC X .Is a (.Constant .none j pos') (tIsN ta) := by
  intro pins s σ H Q I h
  refine thn (ha pins s σ H _ I h) fun v s1 ⟨x, H1, I1, r1, q1⟩ => ?_
  exact Constant_none (is_none_gen ⟨.bl _, H1, I1, by rw [r1.none_iff]; rfl, q1⟩)
theorem pc_notN {j pos'} (ha : PE X a ta) : PC X .IsNot a (.Constant .none j pos') (tNotN ta) := by
  intro pins s σ H Q I h
  refine thn (ha pins s σ H _ I h) fun v s1 ⟨x, H1, I1, r1, q1⟩ => ?_
  exact Constant_none (isnot_none_gen ⟨.bl _, H1, I1, by rw [r1.none_iff]; rfl, q1⟩)
def tB (t : TE) : TT := fun σ H Q => t σ H fun x H1 => ∃ c, x = .bl c ∧ Q c H1
theorem pt_cmp {op : CmpOp} {t : TE} (h : PC X op a b t) (h1 : behindInMarks op b = false := by first | exact nobehind _ (by decide) (by decide) | rfl) : PT X (.Compare a [op] [b] pos) (tB t) := by
  intro pins s σ H Q I hw
  refine wpAny_isTrue_Compare1 (thn (h pins s σ H _ I hw) fun v s1 h1 => thn h1 fun u s2 h2 => thn h2 fun c s3 ⟨x, H1, I1, r1, q1⟩ => ?_) h1
  obtain ⟨d, rfl, q⟩ := q1
  cases r1
  exact wpAny_truthy_bool ⟨H1, I1, q⟩
theorem pt_val {e : Expr} {t : TE} (h : PE X e t) (he : ∀ whole, isTrue e X.env whole = (do let v ← whole; standAt e.pos; holding [v] (truthy v)) := by intro _; rfl) : PT X e (tB t) := by
  intro pins s σ H Q I hw
  refine isTrue_plain (thn (h pins s σ H _ I hw) fun v s1 ⟨x, H1, I1, r1, q1⟩ => ?_) (he _)
  obtain ⟨d, rfl, q⟩ := q1
  cases r1
  exact wpAny_truthy_bool ⟨H1, I1, q⟩
variable {tA tB' : TT} {rest : List Expr}
def tAnd (t u : TT) : TT := fun σ H Q => t σ H fun c H1 => if c = true then u σ H1 Q else Q false H1
def tOr (t u : TT) : TT := fun σ H Q => t σ H fun c H1 => if c = true then Q true H1 else u σ H1 Q
def tNot (t : TT) : TT := fun σ H Q => t σ H fun c H1 => Q (!c) H1
theorem pw_and1 (ha : PT X a tA) : PW X (.BoolOp .And [a] pos) tA := by
  intro wh pins s σ H Q I h
  refine isTrue_and (thn (ha pins s σ H Q I h) fun c s1 e => ?_)
  cases c with
  | true => exact isTrue_and_nil e
  | false => exact e
theorem pw_or1 (ha : PT X a tA) : PW X (.BoolOp .Or [a] pos) tA := by
  intro wh pins s σ H Q I h
  refine isTrue_or (thn (ha pins s σ H Q I h) fun c s1 e => ?_)
  cases c with
  | false => exact isTrue_or_nil e
  | true => exact e
theorem pw_and (ha : PT X a tA) (hb : PW X (.BoolOp .And (b :: rest) pos) tB') : PW X (.BoolOp .And (a :: b :: rest) pos) (tAnd tA tB') := by
  intro wh pins s σ H Q I h
  refine isTrue_and (thn (ha pins s σ H _ I h) fun c s1 ⟨H1, I1, q1⟩ => ?_)
  cases c with
  | true => exact hb wh pins s1 σ H1 Q I1 q1
  | false => exact ⟨H1, I1, q1⟩
theorem pw_or (ha : PT X a tA) (hb : PW X (.BoolOp .Or (b :: rest) pos) tB') : PW X (.BoolOp .Or (a :: b :: rest) pos) (tOr tA tB') := by
  intro wh pins s σ H Q I h
  refine isTrue_or (thn (ha pins s σ H _ I h) fun c s1 ⟨H1, I1, q1⟩ => ?_)
  cases c with
  | true => exact ⟨H1, I1, q1⟩
  | false => exact hb wh pins s1 σ H1 Q I1 q1
theorem pt_not (ha : PT X a tA) : PT X (.UnaryOp .Not a pos) (tNot tA) := by
  intro pins s σ H Q I h
  exact isTrue_not (ha pins s σ H (fun c H1 => Q (!c) H1) I h)
def tAndV (ta tb : TE) : TE := fun σ H Q => ta σ H fun x H1 => ∃ c, x = .bl c ∧ if c = true then tb σ H1 Q else Q (.bl false) H1
theorem pe_one {op} {t : TE} (h : PE X a t) : PE X (.BoolOp op [a] pos) t := fun pins s σ H Q I hw => BoolOp_one (h pins s σ H Q I hw)
theorem pe_and (ha : PE X a ta) (hb : PE X (.BoolOp .And (b :: rest) pos) tb) : PE X (.BoolOp .And (a :: b :: rest) pos) (tAndV ta tb) := by
  intro pins s σ H Q I h
  refine BoolOp_and (thn (ha pins s σ H _ I h) fun v s1 ⟨x, H1, I1, r1, q1⟩ => ?_)
  obtain ⟨c, rfl, q1⟩ := q1
  cases r1
  refine wpAny_truthy_bool ?_
  cases c with
  | true => exact hb pins s1 σ H1 Q I1 q1
  | false => exact ⟨.bl false, H1, I1, rfl, q1⟩
def tIf (t : TT) (ta tb : TE) : TE := fun σ H Q => t σ H fun c H1 => if c = true then ta σ H1 Q else tb σ H1 Q
theorem pe_ifExp {c : Expr} (hc : PT X c tA) (ha : PE X a ta) (hb : PE X b tb) : PE X (.IfExp c a b pos) (tIf tA ta tb) := by
  intro pins s σ H Q I h
  refine wpAny_IfExp (thn (hc pins s σ H _ I h) fun d s1 ⟨H1, I1, q1⟩ => ?_)
  cases d with
  | true => exact ha pins s1 σ H1 Q I1 q1
  | false => exact hb pins s1 σ H1 Q I1 q1
end
end L2
namespace L2
open PySem PySem.Spec PyProof.Rows
def SqL (K : PySem.W.Frag) (H : Hp) (a : Addr) (xs : List V) : Prop :=
  Rd H a (.lst xs) ∨
    ∃ (o : Obj) (its : Array Value) (n : Nat), K.lookup a = some o ∧ o.cls = .type "list" ∧ o.dict = none ∧ o.data = .seq its n ∧ its.size ≤ sizeLine ∧ Vals xs its.toList
def SqT (K : PySem.W.Frag) (H : Hp) (a : Addr) (xs : List V) : Prop :=
  Rd H a (.tup xs) ∨
    ∃ (o : Obj) (its : Array Value) (n : Nat), K.lookup a = some o ∧ o.cls = .type "tuple" ∧ o.data = .seq its n ∧ its.size ≤ sizeLine ∧ Vals xs its.toList
def absV : Value → Option V
  | .none => some .non
  | .bool b => some (.bl b)
  | .int i _ => some (.int i)
  | .str x _ => some (.str x)
  | .bytes b _ => some (.byt b)
  | .float b _ => some (.flt b)
  | .ref a => some (.ref a)
  | .type n => some (.ty n)
  | _ => none
theorem RelV.abs {x : V} {u : Value} (r : RelV x u) : absV u = some x := by
  cases x with
  | non => cases r; rfl
  | bl _ => cases r; rfl
  | int _ => obtain ⟨t, rfl⟩ := r; rfl
  | str _ => obtain ⟨t, rfl⟩ := r; rfl
  | byt _ => obtain ⟨t, rfl⟩ := r; rfl
  | flt _ => obtain ⟨t, rfl⟩ := r; rfl
  | ref _ => cases r; rfl
  | ty _ => cases r; rfl
theorem RelV.inj {x y : V} {u : Value} (r : RelV x u) (q : RelV y u) : x = y := Option.some.inj (r.abs.symm.trans q.abs)
theorem Vals.inj : ∀ {xs ys : List V} {us : List Value}, Vals xs us → Vals ys us → xs = ys
  | _, _, _, .nil, .nil => rfl
  | _, _, _, .cons r t, .cons r' t' => by rw [r.inj r', Vals.inj t t']
section
variable {X : Cx} {pins : List (Addr × Obj)} {σ : St} {H : Hp} {s : Shared} {a : Addr} {xs ys : List V}
theorem SqL.of {K : PySem.W.Frag} (h : H a = some (.lst xs)) : SqL K H a xs := .inl (.inl h)
theorem SqT.of {K : PySem.W.Frag} (h : H a = some (.tup xs)) : SqT K H a xs := .inl (.inl h)
theorem Inv.list (I : Inv X pins σ H s) (h : SqL X.K H a xs) : ∃ its : List Value, Vals xs its ∧ PlainL s.heap a its.toArray ∧ xs.length ≤ sizeLine := by
  rcases h with h | ⟨o, its, n, hk, hc, hd, hs, hz, r⟩
  · obtain ⟨z, its, n, r, e⟩ := h.ok I.hok
    exact ⟨its, r, ⟨_, n, e, rfl, rfl, rfl⟩, z⟩
  · refine ⟨its.toList, r, ⟨o, n, I.kIn a o hk, hc, hd, by simpa using hs⟩, ?_⟩
    have e := r.length
    simp only [Array.length_toList] at e
    omega
theorem Inv.tuple (I : Inv X pins σ H s) (h : SqT X.K H a xs) : ∃ its : List Value, Vals xs its ∧ IsTup s.heap a its.toArray ∧ xs.length ≤ sizeLine := by
  rcases h with h | ⟨o, its, n, hk, hc, hs, hz, r⟩
  · obtain ⟨z, its, r, p⟩ := h.ok I.hok
    exact ⟨its, r, p, z⟩
  · refine ⟨its.toList, r, ⟨o, I.kIn a o hk, hc, n, by simpa using hs⟩, ?_⟩
    have e := r.length
    simp only [Array.length_toList] at e
    omega
theorem Inv.list_inj (I : Inv X pins σ H s) (h : SqL X.K H a xs) (h' : SqL X.K H a ys) : xs = ys := by
  obtain ⟨its, r, ⟨o, n, e, _, _, d⟩, _⟩ := I.list h
  obtain ⟨its', r', ⟨o', n', e', _, _, d'⟩, _⟩ := I.list h'
  rw [e] at e'; cases e'
  rw [d] at d'
  injection d' with d1 _
  have : its = its' := by simpa using congrArg Array.toList d1
  subst this
  exact r.inj r'
theorem Inv.tuple_inj (I : Inv X pins σ H s) (h : SqT X.K H a xs) (h' : SqT X.K H a ys) : xs = ys := by
  obtain ⟨its, r, ⟨o, e, _, n, d⟩, _⟩ := I.tuple h
  obtain ⟨its', r', ⟨o', e', _, n', d'⟩, _⟩ := I.tuple h'
  rw [e] at e'; cases e'
  rw [d] at d'
  injection d' with d1 _
  have : its = its' := by simpa using congrArg Array.toList d1
  subst this
  exact r.inj r'
end
abbrev Cx.wish (X : Cx) (E : Value → Shared → Prop) : Cx := { X with xe := E }
abbrev Cx.nox (X : Cx) : Cx := X.wish fun _ _ => False
theorem Cx.Ok.wish {X : Cx} (ok : X.Ok) (E : Value → Shared → Prop) : (X.wish E).Ok :=
  ⟨ok.mod, ok.kind, ok.glob, ok.blt, ok.above, ok.inj, ok.has, ok.cab, ok.hd, ok.frames, ok.stk, ok.exf, ok.bs, ok.bsz, ok.noex, ok.exfs, ok.funs, ok.frf⟩
theorem Cx.Ok.unwish {X : Cx} {E : Value → Shared → Prop} (ok : (X.wish E).Ok) : X.Ok :=
  ⟨ok.mod, ok.kind, ok.glob, ok.blt, ok.above, ok.inj, ok.has, ok.cab, ok.hd, ok.frames, ok.stk, ok.exf, ok.bs, ok.bsz, ok.noex, ok.exfs, ok.funs, ok.frf⟩
section
variable {X : Cx} {pins : List (Addr × Obj)} {σ : St} {H : Hp} {s : Shared} {E : Value → Shared → Prop}
theorem Inv.wish (I : Inv X pins σ H s) (E : Value → Shared → Prop) : Inv (X.wish E) pins σ H s := ⟨I.ok.wish E, I.os, I.bare, I.base, I.loc, I.cell, I.free, I.freeC, I.pin, I.hok, I.len⟩
theorem Inv.unwish (I : Inv (X.wish E) pins σ H s) : Inv X pins σ H s := ⟨I.ok.unwish, I.os, I.bare, I.base, I.loc, I.cell, I.free, I.freeC, I.pin, I.hok, I.len⟩
theorem SP.unwish {D : Ends} {f : Flow} {s' : Shared} (h : SP (X.wish E) pins D f s') : SP X pins D f s' := by
  cases f with
  | next => obtain ⟨σ', H', I, q⟩ := h; exact ⟨σ', H', I.unwish, q⟩
  | brk => obtain ⟨σ', H', I, q⟩ := h; exact ⟨σ', H', I.unwish, q⟩
  | cont => obtain ⟨σ', H', I, q⟩ := h; exact ⟨σ', H', I.unwish, q⟩
  | ret u => obtain ⟨v, σ', H', I, r, q⟩ := h; exact ⟨v, σ', H', I.unwish, r, q⟩
theorem PSs.nox {st : List Stmt} {t : TS} (h : PSs X.nox st t) : PSs X st t := fun pins s σ H D I hw =>
  wpAny_mono (h pins s σ H D (I.wish _) hw) (fun _ _ q => q.unwish) fun _ _ z => False.elim z
end
section
variable {X : Cx} {st : Stmt} {rest : List Stmt} {t u : TS} {e : Expr} {te : TE} {pos : Pos}
def tNext : TS := fun D σ H => D.nx σ H
def tSeq (t u : TS) : TS := fun D σ H => t { D with nx := u D } σ H
theorem pss_nil : PSs X [] tNext := fun _ _ σ H _ I h => wpAny_execs_nil ⟨σ, H, I, h⟩
theorem pss_cons (h1 : PS X st t) (h2 : PSs X rest u) : PSs X (st :: rest) (tSeq t u) := by
  intro pins s σ H D I h
  refine wpAny_execs_cons (thn (h1 pins s σ H { D with nx := u D } I h) fun f s1 q => ?_)
  cases f with
  | next =>
    obtain ⟨σ', H', I', q⟩ := q
    exact h2 pins s1 σ' H' D I' q
  | ret v => exact q
  | brk => exact q
  | cont => exact q
theorem pss_one (h1 : PS X st t) : PSs X [st] t := by
  intro pins s σ H D I h
  refine wpAny_execs_cons (thn (h1 pins s σ H D I h) fun f s1 q => ?_)
  cases f with
  | next => exact wpAny_execs_nil q
  | ret v => exact q
  | brk => exact q
  | cont => exact q
theorem Inv.quiet {pins : List (Addr × Obj)} {σ : St} {H : Hp} {s : Shared} (I : Inv X pins σ H s) : interactive X.env = false := by simp [interactive, I.ok.kind]
def tDrop (te : TE) : TS := fun D σ H => te σ H fun _ H1 => D.nx σ H1
theorem ps_expr (he : PE X e te) (hs : swapsWith e none pos.line X.env = pure false := by rfl) : PS X (.Expr e pos) (tDrop te) := by
  intro pins s σ H D I h
  exact wpAny_Expr_any (thn (he pins s σ H _ I h) fun v s1 ⟨x, H1, I1, r1, q1⟩ => ⟨σ, H1, I1, q1⟩) I.quiet hs
def tRet (te : TE) : TS := fun D σ H => te σ H D.rt
theorem ps_ret (he : PE X e te) : PS X (.Return (some e) pos) (tRet te) := by
  intro pins s σ H D I h
  exact wpAny_Return_some (thn (he pins s σ H _ I h) fun v s1 ⟨x, H1, I1, r1, q1⟩ => ⟨x, σ, H1, I1, r1, q1⟩)
def tIfS (c : TT) (t u : TS) : TS := fun D σ H => c σ H fun b H1 => if b = true then t D σ H1 else u D σ H1
theorem ps_if {c : Expr} {a b : List Stmt} {tc : TT} (hc : PT X c tc) (ha : PSs X a t) (hb : PSs X b u) : PS X (.If c a b pos) (tIfS tc t u) := by
  intro pins s σ H D I h
  refine wpAny_If (thn (hc pins s σ H _ I h) fun d s1 ⟨H1, I1, q1⟩ => ?_)
  cases d with
  | true => exact ha pins s1 σ H1 D I1 q1
  | false => exact hb pins s1 σ H1 D I1 q1
def tNever : TS := fun _ _ _ => False
theorem ps_never : PS X st tNever := fun _ _ _ _ _ _ h => h.elim
end
abbrev TG := V → St → Hp → (St → Hp → Prop) → Prop
abbrev TGs := List V → St → Hp → (St → Hp → Prop) → Prop
def PG (X : Cx) (target : Expr) (t : TG) : Prop :=
  ∀ (pins : List (Addr × Obj)) (s : Shared) (σ : St) (H : Hp) (v : V) (u : Value) (Q : St → Hp → Prop), Inv X pins σ H s → RelV v u → t v σ H Q →
    wpAny (model X.prog X.w) X.A (assign target X.env u) (fun _ s' => ∃ σ' H', Inv X pins σ' H' s' ∧ Q σ' H') X.xe s
def PGs (X : Cx) (ts : List Expr) (t : TGs) : Prop :=
  ∀ (pins : List (Addr × Obj)) (s : Shared) (σ : St) (H : Hp) (vs : List V) (us : List Value) (Q : St → Hp → Prop), Inv X pins σ H s → Vals vs us → t vs σ H Q →
    wpAny (model X.prog X.w) X.A (assignInOrder ((assignEach ts X.env).map (·.2)) us) (fun _ s' => ∃ σ' H', Inv X pins σ' H' s' ∧ Q σ' H') X.xe s
section
variable {X : Cx} {pos : Pos}
def gName (i : Nat) : TG := fun v σ H Q => Q (σ.set i (some v)) H
theorem pg_name {i : Nat} {x : Str} (hN : X.N.Nodup) (hi : X.N[i]? = some x) (hx : Loc X.env.scope x) (hf : X.fn x = true ∨ X.env.scope.names.lookup x = some .local := by first | exact .inl rfl | exact .inr rfl | assumption) : PG X (.Name x pos) (gName i) := by
  intro pins s σ H v u Q I r h
  exact wpAny_assign_Name (store_ok I hN hi hx r (fun s' I' => ⟨_, H, I', h⟩) hf)
def gNil : TGs := fun vs σ H Q => vs = [] ∧ Q σ H
def gCons (t : TG) (u : TGs) : TGs := fun vs σ H Q => ∃ v r, vs = v :: r ∧ t v σ H fun σ' H' => u r σ' H' Q
theorem pgs_nil : PGs X [] gNil := by
  intro pins s σ H vs us Q I r h
  obtain ⟨e, h⟩ := h
  subst e
  cases r
  exact assignInOrder_nil ⟨σ, H, I, h⟩
theorem pgs_cons {e : Expr} {es : List Expr} {t : TG} {u : TGs} (h1 : PG X e t) (h2 : PGs X es u)
    (hs : (assignEach (e :: es) X.env).map (·.2) = assign e X.env :: (assignEach es X.env).map (·.2) := by rfl) : PGs X (e :: es) (gCons t u) := by
  intro pins s σ H vs us Q I r h
  obtain ⟨v, vr, e1, h⟩ := h
  subst e1
  cases r with
  | cons r rr =>
    rw [hs]
    refine assignInOrder_cons (thn (h1 pins s σ H _ _ _ I r h) fun _ s1 ⟨σ1, H1, I1, q1⟩ => ?_)
    exact h2 pins s1 σ1 H1 _ _ Q I1 rr q1
def gTup (K : PySem.W.Frag) (n : Nat) (t : TGs) : TG := fun v σ H Q => ∃ a xs, v = .ref a ∧ SqT K H a xs ∧ xs.length = n ∧ t xs σ H Q
theorem pg_tup {es : List Expr} {k : Nat} {t : TGs} {n : Nat} (hc : X.calm = true) (h : PGs X es t)
    (hn : (assignEach es X.env).length = n := by rfl) (hst : (assignEach es X.env).findIdx? (·.1) = none := by rfl) : PG X (.Tuple es k pos) (gTup X.K n t) := by
  intro pins s σ H v u Q I r hw
  obtain ⟨a, xs, e1, hq, hl, hw⟩ := hw
  subst e1
  cases r
  obtain ⟨its, rv, ht, hz⟩ := I.tuple hq
  refine assign_Tuple_tuple (I.ok.hd hc) ht (by simp [hn, ← hl, rv.length]) hst fun h' hx => ?_
  have I1 : Inv X pins σ H { s with heap := h' } := I.kept (t' := s.toks) fun b o e => hx b o (Nat.ne_of_lt (Heap.lt_size e)) e
  exact h pins _ σ H xs _ Q I1 (by simpa using rv) hw
def tAsg (te : TE) (g : TG) : TS := fun D σ H => te σ H fun x H1 => g x σ H1 D.nx
theorem ps_asg {tg e : Expr} {te : TE} {g : TG} (he : PE X e te) (hg : PG X tg g) (hs : swapsWithSole [tg] e pos.line X.env = pure false := by rfl) (hw : swappedStores [tg] e X.env = pure none := by rfl)
    (h1 : (assignEach [tg] X.env).map (·.2) = [assign tg X.env] := by rfl) : PS X (.Assign [tg] e pos) (tAsg te g) := by
  intro pins s σ H D I h
  refine wpAny_Assign_stores (thn (he pins s σ H _ I h) fun v s1 ⟨x, H1, I1, r1, q1⟩ => ?_) hs hw
  rw [h1]
  exact thn (hg pins s1 σ H1 x v _ I1 r1 q1) fun _ s2 q => q
theorem ps_set {i : Nat} {x : Str} {e : Expr} {te : TE} {pos' : Pos} (hN : X.N.Nodup) (hi : X.N[i]? = some x) (hx : Loc X.env.scope x) (he : PE X e te) (hs : swapsWith e (some (.Name x pos')) pos.line X.env = pure false := by rfl) (hf : X.fn x = true ∨ X.env.scope.names.lookup x = some .local := by first | exact .inl rfl | exact .inr rfl | assumption) :
    PS X (.Assign [.Name x pos'] e pos) (tAsg te (gName i)) := by
  intro pins s σ H D I h
  refine wpAny_Assign_Name (thn (he pins s σ H _ I h) fun v s1 ⟨y, H1, I1, r1, q1⟩ => ?_) hs
  exact store_ok I1 hN hi hx r1 (fun s2 I2 => ⟨_, H1, I2, q1⟩) hf
end
section
variable {X : Cx} {pos : Pos}
def tWhile (c : TT) (tb : TS) : TS := fun D σ H => ∃ W : Nat → St → Hp → Prop, (∃ m, W m σ H) ∧ ∀ m σ H, W m σ H →
  c σ H fun b H1 => if b = true then ∃ N : St → Hp → Prop, (∀ σ' H', N σ' H' → ∃ m', m' < m ∧ W m' σ' H') ∧ tb { D with nx := N, ct := N, bk := D.nx } σ H1 else D.nx σ H1
theorem ps_while {c : Expr} {body : List Stmt} {tc : TT} {tb : TS} (hp : PassesOwn (model X.prog X.w) X.A X.env X.xe) (hc : PT X c tc) (hb : PSs X body tb) : PS X (.While c body [] pos) (tWhile tc tb) := by
  intro pins s σ H D I h
  obtain ⟨W, ⟨m0, w0⟩, turn⟩ := h
  refine wpAny_While (codeAny_whileLoop (fun n s' => ∃ σ' H', Inv X pins σ' H' s' ∧ W n σ' H') ?_ m0 ⟨σ, H, I, w0⟩)
  rintro n s1 ⟨σ1, H1, I1, w1⟩
  refine wpAny_passesOwn hp (thn (hc pins s1 σ1 H1 _ I1 (turn n σ1 H1 w1)) fun b s2 ⟨H2, I2, q2⟩ => ?_)
  cases b with
  | true =>
    obtain ⟨N, hN, q2⟩ := q2
    rw [if_pos rfl]
    refine wpAny_passesOwn hp (thn (hb pins s2 σ1 H2 _ I2 q2) fun f s3 q3 => ?_)
    cases f with
    | next =>
      obtain ⟨σ3, H3, I3, n3⟩ := q3
      obtain ⟨m', hm, w3⟩ := hN σ3 H3 n3
      exact ⟨m', hm, σ3, H3, I3, w3⟩
    | cont =>
      obtain ⟨σ3, H3, I3, n3⟩ := q3
      obtain ⟨m', hm, w3⟩ := hN σ3 H3 n3
      exact ⟨m', hm, σ3, H3, I3, w3⟩
    | brk => exact q3
    | ret v => exact q3
  | false =>
    rw [if_neg Bool.false_ne_true]
    exact wpAny_execs_nil ⟨σ1, H2, I2, q2⟩
end
structure It where
  go : Nat → Hp → Prop
  yld : Nat → Hp → V → Hp → Prop
  stop : Nat → Hp → Prop
def FpOk (X : Cx) (pins : List (Addr × Obj)) (H : Hp) (b : Addr) : Prop :=
  H b = none ∧ b ≠ X.env.locals ∧ b ∉ X.fs ∧ (b ∈ X.ex ∨ X.s₀.heap.objs.size ≤ b) ∧ (∀ x c, X.env.cells.lookup x = some c → c ≠ b) ∧ ∀ p ∈ X.pn ++ pins, p.1 ≠ b
theorem Inv.fpOk {X : Cx} {pins : List (Addr × Obj)} {σ : St} {H H' : Hp} {s : Shared} {b : Addr} (I : Inv X pins σ H s) (hb : s.heap.objs.size ≤ b) (hn : H' b = none) : FpOk X pins H' b := by
  refine ⟨hn, Nat.ne_of_gt (Nat.lt_of_lt_of_le I.lt hb), I.nofs hb, .inr (Nat.le_trans I.sz hb), fun x c e z => ?_, fun p hp z => ?_⟩
  · obtain ⟨v, q⟩ := I.cell x c e
    exact absurd (Nat.lt_of_lt_of_le q.lt (by rw [z]; exact hb)) (Nat.lt_irrefl _)
  · exact absurd (Nat.lt_of_lt_of_le (Heap.lt_size (I.pin p hp).1) (by rw [z]; exact hb)) (Nat.lt_irrefl _)
structure Turn (P : Program) (w : World) (K : PySem.W.Frag) (tg : Expr) (J : It) (fp : List Addr) (it : Addr) (tn : Nat → Heap → Prop) : Prop where
  mem : it ∈ fp
  obj : ∀ i h, tn i h → ∀ b ∈ fp, ∃ o, h.get? b = some o ∧ ∀ v, o.data ≠ .cell v
  keep : ∀ i h h', tn i h → (∀ b ∈ fp, ∀ o, h.get? b = some o → h'.get? b = some o) → tn i h'
  item : ∀ (X : Cx), X.prog = P → X.w = w → X.K = K → X.calm = true → ∀ (i : Nat) (pins : List (Addr × Obj)) (s : Shared) (σ : St) (H : Hp) (E : Value → Shared → Prop), Inv X pins σ H s → (∀ b ∈ fp, FpOk X pins H b) → tn i s.heap → J.go i H →
    wpAny (model P w) X.A (pyNext (.ref it)) (fun r s1 => ∃ u, r = some u ∧
      wpAny (model P w) X.A (letOwnedTupleGo tg (.ref it) u) (fun _ s2 => ∃ x H', Inv X pins σ H' s2 ∧ RelV x u ∧ J.yld i H x H' ∧ tn (i + 1) s2.heap ∧ ∀ b ∈ fp, H' b = none) E s1) E s
  done : ∀ (X : Cx), X.prog = P → X.w = w → X.K = K → X.calm = true → ∀ (i : Nat) (pins : List (Addr × Obj)) (s : Shared) (σ : St) (H : Hp) (E : Value → Shared → Prop), Inv X pins σ H s → (∀ b ∈ fp, FpOk X pins H b) → tn i s.heap → J.stop i H →
    wpAny (model P w) X.A (pyNext (.ref it)) (fun r s1 => r = none ∧ Inv X pins σ H s1) E s
  self : ∀ (A : Around) (i : Nat) (s : Shared) (Q : Value → Shared → Prop) (E : Value → Shared → Prop), tn i s.heap → Q (.ref it) s → wpAny (model P w) A (pyIter (.ref it)) Q E s
abbrev TI := St → Hp → (It → Hp → Prop) → Prop
def PIE (X : Cx) (pins : List (Addr × Obj)) (σ : St) (tg : Expr) (R : It → Hp → Prop) (itv : Value) (s2 : Shared) : Prop :=
  ∃ (it : Addr) (fp : List Addr) (tn : Nat → Heap → Prop) (J : It) (H' : Hp), itv = .ref it ∧ Inv X pins σ H' s2 ∧ Turn X.prog X.w X.K tg J fp it tn ∧ tn 0 s2.heap ∧ (∀ b ∈ fp, FpOk X pins H' b) ∧ R J H'
def PI (X : Cx) (tg iter : Expr) (wi : TI) : Prop :=
  ∀ (pins : List (Addr × Obj)) (s : Shared) (σ : St) (H : Hp) (R : It → Hp → Prop), Inv X pins σ H s → wi σ H R →
    wpAny (model X.prog X.w) X.A (eval iter X.env) (fun v s1 => wpAny (model X.prog X.w) X.A (pyIter v) (PIE X pins σ tg R) X.xe s1) X.xe s
theorem go_of {M : Model} {A : Around} {E : Value → Shared → Prop} {s : Shared} {tg : Expr} {it : Addr} {u : Value} {o : Obj} {n : String} {vs : Array Value} {Q : Unit → Shared → Prop} (ho : s.heap.get? it = some o) (hc : o.cls = .type n) (hd : o.data = .fields vs)
    (hn : ["enumerate", "zip", "dict_itemiterator", "dict_reverseitemiterator", "odict_iterator", "itertools.zip_longest", "itertools.pairwise"].contains n = false) (hQ : Q () s) : wpAny M A (letOwnedTupleGo tg (.ref it) u) Q E s := by
  unfold letOwnedTupleGo
  cases tg <;> first
    | exact wpAny_pure hQ
    | (cases u <;> first
        | exact wpAny_pure hQ
        | (refine wpAny_bind (wpAny_load ho ?_)
           rw [hc, hd]
           show wpAny M A (if (["enumerate", "zip", "dict_itemiterator", "dict_reverseitemiterator", "odict_iterator", "itertools.zip_longest", "itertools.pairwise"].contains n && vs[0]? == some (rawInt _)) = true then _ else _) Q E s
           rw [if_neg (by intro h; rw [hn, Bool.false_and] at h; cases h)]
           exact wpAny_pure hQ))
def Itl (K : PySem.W.Frag) (a : Addr) : It :=
  ⟨fun i H => ∃ xs x, SqL K H a xs ∧ xs[i]? = some x, fun i H x H' => H' = H ∧ ∀ xs, SqL K H a xs → xs[i]? = some x, fun i H => ∃ xs, SqL K H a xs ∧ xs.length ≤ i⟩
def Itt (K : PySem.W.Frag) (a : Addr) : It :=
  ⟨fun i H => ∃ xs x, SqT K H a xs ∧ xs[i]? = some x, fun i H x H' => H' = H ∧ ∀ xs, SqT K H a xs → xs[i]? = some x, fun i H => ∃ xs, SqT K H a xs ∧ xs.length ≤ i⟩
def Itr (lo : Int) (n : Nat) : It := ⟨fun i _ => i < n, fun i H x H' => H' = H ∧ x = .int (lo + i), fun i _ => n ≤ i⟩
theorem turn_list {P : Program} {w : World} {K : PySem.W.Frag} {tg : Expr} (a it : Addr) : Turn P w K tg (Itl K a) [it] it (fun i h => h.IsListIter it a i) where
  mem := by simp
  obj := fun i h st b hb => by
    have e : b = it := by simpa using hb
    subst e
    obtain ⟨o, e, c, d⟩ := st
    exact ⟨o, e, fun v z => by rw [d] at z; cases z⟩
  keep := fun i h h' st k => st.at fun o e => k it (by simp) o e
  item := by
    intro X hP hw hK hc i pins s σ H E I hf st hg
    subst hP hw hK
    obtain ⟨xs, x, hq, hx⟩ := hg
    obtain ⟨its, rv, p, hz⟩ := I.list hq
    obtain ⟨u, hu, ru⟩ := rv.get hx
    obtain ⟨f0, f1, f2, f3, f4, f5⟩ := hf it (by simp)
    refine wpAny_pyNext_list_item st p.isList (x := u) (by simpa using hu) fun h' st' sb => ?_
    have I1 : Inv X pins σ H { s with heap := h' } := I.turned (t' := s.toks) (fun b o hb e => (sb.2 b hb).trans e) f0 f1 f3 f4 f5
    obtain ⟨o, e, c, d⟩ := id st'
    exact ⟨u, rfl, go_of (s := { s with heap := h' }) e c d (by decide) ⟨x, H, I1, ru, ⟨rfl, fun ys hy => by rw [I.list_inj hy hq]; exact hx⟩, st', fun b hb => (hf b hb).1⟩⟩
  done := by
    intro X hP hw hK hc i pins s σ H E I hf st hg
    subst hP hw hK
    obtain ⟨xs, hq, hx⟩ := hg
    obtain ⟨its, rv, p, hz⟩ := I.list hq
    obtain ⟨f0, f1, f2, f3, f4, f5⟩ := hf it (by simp)
    have hl := rv.length
    exact wpAny_pyNext_list_end (I.ok.hd hc) st p.isList (by simp; omega) fun h' eb => ⟨rfl, I.turned (t' := s.toks) (fun b o hb e => eb b o hb e) f0 f1 f3 f4 f5⟩
  self := fun _ _ _ _ _ st h => wpAny_pyIter_listiter st h
theorem turn_tuple {P : Program} {w : World} {K : PySem.W.Frag} {tg : Expr} (a it : Addr) : Turn P w K tg (Itt K a) [it] it (fun i h => h.IsTupleIter it a i) where
  mem := by simp
  obj := fun i h st b hb => by
    have e : b = it := by simpa using hb
    subst e
    obtain ⟨o, e, c, d⟩ := st
    exact ⟨o, e, fun v z => by rw [d] at z; cases z⟩
  keep := fun i h h' st k => st.at fun o e => k it (by simp) o e
  item := by
    intro X hP hw hK hc i pins s σ H E I hf st hg
    subst hP hw hK
    obtain ⟨xs, x, hq, hx⟩ := hg
    obtain ⟨its, rv, p, hz⟩ := I.tuple hq
    obtain ⟨u, hu, ru⟩ := rv.get hx
    obtain ⟨f0, f1, f2, f3, f4, f5⟩ := hf it (by simp)
    refine wpAny_pyNext_tuple_item st (show s.heap.IsTuple a its.toArray from p) (x := u) (by simpa using hu) fun h' st' sb => ?_
    have I1 : Inv X pins σ H { s with heap := h' } := I.turned (t' := s.toks) (fun b o hb e => (sb.2 b hb).trans e) f0 f1 f3 f4 f5
    obtain ⟨o, e, c, d⟩ := id st'
    exact ⟨u, rfl, go_of (s := { s with heap := h' }) e c d (by decide) ⟨x, H, I1, ru, ⟨rfl, fun ys hy => by rw [I.tuple_inj hy hq]; exact hx⟩, st', fun b hb => (hf b hb).1⟩⟩
  done := by
    intro X hP hw hK hc i pins s σ H E I hf st hg
    subst hP hw hK
    obtain ⟨xs, hq, hx⟩ := hg
    obtain ⟨its, rv, p, hz⟩ := I.tuple hq
    obtain ⟨f0, f1, f2, f3, f4, f5⟩ := hf it (by simp)
    have hl := rv.length
    exact wpAny_pyNext_tuple_end (I.ok.hd hc) st (show s.heap.IsTuple a its.toArray from p) (by simp; omega) fun h' eb => ⟨rfl, I.turned (t' := s.toks) (fun b o hb e => eb b o hb e) f0 f1 f3 f4 f5⟩
  self := fun _ _ _ _ _ st h => wpAny_pyIter_tupleiter st h
theorem turn_range {P : Program} {w : World} {K : PySem.W.Frag} {tg : Expr} (it : Addr) (lo : Int) (n : Nat) : Turn P w K tg (Itr lo n) [it] it (fun i h => IsRangeIter h it (lo + (i : Nat) * 1) ((n : Int) - (i : Nat)) 1) where
  mem := by simp
  obj := fun i h st b hb => by
    have e : b = it := by simpa using hb
    subst e
    exact ⟨_, st, fun v z => by
      have z' : Data.fields _ = Data.cell v := z
      cases z'⟩
  keep := fun i h h' st k => k it (by simp) _ st
  item := by
    intro X hP hw hK hc i pins s σ H E I hf st hg
    subst hP hw hK
    obtain ⟨f0, f1, f2, f3, f4, f5⟩ := hf it (by simp)
    have W := Walks.range (prog := X.prog) (w := X.w) (I.ok.hd hc) it lo 1 n
    refine W.item i s _ _ hg st fun v h' tk hv st' kk => ?_
    obtain ⟨t, rfl⟩ := hv
    have I1 : Inv X pins σ H { s with heap := h', toks := tk } := I.turned (fun b o hb e => kk b o (by simpa using hb) e) f0 f1 f3 f4 f5
    refine ⟨_, rfl, go_of (s := { s with heap := h', toks := tk }) (n := "range_iterator") st' rfl rfl (by decide) ⟨.int (lo + i), H, I1, ⟨t, ?_⟩, ⟨rfl, rfl⟩, st', fun b hb => (hf b hb).1⟩⟩
    rw [Int.mul_one]
  done := by
    intro X hP hw hK hc i pins s σ H E I hf st hg
    subst hP hw hK
    obtain ⟨f0, f1, f2, f3, f4, f5⟩ := hf it (by simp)
    exact wpAny_pyNext_range_end (I.ok.hd hc) st (by have : n ≤ i := hg; omega) fun h' eb => ⟨rfl, I.turned (t' := s.toks) (fun b o hb e => eb b o hb e) f0 f1 f3 f4 f5⟩
  self := fun _ _ _ _ _ st h => wpAny_pyIter_rangeiter st h
end L2
namespace L2
open PySem PySem.Spec PyProof.Rows
section
variable {X : Cx} {tg : Expr}
def iList (K : PySem.W.Frag) (tl : TE) : TI := fun σ H R => tl σ H fun x H1 => ∃ a, x = .ref a ∧ (∃ xs, SqL K H1 a xs) ∧ R (Itl K a) H1
def iTup (K : PySem.W.Frag) (tl : TE) : TI := fun σ H R => tl σ H fun x H1 => ∃ a, x = .ref a ∧ (∃ xs, SqT K H1 a xs) ∧ R (Itt K a) H1
theorem pi_list {l : Expr} {tl : TE} (hl : PE X l tl) : PI X tg l (iList X.K tl) := by
  intro pins s σ H R I h
  refine thn (hl pins s σ H _ I h) fun v s1 ⟨x, H1, I1, r1, q1⟩ => ?_
  obtain ⟨a, e, ⟨xs, hq⟩, q⟩ := q1
  subst e
  cases r1
  obtain ⟨its, rv, p, hz⟩ := I1.list hq
  refine wpAny_pyIter_list p.isList ?_
  refine ⟨s1.heap.objs.size, [s1.heap.objs.size], _, _, H1, rfl, I1.kept (t' := s1.toks) fun b o e => Heap.get?_push_of_some _ e, turn_list a _, ⟨_, Heap.get?_push_size _ rfl, rfl, rfl⟩, fun b hb => ?_, q⟩
  have e : b = s1.heap.objs.size := by simpa using hb
  subst e
  exact I1.fpOk (Nat.le_refl _) (I1.hok.fresh (Nat.le_refl _))
theorem pi_tup {l : Expr} {tl : TE} (hl : PE X l tl) : PI X tg l (iTup X.K tl) := by
  intro pins s σ H R I h
  refine thn (hl pins s σ H _ I h) fun v s1 ⟨x, H1, I1, r1, q1⟩ => ?_
  obtain ⟨a, e, ⟨xs, hq⟩, q⟩ := q1
  subst e
  cases r1
  obtain ⟨its, rv, p, hz⟩ := I1.tuple hq
  refine wpAny_pyIter_tuple (show s1.heap.IsTuple a its.toArray from p) ?_
  refine ⟨s1.heap.objs.size, [s1.heap.objs.size], _, _, H1, rfl, I1.kept (t' := s1.toks) fun b o e => Heap.get?_push_of_some _ e, turn_tuple a _, ⟨_, Heap.get?_push_size _ rfl, rfl, rfl⟩, fun b hb => ?_, q⟩
  have e : b = s1.heap.objs.size := by simpa using hb
  subst e
  exact I1.fpOk (Nat.le_refl _) (I1.hok.fresh (Nat.le_refl _))
theorem range_it {pins : List (Addr × Obj)} {σ : St} {H : Hp} {s : Shared} {R : It → Hp → Prop} {E : Value → Shared → Prop} {lo hi : Int} {t u v : Tok} {tk : Nat} (I : Inv X pins σ H s) (h1 : -(2 ^ 62) ≤ lo) (h2 : lo < 2 ^ 62) (h3 : -(2 ^ 62) ≤ hi) (h4 : hi < 2 ^ 62)
    (q : R (Itr lo (hi - lo).toNat) H) : wpAny (model X.prog X.w) X.A (pyIter (.ref s.heap.objs.size)) (PIE X pins σ tg R) E { s with heap := s.heap.push { cls := .type "range", data := .fields #[.int lo t, .int hi u, .int 1 v] }, toks := tk } := by
  refine wpAny_pyIter_range (IsRange.new ..) (small_one h1 h2 h3 h4) ?_
  have I1 : Inv X pins σ H { s with heap := s.heap.push { cls := .type "range", data := .fields #[.int lo t, .int hi u, .int 1 v] }, toks := tk } := I.kept fun b o e => Heap.get?_push_of_some _ e
  refine ⟨(s.heap.push { cls := .type "range", data := .fields #[.int lo t, .int hi u, .int 1 v] }).objs.size, [(s.heap.push { cls := .type "range", data := .fields #[.int lo t, .int hi u, .int 1 v] }).objs.size], _, _, H, rfl,
    I1.kept (t' := tk) fun b o e => Heap.get?_push_of_some _ e, turn_range _ lo (hi - lo).toNat, ?_, fun b hb => ?_, q⟩
  · have e1 : lo + ((0 : Nat) : Int) * 1 = lo := by simp
    have e2 : (((hi - lo).toNat : Nat) : Int) - ((0 : Nat) : Int) = Builtin.Range.rangeSize lo hi 1 := by rw [rangeSize_one]; split <;> omega
    show IsRangeIter _ _ (lo + ((0 : Nat) : Int) * 1) ((((hi - lo).toNat : Nat) : Int) - ((0 : Nat) : Int)) 1
    rw [e1, e2]
    exact Heap.get?_push_size _ rfl
  · have e : b = (s.heap.push { cls := .type "range", data := .fields #[.int lo t, .int hi u, .int 1 v] }).objs.size := by simpa using hb
    subst e
    exact I1.fpOk (Nat.le_refl _) (I1.hok.fresh (Nat.le_refl _))
def iRng1 (ta : TA) : TI := fun σ H R => ta σ H fun vs H1 => ∃ j : Int, vs = [.int j] ∧ -(2 ^ 62) ≤ j ∧ j < 2 ^ 62 ∧ R (Itr 0 j.toNat) H1
theorem pi_range1 {a : Expr} {ta : TA} {p pos : Pos} (hg : Gl X "range") (hm : X.mg "range" = none) (ha : PA X [a] ta) (hs : starEach [a] X.env = [(false, eval a X.env)] := by rfl) : PI X tg (.Call (.Name "range" p) [a] [] pos) (iRng1 ta) := by
  intro pins s σ H R I h
  refine Call_ (ld_blt I hg hm boot_range (PyProof.Rows.callWith_type1 (thn (ha pos pins s σ H _ I h) fun us s1 ⟨vs, H1, I1, r1, q1⟩ => ?_) hs rfl))
  obtain ⟨j, e, q1, q2, q⟩ := q1
  subst e
  cases r1 with
  | cons r rr =>
    cases rr
    obtain ⟨t, rfl⟩ := r
    exact call_range_1 (range_it I1 (by omega) (by omega) q1 q2 (by simpa using q))
def tFor (wi : TI) (g : TG) (tb : TS) : TS := fun D σ H => wi σ H fun J H1 => ∃ W : Nat → Nat → St → Hp → Prop, (∃ m, W 0 m σ H1) ∧ ∀ i m σ H, W i m σ H →
  (J.stop i H ∧ D.nx σ H) ∨ (J.go i H ∧ ∃ N : St → Hp → Prop, (∀ σ' H', N σ' H' → ∃ m', m' < m ∧ W (i + 1) m' σ' H') ∧ ∀ x H', J.yld i H x H' → g x σ H' fun σ2 H2 => tb { D with nx := N, ct := N, bk := D.nx } σ2 H2)
def pinsAt (fp : List Addr) (h : Heap) : List (Addr × Obj) := fp.filterMap fun b => (h.get? b).map fun o => (b, o)
theorem mem_pinsAt {fp : List Addr} {h : Heap} {b : Addr} {o : Obj} (hb : b ∈ fp) (e : h.get? b = some o) : (b, o) ∈ pinsAt fp h := List.mem_filterMap.mpr ⟨b, hb, by rw [e]; rfl⟩
theorem of_pinsAt {fp : List Addr} {h : Heap} {p : Addr × Obj} (hp : p ∈ pinsAt fp h) : p.1 ∈ fp ∧ h.get? p.1 = some p.2 := by
  obtain ⟨b, hb, e⟩ := List.mem_filterMap.mp hp
  cases q : h.get? b with
  | none => rw [q] at e; cases e
  | some o =>
    rw [q] at e
    have e' : (b, o) = p := Option.some.inj e
    subst e'
    exact ⟨hb, q⟩
theorem Inv.pinned {pins : List (Addr × Obj)} {σ : St} {H : Hp} {s : Shared} {fp : List Addr} (I : Inv X pins σ H s) (hf : ∀ b ∈ fp, FpOk X pins H b) (ho : ∀ b ∈ fp, ∃ o, s.heap.get? b = some o ∧ ∀ v, o.data ≠ .cell v) : Inv X (pins ++ pinsAt fp s.heap) σ H s :=
  I.pins_of fun p hp => (List.mem_append.mp hp).elim (fun z => I.pin p (List.mem_append_right _ z)) fun z => by
    obtain ⟨hb, e⟩ := of_pinsAt z
    obtain ⟨f0, f1, f2, _⟩ := hf p.1 hb
    obtain ⟨o, e', d⟩ := ho p.1 hb
    rw [e] at e'; cases e'
    exact ⟨e, f0, f1, f2, d⟩
theorem Inv.unpinned {pins pl : List (Addr × Obj)} {σ : St} {H : Hp} {s : Shared} (I : Inv X (pins ++ pl) σ H s) : Inv X pins σ H s := I.pins_of fun p hp => I.pin p (List.mem_append_right _ (List.mem_append_left _ hp))
theorem ps_for {iter : Expr} {body : List Stmt} {wi : TI} {g : TG} {tb : TS} {pos : Pos} (hp : PassesOwn (model X.prog X.w) X.A X.env X.xe) (hc : X.calm = true) (hi : PI X tg iter wi) (hg : PG X tg g) (hb : PSs X body tb)
    (hs : ∀ x, foldedSetIterable iter X.env x = pure x := by intro _; rfl) : PS X (.For tg iter body [] pos) (tFor wi g tb) := by
  intro pins s σ H D I h
  refine wpAny_For (thn (hi pins s σ H _ I h) fun v s1 h1 => thn h1 fun itv s2 h2 => ?_) hs
  obtain ⟨it, fp, tn, J, H2, e, I2, T, st2, f2, W, ⟨m0, w0⟩, turn⟩ := h2
  subst e
  -- what stays true of the iterator's objects through the loop
  have stat : ∀ {H' : Hp}, (∀ b ∈ fp, H' b = none) → ∀ b ∈ fp, FpOk X pins H' b := fun hn b hb => ⟨hn b hb, (f2 b hb).2⟩
  refine codeAny_forLoop_any (fun n s' => ∃ i σ' H', Inv X pins σ' H' s' ∧ tn i s'.heap ∧ (∀ b ∈ fp, H' b = none) ∧ W i n σ' H') ?_ m0 ⟨0, σ, H2, I2, st2, fun b hb => (f2 b hb).1, w0⟩
  rintro n s3 ⟨i, σ3, H3, I3, st3, fr3, w3⟩
  rcases turn i n σ3 H3 w3 with ⟨stop, qn⟩ | ⟨go, N, hN, step⟩
  · refine wpAny_passesOwn hp (thn (T.done X rfl rfl rfl hc i pins s3 σ3 H3 X.xe I3 (stat fr3) st3 stop) fun r s4 ⟨hr, I4⟩ => ?_)
    subst hr
    exact wpAny_execs_nil ⟨σ3, H3, I4, qn⟩
  · refine wpAny_passesOwn hp (thn (T.item X rfl rfl rfl hc i pins s3 σ3 H3 X.xe I3 (stat fr3) st3 go) fun r s4 ⟨u, hr, h4⟩ => ?_)
    subst hr
    refine wpAny_passesOwn hp (thn h4 fun _ s5 ⟨x, H5, I5, r5, y5, st5, fr5⟩ => ?_)
    have I5' := I5.pinned (stat fr5) (T.obj _ _ st5)
    refine wpAny_passesOwn hp (thn (hg _ s5 σ3 H5 x u _ I5' r5 (step x H5 y5)) fun _ s6 ⟨σ6, H6, I6, q6⟩ => ?_)
    refine wpAny_passesOwn hp (thn (hb _ s6 σ6 H6 _ I6 q6) fun f s7 q7 => ?_)
    have again : ∀ {σ7 : St} {H7 : Hp}, Inv X (pins ++ pinsAt fp s5.heap) σ7 H7 s7 → N σ7 H7 → ∃ m, m < n ∧ ∃ i σ' H', Inv X pins σ' H' s7 ∧ tn i s7.heap ∧ (∀ b ∈ fp, H' b = none) ∧ W i m σ' H' := fun {σ7 H7} I7 n7 => by
      obtain ⟨m', hm, w7⟩ := hN σ7 H7 n7
      refine ⟨m', hm, i + 1, σ7, H7, I7.unpinned, T.keep _ _ _ st5 fun b hb o e => (I7.pin (b, o) (List.mem_append_right _ (List.mem_append_right _ (mem_pinsAt hb e)))).1, fun b hb => ?_, w7⟩
      obtain ⟨o, e, d⟩ := T.obj _ _ st5 b hb
      exact (I7.pin (b, o) (List.mem_append_right _ (List.mem_append_right _ (mem_pinsAt hb e)))).2.1
    cases f with
    | next => obtain ⟨σ7, H7, I7, n7⟩ := q7; exact again I7 n7
    | cont => obtain ⟨σ7, H7, I7, n7⟩ := q7; exact again I7 n7
    | brk => obtain ⟨σ7, H7, I7, q7⟩ := q7; exact ⟨σ7, H7, I7.unpinned, q7⟩
    | ret v => obtain ⟨x7, σ7, H7, I7, r7, q7⟩ := q7; exact ⟨x7, σ7, H7, I7.unpinned, r7, q7⟩
end
theorem for_list {K : PySem.W.Frag} {a : Addr} {xs : List V} {g : TG} {tb : TS} {D : Ends} {σ : St} {H : Hp} (Pv : Nat → St → Hp → Prop) (h0 : Pv 0 σ H) (hl : ∀ i σ H, i ≤ xs.length → Pv i σ H → SqL K H a xs)
    (hs : ∀ i x σ H, xs[i]? = some x → Pv i σ H → g x σ H fun σ2 H2 => tb { D with nx := Pv (i + 1), ct := Pv (i + 1), bk := D.nx } σ2 H2) (hd : ∀ σ H, Pv xs.length σ H → D.nx σ H) :
    ∃ W : Nat → Nat → St → Hp → Prop, (∃ m, W 0 m σ H) ∧ ∀ i m σ H, W i m σ H →
      ((Itl K a).stop i H ∧ D.nx σ H) ∨ ((Itl K a).go i H ∧ ∃ N : St → Hp → Prop, (∀ σ' H', N σ' H' → ∃ m', m' < m ∧ W (i + 1) m' σ' H') ∧ ∀ x H', (Itl K a).yld i H x H' → g x σ H' fun σ2 H2 => tb { D with nx := N, ct := N, bk := D.nx } σ2 H2) := by
  refine ⟨fun i m σ H => m = xs.length - i ∧ i ≤ xs.length ∧ Pv i σ H, ⟨xs.length, by simp, Nat.zero_le _, h0⟩, ?_⟩
  rintro i m σ H ⟨rfl, hi, p⟩
  have q := hl i σ H hi p
  by_cases hlt : i < xs.length
  · refine .inr ⟨⟨xs, xs[i], q, by simp [hlt]⟩, Pv (i + 1), fun σ' H' p' => ⟨xs.length - (i + 1), by omega, rfl, hlt, p'⟩, fun x H' y => ?_⟩
    obtain ⟨e, y⟩ := y
    subst e
    exact hs i x σ _ (y xs q) p
  · have e : i = xs.length := by omega
    subst e
    exact .inl ⟨⟨xs, q, Nat.le_refl _⟩, hd σ H p⟩
theorem for_range {lo : Int} {n : Nat} {g : TG} {tb : TS} {D : Ends} {σ : St} {H : Hp} (Pv : Nat → St → Hp → Prop) (h0 : Pv 0 σ H)
    (hs : ∀ i σ H, i < n → Pv i σ H → g (.int (lo + i)) σ H fun σ2 H2 => tb { D with nx := Pv (i + 1), ct := Pv (i + 1), bk := D.nx } σ2 H2) (hd : ∀ σ H, Pv n σ H → D.nx σ H) :
    ∃ W : Nat → Nat → St → Hp → Prop, (∃ m, W 0 m σ H) ∧ ∀ i m σ H, W i m σ H →
      ((Itr lo n).stop i H ∧ D.nx σ H) ∨ ((Itr lo n).go i H ∧ ∃ N : St → Hp → Prop, (∀ σ' H', N σ' H' → ∃ m', m' < m ∧ W (i + 1) m' σ' H') ∧ ∀ x H', (Itr lo n).yld i H x H' → g x σ H' fun σ2 H2 => tb { D with nx := N, ct := N, bk := D.nx } σ2 H2) := by
  refine ⟨fun i m σ H => m = n - i ∧ i ≤ n ∧ Pv i σ H, ⟨n, by simp, Nat.zero_le _, h0⟩, ?_⟩
  rintro i m σ H ⟨rfl, hi, p⟩
  by_cases hlt : i < n
  · refine .inr ⟨hlt, Pv (i + 1), fun σ' H' p' => ⟨n - (i + 1), by omega, rfl, hlt, p'⟩, fun x H' y => ?_⟩
    obtain ⟨e, y⟩ := y
    subst e y
    exact hs i σ _ hlt p
  · have e : i = n := by omega
    subst e
    exact .inl ⟨Nat.le_refl _, hd σ H p⟩
end L2
namespace L2
open PySem PySem.Spec PyProof.Rows
abbrev R2 := V → V → Hp → VK → Prop
def OpR (X : Cx) (f : Value → Value → Sem Value) (r : R2) : Prop :=
  ∀ (pins : List (Addr × Obj)) (s : Shared) (σ : St) (H : Hp) (x y : V) (v u : Value) (Q : VK), Inv X pins σ H s → RelV x v → RelV y u → r x y H Q →
    wpAny (model X.prog X.w) X.A (f v u) (EP X pins σ Q) X.xe s
def UnR (X : Cx) (f : Value → Sem Value) (r : V → Hp → VK → Prop) : Prop :=
  ∀ (pins : List (Addr × Obj)) (s : Shared) (σ : St) (H : Hp) (x : V) (v : Value) (Q : VK), Inv X pins σ H s → RelV x v → r x H Q →
    wpAny (model X.prog X.w) X.A (f v) (EP X pins σ Q) X.xe s
def CallR (X : Cx) (f : Value) (r : List V → Hp → VK → Prop) : Prop :=
  ∀ (pins : List (Addr × Obj)) (s : Shared) (σ : St) (H : Hp) (xs : List V) (us : List Value) (Q : VK), Inv X pins σ H s → Vals xs us → r xs H Q →
    wpAny (model X.prog X.w) X.A (call f us) (EP X pins σ Q) X.xe s
def tOp (r : R2) (ta tb : TE) : TE := fun σ H Q => ta σ H fun x H1 => tb σ H1 fun y H2 => r x y H2 Q
def tUn (r : V → Hp → VK → Prop) (ta : TE) : TE := fun σ H Q => ta σ H fun x H1 => r x H1 Q
def rI (C : Int → Int → Prop) (g : Int → Int → V) : R2 := fun x y H Q => ∃ i j, x = .int i ∧ y = .int j ∧ C i j ∧ Q (g i j) H
def rI0 (g : Int → Int → V) : R2 := fun x y H Q => ∃ i j, x = .int i ∧ y = .int j ∧ Q (g i j) H
def rU (g : Int → V) : V → Hp → VK → Prop := fun x H Q => ∃ i, x = .int i ∧ Q (g i) H
section
variable {X : Cx} {a b c : Expr} {ta tb tc : TE} {pos : Pos}
theorem binT (ha : PE X a ta) (hb : PE X b tb) {pins : List (Addr × Obj)} {s : Shared} {σ : St} {H : Hp} {R : V → V → Hp → Prop} (I : Inv X pins σ H s)
    (h : ta σ H fun x H1 => tb σ H1 fun y H2 => R x y H2) {Q : Value → Shared → Prop} {f : Value → Value → Sem Value}
    (hf : ∀ v u s2 x y H2, Inv X pins σ H2 s2 → RelV x v → RelV y u → R x y H2 → wpAny (model X.prog X.w) X.A (f v u) Q X.xe s2) :
    wpAny (model X.prog X.w) X.A (eval a X.env) (fun v s₁ => wpAny (model X.prog X.w) X.A (eval b X.env) (fun u s₂ => wpAny (model X.prog X.w) X.A (f v u) Q X.xe s₂) X.xe s₁) X.xe s := by
  refine thn (ha pins s σ H _ I h) fun v s1 ⟨x, H1, I1, r1, q1⟩ => ?_
  refine thn (hb pins s1 σ H1 _ I1 q1) fun u s2 ⟨y, H2, I2, r2, q2⟩ => ?_
  exact hf v u s2 x y H2 I2 r1 r2 q2
theorem pe_op {op : Operator} {r : R2} (ho : OpR X (binaryOp op) r) (ha : PE X a ta) (hb : PE X b tb) : PE X (.BinOp a op b pos) (tOp r ta tb) := by
  intro pins s σ H Q I h
  exact wpAny_BinOp (binT ha hb I h fun v u s2 x y H2 I2 rx ry q => ho pins s2 σ H2 x y v u Q I2 rx ry q)
theorem pe_un {op : UnaryOp} {r : V → Hp → VK → Prop} (ho : UnR X (unaryOp op) r) (ha : PE X a ta) : PE X (.UnaryOp op a pos) (tUn r ta) := by
  intro pins s σ H Q I h
  exact UnaryOp_ (thn (ha pins s σ H _ I h) fun v s1 ⟨x, H1, I1, r1, q1⟩ => ho pins s1 σ H1 x v Q I1 r1 q1)
theorem opI {f : Value → Value → Sem Value} {C : Int → Int → Prop} {g : Int → Int → Int}
    (rule : ∀ (i j : Int) (t u : Tok) (s : Shared) (Q : Value → Shared → Prop) (E : Value → Shared → Prop), C i j → Q (.int (g i j) s.toks) { s with toks := s.toks + 1 } → wpAny (model X.prog X.w) X.A (f (.int i t) (.int j u)) Q E s) :
    OpR X f (rI C fun i j => .int (g i j)) := by
  intro pins s σ H x y v u Q I rx ry h
  obtain ⟨i, j, rfl, rfl, hc, q⟩ := h
  obtain ⟨t, rfl⟩ := rx
  obtain ⟨t', rfl⟩ := ry
  exact rule i j t t' s _ _ hc ⟨.int (g i j), H, I.tok _, ⟨_, rfl⟩, q⟩
theorem opI0 {f : Value → Value → Sem Value} {g : Int → Int → Int}
    (rule : ∀ (i j : Int) (t u : Tok) (s : Shared) (Q : Value → Shared → Prop) (E : Value → Shared → Prop), Q (.int (g i j) s.toks) { s with toks := s.toks + 1 } → wpAny (model X.prog X.w) X.A (f (.int i t) (.int j u)) Q E s) :
    OpR X f (rI0 fun i j => .int (g i j)) := by
  intro pins s σ H x y v u Q I rx ry h
  obtain ⟨i, j, rfl, rfl, q⟩ := h
  obtain ⟨t, rfl⟩ := rx
  obtain ⟨t', rfl⟩ := ry
  exact rule i j t t' s _ _ ⟨.int (g i j), H, I.tok _, ⟨_, rfl⟩, q⟩
theorem opB0 {f : Value → Value → Sem Value} {g : Int → Int → Bool}
    (rule : ∀ (i j : Int) (t u : Tok) (s : Shared) (Q : Value → Shared → Prop) (E : Value → Shared → Prop), Q (.bool (g i j)) s → wpAny (model X.prog X.w) X.A (f (.int i t) (.int j u)) Q E s) :
    OpR X f (rI0 fun i j => .bl (g i j)) := by
  intro pins s σ H x y v u Q I rx ry h
  obtain ⟨i, j, rfl, rfl, q⟩ := h
  obtain ⟨t, rfl⟩ := rx
  obtain ⟨t', rfl⟩ := ry
  exact rule i j t t' s _ _ ⟨.bl (g i j), H, I, rfl, q⟩
def CDiv (i j : Int) : Prop := 0 < j ∧ j < 1073741824
def CMul (i j : Int) : Prop := (-(2 ^ 64) < i ∧ i < 2 ^ 64) ∨ (-(2 ^ 64) < j ∧ j < 2 ^ 64)
theorem CMul.ok {i j : Int} (h : CMul i j) : IntMulOk i j := by
  rcases h with ⟨h1, h2⟩ | ⟨h1, h2⟩
  · exact .of_left (intBits_le_64 h1 h2)
  · exact .of_right (intBits_le_64 h1 h2)
theorem op_add : OpR X (binaryOp .Add) (rI0 fun i j => .int (i + j)) := opI0 fun _ _ _ _ _ _ _ q => add_int q
theorem op_sub : OpR X (binaryOp .Sub) (rI0 fun i j => .int (i - j)) := opI0 fun _ _ _ _ _ _ _ q => sub_int q
theorem op_mul : OpR X (binaryOp .Mult) (rI CMul fun i j => .int (i * j)) := opI fun _ _ _ _ _ _ _ hc q => mul_int q hc.ok
theorem op_fdiv : OpR X (binaryOp .FloorDiv) (rI CDiv fun i j => .int (i / j)) := opI fun i j _ _ _ _ _ hc q => by
  have h1 : (0 : Int) < j := hc.1
  have h2 : j < 1073741824 := hc.2
  exact floordiv_int (by omega) (by rw [Int.fdiv_eq_ediv_of_nonneg i (by omega)]; exact q) (.inl (PyProof.noPylong_small (by omega)))
theorem op_mod : OpR X (binaryOp .Mod) (rI (fun _ j => 0 < j) fun i j => .int (i % j)) := opI fun i j _ _ _ _ _ hc q => by
  have h1 : (0 : Int) < j := hc
  exact mod_int' (by omega) (by rw [Int.fmod_eq_emod_of_nonneg i (by omega)]; exact q)
theorem unI {f : Value → Sem Value} {g : Int → Int}
    (rule : ∀ (i : Int) (t : Tok) (s : Shared) (Q : Value → Shared → Prop) (E : Value → Shared → Prop), Q (.int (g i) s.toks) { s with toks := s.toks + 1 } → wpAny (model X.prog X.w) X.A (f (.int i t)) Q E s) :
    UnR X f (rU fun i => .int (g i)) := by
  intro pins s σ H x v Q I rx h
  obtain ⟨i, rfl, q⟩ := h
  obtain ⟨t, rfl⟩ := rx
  exact rule i t s _ _ ⟨.int (g i), H, I.tok _, ⟨_, rfl⟩, q⟩
theorem un_neg : UnR X (unaryOp .USub) (rU fun i => .int (-i)) := unI fun _ _ _ _ _ q => neg_int q
end
def scal : V → V → Bool
  | .non, .non => true | .non, .int _ => true | .int _, .non => true | .non, .bl _ => true | .bl _, .non => true | .non, .str _ => true | .str _, .non => true
  | .int _, .int _ => true | .bl _, .bl _ => true | .str _, .str _ => true | .byt _, .byt _ => true
  | .int _, .str _ => true | .str _, .int _ => true | .bl _, .str _ => true | .str _, .bl _ => true
  | _, _ => false
def rEq : R2 := fun x y H Q => scal x y = true ∧ Q (.bl (decide (x = y))) H
def rNe : R2 := fun x y H Q => scal x y = true ∧ Q (.bl (!decide (x = y))) H
theorem dec_int {i j : Int} : decide (V.int i = V.int j) = (i == j) := by
  rw [Bool.eq_iff_iff]
  simp
theorem dec_bl {i j : Bool} : decide (V.bl i = V.bl j) = (i == j) := by
  rw [Bool.eq_iff_iff]
  simp
theorem dec_str {i j : Str} : decide (V.str i = V.str j) = (i == j) := by
  rw [Bool.eq_iff_iff]
  simp
theorem dec_byt {i j : Array UInt8} : decide (V.byt i = V.byt j) = (i.toList == j.toList) := by
  rw [Bool.eq_iff_iff]
  cases i
  cases j
  simp
section
variable {X : Cx} {a b c : Expr} {ta tb tc : TE} {pos : Pos}
theorem fin_bl {pins : List (Addr × Obj)} {σ : St} {H : Hp} {s : Shared} {Q : VK} {k k' : Bool} (I : Inv X pins σ H s) (q : Q (.bl k) H) (e : k = k') : EP X pins σ Q (.bool k') s := by
  subst e
  exact ⟨.bl k, H, I, rfl, q⟩
theorem op_eq : OpR X (compareOp .Eq) rEq := by
  intro pins s σ H x y v u Q I rx ry h
  obtain ⟨hs, q⟩ := h
  cases x with
  | non =>
    cases rx
    cases y with
    | non => cases ry; exact PySem.EqNone.eq_none_none (fin_bl I q (by simp))
    | bl j => cases ry; exact PySem.EqNone.eq_none_bool (fin_bl I q (by simp))
    | int j => obtain ⟨t', rfl⟩ := ry; exact PySem.EqNone.eq_none_int (fin_bl I q (by simp))
    | str j => obtain ⟨t', rfl⟩ := ry; exact PySem.EqNone.eq_none_str (fin_bl I q (by simp))
    | _ => exact absurd (show false = true from hs) Bool.false_ne_true
  | bl i =>
    cases rx
    cases y with
    | non => cases ry; exact PySem.EqNone.eq_bool_none (fin_bl I q (by simp))
    | bl j => cases ry; exact eq_bool (fin_bl I q dec_bl)
    | str j => obtain ⟨t', rfl⟩ := ry; exact PySem.EqMixed.eq_bool_str (fin_bl I q (by simp))
    | _ => exact absurd (show false = true from hs) Bool.false_ne_true
  | int i =>
    obtain ⟨t, rfl⟩ := rx
    cases y with
    | non => cases ry; exact PySem.EqNone.eq_int_none (fin_bl I q (by simp))
    | int j => obtain ⟨t', rfl⟩ := ry; exact eq_int (fin_bl I q dec_int)
    | str j => obtain ⟨t', rfl⟩ := ry; exact PySem.EqMixed.eq_int_str (fin_bl I q (by simp))
    | _ => exact absurd (show false = true from hs) Bool.false_ne_true
  | str i =>
    obtain ⟨t, rfl⟩ := rx
    cases y with
    | non => cases ry; exact PySem.EqNone.eq_str_none (fin_bl I q (by simp))
    | bl j => cases ry; exact PySem.EqMixed.eq_str_bool (fin_bl I q (by simp))
    | int j => obtain ⟨t', rfl⟩ := ry; exact PySem.EqMixed.eq_str_int (fin_bl I q (by simp))
    | str j => obtain ⟨t', rfl⟩ := ry; exact eq_str (fin_bl I q dec_str)
    | _ => exact absurd (show false = true from hs) Bool.false_ne_true
  | byt i =>
    obtain ⟨t, rfl⟩ := rx
    cases y with
    | byt j => obtain ⟨t', rfl⟩ := ry; exact PySem.W.eq_bytes (fin_bl I q dec_byt)
    | _ => exact absurd (show false = true from hs) Bool.false_ne_true
  | _ => cases y <;> exact absurd (show false = true from hs) Bool.false_ne_true
theorem op_ne : OpR X (compareOp .NotEq) rNe := by
  intro pins s σ H x y v u Q I rx ry h
  obtain ⟨hs, q⟩ := h
  cases x with
  | non =>
    cases rx
    cases y with
    | non => cases ry; exact PySem.EqNone.ne_none_none (fin_bl I q (by simp))
    | bl j => cases ry; exact PySem.EqNone.ne_none_bool (fin_bl I q (by simp))
    | int j => obtain ⟨t', rfl⟩ := ry; exact PySem.EqNone.ne_none_int (fin_bl I q (by simp))
    | str j => obtain ⟨t', rfl⟩ := ry; exact PySem.EqNone.ne_none_str (fin_bl I q (by simp))
    | _ => exact absurd (show false = true from hs) Bool.false_ne_true
  | bl i =>
    cases rx
    cases y with
    | non => cases ry; exact PySem.EqNone.ne_bool_none (fin_bl I q (by simp))
    | bl j => cases ry; exact ne_bool (fin_bl I q (congrArg not dec_bl))
    | str j => obtain ⟨t', rfl⟩ := ry; exact PySem.EqMixed.ne_bool_str (fin_bl I q (by simp))
    | _ => exact absurd (show false = true from hs) Bool.false_ne_true
  | int i =>
    obtain ⟨t, rfl⟩ := rx
    cases y with
    | non => cases ry; exact PySem.EqNone.ne_int_none (fin_bl I q (by simp))
    | int j => obtain ⟨t', rfl⟩ := ry; exact ne_int (fin_bl I q (congrArg not dec_int))
    | str j => obtain ⟨t', rfl⟩ := ry; exact PySem.EqMixed.ne_int_str (fin_bl I q (by simp))
    | _ => exact absurd (show false = true from hs) Bool.false_ne_true
  | str i =>
    obtain ⟨t, rfl⟩ := rx
    cases y with
    | non => cases ry; exact PySem.EqNone.ne_str_none (fin_bl I q (by simp))
    | bl j => cases ry; exact PySem.EqMixed.ne_str_bool (fin_bl I q (by simp))
    | int j => obtain ⟨t', rfl⟩ := ry; exact PySem.EqMixed.ne_str_int (fin_bl I q (by simp))
    | str j => obtain ⟨t', rfl⟩ := ry; exact ne_str (fin_bl I q (congrArg not dec_str))
    | _ => exact absurd (show false = true from hs) Bool.false_ne_true
  | byt i =>
    obtain ⟨t, rfl⟩ := rx
    cases y with
    | byt j => obtain ⟨t', rfl⟩ := ry; exact PySem.W.ne_bytes (fin_bl I q (congrArg not dec_byt))
    | _ => exact absurd (show false = true from hs) Bool.false_ne_true
  | _ => cases y <;> exact absurd (show false = true from hs) Bool.false_ne_true
theorem op_lt : OpR X (compareOp .Lt) (rI0 fun i j => .bl (decide (i < j))) := opB0 fun _ _ _ _ _ _ _ q => lt_int q
theorem op_le : OpR X (compareOp .LtE) (rI0 fun i j => .bl (decide (i ≤ j))) := opB0 fun _ _ _ _ _ _ _ q => le_int q
theorem op_gt : OpR X (compareOp .Gt) (rI0 fun i j => .bl (decide (j < i))) := opB0 fun _ _ _ _ _ _ _ q => gt_int q
theorem nomark (b : Expr) {op : CmpOp} (h : op ≠ .In := by decide) (h2 : op ≠ .NotIn := by decide) : behindInMarks op b = false := by
  have e1 : (op == CmpOp.In) = false := by cases op <;> first | rfl | exact absurd rfl h
  have e2 : (op == CmpOp.NotIn) = false := by cases op <;> first | rfl | exact absurd rfl h2
  cases b <;> simp [behindInMarks, e1, e2]
theorem pe_cmpR {op : CmpOp} {r : R2} (ho : OpR X (compareOp op) r) (ha : PE X a ta) (hb : PE X b tb) (hm : behindInMarks op b = false) : PE X (.Compare a [op] [b] pos) (tOp r ta tb) := by
  intro pins s σ H Q I h
  exact wpAny_Compare1 (binT ha hb I h fun v u s2 x y H2 I2 rx ry q => ho pins s2 σ H2 x y v u Q I2 rx ry q) hm
def tTest (t : TE) : TT := fun σ H Q => t σ H fun x H' => ∃ k, x = .bl k ∧ Q k H'
theorem pt_cmpR {op : CmpOp} {r : R2} (ho : OpR X (compareOp op) r) (ha : PE X a ta) (hb : PE X b tb) (hm : behindInMarks op b = false) : PT X (.Compare a [op] [b] pos) (tTest (tOp r ta tb)) := by
  intro pins s σ H Q I h
  refine wpAny_isTrue_Compare1 (thn (ha pins s σ H _ I h) fun v s1 ⟨x, H1, I1, r1, q1⟩ => thn (hb pins s1 σ H1 _ I1 q1) fun u s2 ⟨y, H2, I2, r2, q2⟩ =>
    thn (ho pins s2 σ H2 x y v u _ I2 r1 r2 q2) fun c s3 ⟨z, H3, I3, r3, k, e, q3⟩ => ?_) hm
  subst e
  cases r3
  exact wpAny_truthy_bool ⟨H3, I3, q3⟩
theorem line63 : (sizeLine : Nat) < 2 ^ 63 := by rw [sizeLine_eq]; decide
theorem op_add_str : OpR X (binaryOp .Add) (fun x y H Q => ∃ i j, x = .str i ∧ y = .str j ∧ i.length + j.length ≤ sizeLine ∧ Q (.str (i ++ j)) H) := by
  intro pins s σ H x y v u Q I rx ry h
  obtain ⟨i, j, rfl, rfl, hz, q⟩ := h
  obtain ⟨t, rfl⟩ := rx
  obtain ⟨t', rfl⟩ := ry
  exact add_str (fun t' tk => ⟨.str (i ++ j), H, I.tok _, ⟨_, rfl⟩, q⟩) hz
theorem vals1 {x : V} {us : List Value} (r : Vals [x] us) : ∃ u, us = [u] ∧ RelV x u := by
  cases r with
  | cons r1 r2 => cases r2; exact ⟨_, rfl, r1⟩
theorem vals2 {x y : V} {us : List Value} (r : Vals [x, y] us) : ∃ u w', us = [u, w'] ∧ RelV x u ∧ RelV y w' := by
  cases r with
  | cons r1 r2 =>
    cases r2 with
    | cons r3 r4 => cases r4; exact ⟨_, _, rfl, r1, r3⟩
theorem call_max2 (hc : X.calm = true) : CallR X (.builtin "max") (fun xs H Q => ∃ i j, xs = [.int i, .int j] ∧ Q (.int (if j > i then j else i)) H) := by
  intro pins s σ H xs us Q I r h
  obtain ⟨i, j, rfl, q⟩ := h
  obtain ⟨u, w', rfl, ⟨t, rfl⟩, ⟨t', rfl⟩⟩ := vals2 r
  refine max_two_ints (I.ok.hd hc) fun h' tk k => ⟨_, H, I.kept k, ?_, q⟩
  by_cases hj : j > i
  · rw [if_pos hj, if_pos hj]; exact ⟨_, rfl⟩
  · rw [if_neg hj, if_neg hj]; exact ⟨_, rfl⟩
theorem call_min2 (hc : X.calm = true) : CallR X (.builtin "min") (fun xs H Q => ∃ i j, xs = [.int i, .int j] ∧ Q (.int (if j < i then j else i)) H) := by
  intro pins s σ H xs us Q I r h
  obtain ⟨i, j, rfl, q⟩ := h
  obtain ⟨u, w', rfl, ⟨t, rfl⟩, ⟨t', rfl⟩⟩ := vals2 r
  refine min_two_ints (I.ok.hd hc) fun h' tk k => ⟨_, H, I.kept k, ?_, q⟩
  by_cases hj : j < i
  · rw [if_pos hj, if_pos hj]; exact ⟨_, rfl⟩
  · rw [if_neg hj, if_neg hj]; exact ⟨_, rfl⟩
theorem call_int1 : CallR X (.type "int") (fun xs H Q => (∃ i, xs = [.int i] ∧ Q (.int i) H) ∨ ∃ k, xs = [.bl k] ∧ Q (.int (if k then 1 else 0)) H) := by
  intro pins s σ H xs us Q I r h
  rcases h with ⟨i, rfl, q⟩ | ⟨k, rfl, q⟩
  · obtain ⟨u, rfl, t, rfl⟩ := vals1 r
    exact call_int_int ⟨.int i, H, I, ⟨_, rfl⟩, q⟩
  · obtain ⟨u, rfl, r1⟩ := vals1 r
    cases r1
    exact call_int_bool ⟨.int (if k then 1 else 0), H, I.tok _, ⟨_, rfl⟩, q⟩
end
end L2
namespace L2
open PySem PySem.Spec PyProof.Rows
structure ObjM (h : Heap) (x dx C : Addr) (mA : Str → Option Value) : Prop where
  obj : h.get? x = some (PySem.W.instObj C dx)
  ns : h.Ns1 dx mA
  ne : dx ≠ x
theorem lookIn_ns {h : Heap} {dx : Addr} {mA : Str → Option Value} (n : h.Ns1 dx mA) : ∃ od, h.get? dx = some od ∧ ∀ name, PySem.W.lookIn name od = some (mA name) := by
  obtain ⟨o, es, ep, ho, hd, hk, _, hm⟩ := n
  refine ⟨o, ho, fun name => ?_⟩
  have e := hm name
  unfold nsFind findBy at e
  rw [← Array.find?_toList] at e
  unfold PySem.W.lookIn
  rw [hd]
  dsimp only
  split
  · rename_i y q
    rw [q] at e
    exact congrArg some e
  · rename_i q
    rw [q] at e
    have a : es.toList.any (·.refKey) = false := by
      rw [List.any_eq_false]
      intro y hy
      obtain ⟨z, t, hkey⟩ := hk y (Array.mem_toList_iff.mp hy)
      simp [DictEntry.refKey, hkey]
    have a' : ¬ es.toList.any (·.refKey) = true := by rw [a]; exact Bool.false_ne_true
    rw [if_neg a']
    exact congrArg some e
theorem ObjM.look {h : Heap} {x dx C : Addr} {mA : Str → Option Value} (I : ObjM h x dx C mA) : ∃ od, PySem.W.InstAt h x (PySem.W.instObj C dx) C (some od) ∧ ∀ name, PySem.W.lookIn name od = some (mA name) :=
  let ⟨od, ho, hl⟩ := lookIn_ns I.ns
  ⟨od, ⟨I.obj, rfl, rfl, ho⟩, hl⟩
section
variable {prog : Program} {w : World} {A : Around} {E : Value → Shared → Prop} {s : Shared} {K : PySem.W.Frag} {x dx C f : Addr} {mA : Str → Option Value} {name : Str} {v : Value}
end
section
variable {P : Program} {w : World} {H H' : Hp} {h h' : Heap} {a C dx : Addr} {fs fs' : List (Str × V)}
theorem ins_get (hok : HOk P w H h) (e : H a = some (.ins C dx fs)) : ∃ mA, ObjM h a dx C mA ∧ (∀ f, RelO (fs.lookup f) (mA f)) ∧ PySem.Within mA (fs.map (·.1)) ∧ fs.length ≤ 1000 ∧ H dx = some (.own a) := by
  obtain ⟨d, z, ne, ob, mA, n, r, q⟩ := (show ObjOk P w H h a (.ins C dx fs) from hok a _ e)
  exact ⟨mA, ⟨ob, n, ne⟩, r, q, z, d⟩
end
structure Cls (K : PySem.W.Frag) (C : Addr) : Prop where
  pg : PySem.W.plainGet K C Str.empty = true
  hd : PySem.W.hasDictIn K C = true
  po : PySem.W.plainOver K C = true
  sa : PySem.W.findIn K (.ref C) "__setattr__" = some (some (.builtin "object.__setattr__"))
theorem Cls.get {K : PySem.W.Frag} {C : Addr} (c : Cls K C) (f : Str) : PySem.W.plainGet K C f = true := c.pg
structure Con (K : PySem.W.Frag) (C : Addr) (f : Str) (v : V) (u : Value) : Prop where
  at_ : PySem.W.findIn K (.ref C) f = some (some u)
  rel : RelV v u
  get : PySem.W.specialIn K u "__get__" = some none
  cp : PySem.W.copiedNames.contains f = false
structure Meth (K : PySem.W.Frag) (C : Addr) (m : Str) (f : Addr) : Prop where
  at_ : PySem.W.findIn K (.ref C) m = some (some (.ref f))
  fn : PySem.W.isFn K (.ref f) = true
  kp : PySem.W.keepIn K (.ref f) = true
section
variable {X : Cx} {pins : List (Addr × Obj)} {σ : St} {H : Hp} {s : Shared} {a C dx : Addr} {fs : List (Str × V)} {f : Str} {v : V} {A : Around} {E : Value → Shared → Prop}
end
section
variable {X : Cx} {o e value : Expr} {f : Str} {pos pos' tpos : Pos} {ta tv : TE}
end
section
variable {X : Cx} {pins : List (Addr × Obj)} {σ : St} {H : Hp} {s : Shared} {A : Around} {E : Value → Shared → Prop} {Q : Value → Shared → Prop} {c : Value} {b : Bool}
inductive TyOf (K : PySem.W.Frag) (H : Hp) : V → Value → Prop where
  | non : TyOf K H .non (.type "NoneType")
  | bl (x : Bool) : TyOf K H (.bl x) (.type "bool")
  | int (i : Int) : TyOf K H (.int i) (.type "int")
  | str (x : Str) : TyOf K H (.str x) (.type "str")
  | flt (x : UInt64) : TyOf K H (.flt x) (.type "float")
  | lst {a : Addr} {xs : List V} (e : H a = some (.lst xs)) : TyOf K H (.ref a) (.type "list")
  | frz {a : Addr} {o : Obj} {xs : List V} (e : H a = some (.frz o (.lst xs))) : TyOf K H (.ref a) (.type "list")
  | tup {a : Addr} {xs : List V} (e : H a = some (.tup xs)) : TyOf K H (.ref a) (.type "tuple")
  | dK {a : Addr} {kvs : List (Key × V)} (e : H a = some (.dK kvs)) : TyOf K H (.ref a) (.type "dict")
  | dT {a : Addr} {kvs : List (List Key × V)} (e : H a = some (.dT kvs)) : TyOf K H (.ref a) (.type "dict")
  | ins {a C dx : Addr} {fs : List (Str × V)} (e : H a = some (.ins C dx fs)) (cl : Cls K C) (ha : PySem.W.findIn K (.ref C) "__class__" = some (some (.builtin "object.__class__")))
      (hn : PySem.W.specialIn K (.builtin "object.__class__") "__get__" = some (some (.builtin "getset_descriptor.__get__"))) (htk : PySem.W.takesIn K (.builtin "object.__class__") = some true)
      (hm : PySem.W.mroIn K C (.type "object") = some true) : TyOf K H (.ref a) (.ref C)
theorem isinst_ok {x : V} {u t : Value} (I : Inv X pins σ H s) (rx : RelV x u) (ty : TyOf X.K H x t) (e : PySem.W.kitOne X.K t c = some b) (h : ∀ tk, Q (.bool b) { s with toks := tk }) :
    wpAny (model X.prog X.w) A (call (.builtin "isinstance") [u, c]) Q E s := by
  cases ty with
  | non => cases (show u = Value.none from rx); exact PySem.W.kia_one PySem.W.kitx_none I.kIn True.intro e (fun z => nomatch z) h
  | bl y => cases (show u = Value.bool y from rx); exact PySem.W.kia_one PySem.W.kitx_bool I.kIn True.intro e (fun z => nomatch z) h
  | int i => obtain ⟨t, q⟩ := (show ∃ t, u = Value.int i t from rx); cases q; exact PySem.W.kia_one PySem.W.kitx_int I.kIn True.intro e (fun z => nomatch z) h
  | str y => obtain ⟨t, q⟩ := (show ∃ t, u = Value.str y t from rx); cases q; exact PySem.W.kia_one PySem.W.kitx_str I.kIn True.intro e (fun z => nomatch z) h
  | flt y => obtain ⟨t, q⟩ := (show ∃ t, u = Value.float y t from rx); cases q; exact PySem.W.kia_one PySem.W.kitx_float I.kIn True.intro e (fun z => nomatch z) h
  | @lst a xs ea =>
    cases (show u = Value.ref a from rx)
    obtain ⟨_, _, n, _, h1⟩ := (show ObjOk X.prog X.w H s.heap a (.lst xs) from I.hok a _ ea)
    exact PySem.W.kia_one PySem.W.kitx_list I.kIn ⟨_, h1, rfl⟩ e (fun z => nomatch z) h
  | @frz a ob xs ea =>
    cases (show u = Value.ref a from rx)
    obtain ⟨_, _, _, n, _, h1⟩ := (show ObjOk X.prog X.w H s.heap a (.frz ob (.lst xs)) from I.hok a _ ea)
    exact PySem.W.kia_one PySem.W.kitx_list I.kIn ⟨_, h1, rfl⟩ e (fun z => nomatch z) h
  | @tup a xs ea =>
    cases (show u = Value.ref a from rx)
    obtain ⟨_, _, _, p⟩ := (show ObjOk X.prog X.w H s.heap a (.tup xs) from I.hok a _ ea)
    obtain ⟨o, h1, h2, _⟩ := p
    exact PySem.W.kia_one PySem.W.kitx_tuple I.kIn ⟨o, h1, h2⟩ e (fun z => nomatch z) h
  | @dK a kvs ea =>
    cases (show u = Value.ref a from rx)
    obtain ⟨_, _, vs, _, p⟩ := (show ObjOk X.prog X.w H s.heap a (.dK kvs) from I.hok a _ ea)
    obtain ⟨o, es, ep, h1, h2, _⟩ := p
    exact PySem.W.kia_one PySem.W.kitx_dict I.kIn ⟨o, h1, h2.1⟩ e (fun z => nomatch z) h
  | @dT a kvs ea =>
    cases (show u = Value.ref a from rx)
    obtain ⟨_, _, xs, _, o, es, ep, h1, h2, _⟩ := (show ObjOk X.prog X.w H s.heap a (.dT kvs) from I.hok a _ ea)
    exact PySem.W.kia_one PySem.W.kitx_dict I.kIn ⟨o, h1, h2.1⟩ e (fun z => nomatch z) h
  | @ins a C dx fs ea cl ha hn htk hm =>
    cases (show u = Value.ref a from rx)
    obtain ⟨mA, O, _⟩ := ins_get I.hok ea
    obtain ⟨od, J, _⟩ := O.look
    exact PySem.W.kia_one (PySem.W.kitx_own (cl.get _) cl.hd ha hn htk hm) I.kIn J e (fun z => nomatch z) h
end
end L2
namespace L2
open PySem PySem.Spec PyProof.Rows
structure Room (k : Nat) (A : Around) : Prop where
  hd : A.handled = none
  dp : A.depth + 3 * k + 5 < recursionLimit
  un : A.units + 16 * k + 200 < cLine
theorem Room.mono {j k : Nat} {A : Around} (r : Room k A) (h : j ≤ k) : Room j A := ⟨r.hd, by have := r.dp; omega, by have := r.un; omega⟩
theorem Room.deeper {k : Nat} {A : Around} (r : Room (k + 1) A) (env : Env) : Room k (A.deeper env) :=
  ⟨r.hd, by have := r.dp; show A.depth + 1 + 3 * k + 5 < _; omega, by have := r.un; show A.units + 3 + 16 * k + 200 < _; omega⟩
theorem Room.in1 {k : Nat} {A : Around} (r : Room (k + 1) A) : Room k A.in1 :=
  ⟨r.hd, by have := r.dp; show A.depth + 3 * k + 5 < _; omega, by have := r.un; show A.units + 1 + 16 * k + 200 < _; omega⟩
theorem Room.depth {k : Nat} {A : Around} (r : Room k A) : A.depth < recursionLimit := by have := r.dp; omega
theorem Room.units {k : Nat} {A : Around} (r : Room k A) : A.units + 64 < cLine := by have := r.un; omega
def tNil : TA := fun _ H Q => Q [] H
def tCons (ta : TE) (tr : TA) : TA := fun σ H Q => ta σ H fun x H1 => tr σ H1 fun xs H2 => Q (x :: xs) H2
section
variable {X : Cx} {e : Expr} {es : List Expr} {te : TE} {t : TA} {pos : Pos}
theorem pa_nil : PA X [] tNil := fun _ _ _ _ H Q I h => Calls.spliced_nil ⟨[], H, I, .nil, h⟩
theorem pa_cons (ha : PE X e te) (hr : PA X es t) (hs : starEach (e :: es) X.env = (false, eval e X.env) :: starEach es X.env := by rfl) : PA X (e :: es) (tCons te t) := by
  intro pos pins s σ H Q I h
  rw [hs]
  show wpAny _ _ (spliced ((false, eval e X.env) :: backTo pos (starEach es X.env))) _ _ s
  refine Calls.spliced_cons (thn (ha pins s σ H _ I h) fun u s1 ⟨x, H1, I1, r1, q1⟩ => ?_)
  exact thn (hr pos pins s1 σ H1 _ I1 q1) fun us s2 ⟨xs, H2, I2, r2, q2⟩ => ⟨x :: xs, H2, I2, .cons r1 r2, q2⟩
def tTup (t : TA) : TE := fun σ H Q => t σ H fun xs H1 => xs.length ≤ sizeLine ∧ ∀ p, H1 p = none → Q (.ref p) (upd H1 p (.tup xs))
def tLst (t : TA) : TE := fun σ H Q => t σ H fun xs H1 => xs.length ≤ sizeLine ∧ ∀ p, H1 p = none → Q (.ref p) (upd H1 p (.lst xs))
theorem pe_tup {x1} (h : PA X es t) : PE X (.Tuple es x1 pos) (tTup t) := by
  intro pins s σ H Q I hq
  refine wpAny_Tuple_spliced (thn (h pos pins s σ H _ I hq) fun us s1 ⟨xs, H1, I1, r, z, q⟩ => ⟨by rw [← r.length]; exact z, ?_⟩)
  have hf : H1 s1.heap.objs.size = none := I1.hok.fresh (Nat.le_refl _)
  refine ⟨.ref s1.heap.objs.size, upd H1 s1.heap.objs.size (.tup xs), I1.laid (t' := s1.toks) (fun b u e => Heap.get?_push_of_some _ e) (Nat.le_refl _) ?_, rfl, q _ hf⟩
  exact ⟨z, us, r, ⟨_, Heap.get?_push_size _ rfl, rfl, _, rfl⟩⟩
theorem pe_lst (h : PA X es t) : PE X (.List es pos) (tLst t) := by
  intro pins s σ H Q I hq
  refine wpAny_List_spliced (thn (h pos pins s σ H _ I hq) fun us s1 ⟨xs, H1, I1, r, z, q⟩ => ⟨by rw [← r.length]; exact z, ?_⟩)
  have hf : H1 s1.heap.objs.size = none := I1.hok.fresh (Nat.le_refl _)
  refine ⟨.ref s1.heap.objs.size, upd H1 s1.heap.objs.size (.lst xs), I1.laid (t' := s1.toks) (fun b u e => Heap.get?_push_of_some _ e) (Nat.le_refl _) ?_, rfl, q _ hf⟩
  exact ⟨z, us, 0, r, Heap.get?_push_size _ rfl⟩
end
abbrev Sp := List V → Hp → VK → XK → Prop
abbrev CXT := List Env → Hp → Shared → XK → Value → Shared → Prop
structure Env0 (P : Program) (w : World) (K : PySem.W.Frag) (mg : Str → Option Value) (base : Heap) (A : Around) (outer : List Env) (s : Shared) (H : Hp) : Prop where
  frames : A.frames = some outer
  mod : Mod K mg base
  bs : ∀ b o, base.get? b = some o → s.heap.get? b = some o ∧ H b = none
  bsz : base.objs.size ≤ s.heap.objs.size
  funs : s.heap.FunFrames base outer
  frf : ∀ b ∈ frs outer, H b = none
  hok : HOk P w H s.heap
  bare : AllBare s.gens
def CE (outer : List Env) (P : Program) (w : World) (H : Hp) (s : Shared) (Q : VK) (u : Value) (s' : Shared) : Prop :=
  ∃ v H', s'.os = s.os ∧ AllBare s'.gens ∧ Un (frs outer) [] H H' s.heap s'.heap ∧ HOk P w H' s'.heap ∧ RelV v u ∧ Q v H'
def CR (CX : CXT) (outer : List Env) (P : Program) (w : World) (H : Hp) (s : Shared) (Q : VK) (E : XK) (r : Result) (s' : Shared) : Prop :=
  match r with
  | .ok (.ret u) => CE outer P w H s Q u s'
  | .ok _ => False
  | .error e => CX outer H s E e s'
structure FnOk (P : Program) (w : World) (K : PySem.W.Frag) (mg : Str → Option Value) (base : Heap) (CX : CXT) (k : Nat) (f : Addr) (fd : FuncData) (ps : List Str) (sp : Sp) : Prop where
  len : ∀ vs H Q E, sp vs H Q E → vs.length = ps.length
  run : ∀ (A : Around) (outer : List Env) (s : Shared) (H : Hp) (args : Args) (us : List Value) (vs : List V) (Q : VK) (E : XK), Room k A → Env0 P w K mg base A outer s H → BindsTo s fd args (ps.zip us) → Vals vs us → sp vs H Q E →
    codeAny (model P w) A (.call (.ref f) args) (CR CX outer P w H s Q E) s
section
variable {X : Cx} {pins : List (Addr × Obj)} {σ : St} {H : Hp} {s s' : Shared}
theorem Inv.env0 (I : Inv X pins σ H s) : Env0 X.prog X.w X.K X.mg X.base X.A X.stack s H :=
  ⟨I.ok.frames, I.ok.mod, I.bs, Nat.le_trans I.ok.bsz I.sz, I.stack, I.stkFree, I.hok, I.bare⟩
theorem Inv.after {Q : VK} {u : Value} (I : Inv X pins σ H s) (h : CE X.stack X.prog X.w H s Q u s') : EP X pins σ Q u s' := by
  obtain ⟨v, H', os, bare, un, hok, r, q⟩ := h
  obtain ⟨hh, g, d, t, os'⟩ := s'
  obtain rfl : os' = s.os := os
  exact ⟨v, H', I.call (h' := hh) (g' := g) (d' := d) (t' := t) (ch := []) un hok bare (fun b z => absurd z (by simp)), r, q⟩
end
def tCall (sp : Sp) (dvs : List V) (E : XK) (t : TA) : TE := fun σ H Q => t σ H fun vs H1 => sp (vs ++ dvs) H1 Q E
def Binds (K : PySem.W.Frag) (fd : FuncData) (ps : List Str) (ds : List Value) : Prop :=
  ∀ (s : Shared) (us : List Value), K.In s.heap → (us ++ ds).length = ps.length → BindsTo s fd ⟨us, []⟩ (ps.zip (us ++ ds))
theorem Binds.all {K : PySem.W.Frag} {fd : FuncData} {ps : List Str} (h : ∀ us : List Value, us.length = ps.length → bindArgs fd ⟨us, []⟩ = pure (ps.zip us)) : Binds K fd ps [] := fun s us _ hl => by
  rw [List.append_nil] at hl ⊢
  exact .of_eq (h us hl)
def Passes (CX : CXT) (X : Cx) (E : XK) : Prop := ∀ (pins : List (Addr × Obj)) (σ : St) (H : Hp) (s : Shared) (e : Value) (s' : Shared), Inv X pins σ H s → CX X.stack H s E e s' → X.xe e s'
section
variable {X : Cx} {CX : CXT} {k : Nat} {f C : Addr} {fd : FuncData} {ps : List Str} {sp : Sp} {dvs : List V} {ds : List Value} {E : XK} {x m : Str} {p pos apos : Pos} {e o : Expr} {es : List Expr} {ta : TE} {t : TA}
theorem run_fn {pins : List (Addr × Obj)} {σ : St} {H : Hp} {s : Shared} {Q : VK} {us : List Value} {vs : List V} (F : FnOk X.prog X.w X.K X.mg X.base CX k f fd ps sp) (hr : Room k X.A) (hb : Binds X.K fd ps ds) (hd : Vals dvs ds) (hx : Passes CX X E)
    (I : Inv X pins σ H s) (r : Vals vs us) (h : sp (vs ++ dvs) H Q E) : wpAny (model X.prog X.w) X.A (call (.ref f) us) (EP X pins σ Q) X.xe s := by
  have r2 : Vals (vs ++ dvs) (us ++ ds) := r.append hd
  have hl : (us ++ ds).length = ps.length := by rw [← r2.length]; exact F.len _ _ _ _ h
  refine wpAny_call (codeAny_mono (F.run X.A X.stack s H ⟨us, []⟩ (us ++ ds) (vs ++ dvs) Q E hr I.env0 (hb s us I.kIn hl) r2 h) fun r s' hq => ?_)
  cases r with
  | error e => exact hx pins σ H s e s' I hq
  | ok fl =>
    cases fl with
    | ret u => exact I.after hq
    | next => exact False.elim hq
    | brk => exact False.elim hq
    | cont => exact False.elim hq
theorem pe_call (F : FnOk X.prog X.w X.K X.mg X.base CX k f fd ps sp) (hr : Room k X.A) (hg : Gl X x) (hm : X.mg x = some (.ref f)) (hk : PySem.W.keepIn X.K (.ref f) = true) (hb : Binds X.K fd ps ds) (hd : Vals dvs ds) (hx : Passes CX X E)
    (ha : PA X (e :: es) t) (hdb : (x == ("__debug__" : Str)) = false := by decide) (he : starEach (e :: es) X.env = (false, eval e X.env) :: starEach es X.env := by rfl) (hpl : (backTo pos (starEach es X.env)).any (·.1) = false := by rfl) :
    PE X (.Call (.Name x p) (e :: es) [] pos) (tCall sp dvs E t) := by
  intro pins s σ H Q I h
  refine wpAny_Call_Name_kw (ld_glob I hg hm ?_ hdb)
  refine PySem.W.callWith_K (h₀ := X.base) I.ok.mod.kin hk (thn (ha pos pins s σ H _ I h) fun us s1 ⟨vs, H1, I1, r, q⟩ => ⟨I1.kIn, ?_⟩) he hpl
  exact run_fn F hr hb hd hx I1 r q
structure Mk (K : PySem.W.Frag) (C f : Addr) : Prop where
  makes : PySem.W.makesIn K C = true
  init : PySem.W.findIn K (.ref C) "__init__" = some (some (.ref f))
  fn : PySem.W.isFn K (.ref f) = true
  kp : PySem.W.keepIn K (.ref C) = true
end
def PK (X : Cx) (kws : List Keyword) (t : TA) : Prop :=
  ∀ (pos : Pos) (pins : List (Addr × Obj)) (s : Shared) (σ : St) (H : Hp) (Q : List V → Hp → Prop), Inv X pins σ H s → t σ H Q → wpAny (model X.prog X.w) X.A (evalAll ((backToKw pos (keywordEach kws X.env)).map (·.2))) (AP X pins σ Q) X.xe s
section
variable {X : Cx} {CX : CXT} {k : Nat} {f C : Addr} {fd : FuncData} {ps ks : List Str} {sp : Sp} {E : XK} {x m : Str} {p pos apos kpos : Pos} {e o : Expr} {es : List Expr} {kws : List Keyword} {te ta : TE} {t tk : TA} {nm : Option Str}
theorem pk_nil : PK X [] tNil := fun _ _ _ _ H Q I h => wpAny_evalAll_nil ⟨[], H, I, .nil, h⟩
theorem pk_cons (ha : PE X e te) (hr : PK X kws t) : PK X (⟨nm, e, kpos⟩ :: kws) (tCons te t) := by
  intro pos pins s σ H Q I h
  show wpAny _ _ (evalAll ((do let v ← eval e X.env; standAt pos; pure v) :: (backToKw pos (keywordEach kws X.env)).map (·.2))) _ _ s
  refine wpAny_evalAll_cons (wpAny_bind (thn (ha pins s σ H _ I h) fun u s1 ⟨x, H1, I1, r1, q1⟩ => wpAny_bind (wpAny_standAt (wpAny_pure ?_))))
  exact thn (hr pos pins s1 σ H1 _ I1 q1) fun us s2 ⟨xs, H2, I2, r2, q2⟩ => ⟨x :: xs, H2, I2, .cons r1 r2, q2⟩
structure KBinds (K : PySem.W.Frag) (fd : FuncData) (ps ks : List Str) (g : List Value → List Value → List Value) (gV : List V → List V → List V) : Prop where
  to : ∀ (s : Shared) (us ws : List Value), K.In s.heap → (g us ws).length = ps.length → BindsTo s fd ⟨us, ks.zip ws⟩ (ps.zip (g us ws))
  rel : ∀ {vs : List V} {us : List Value} {zs : List V} {ws : List Value}, Vals vs us → Vals zs ws → Vals (gV vs zs) (g us ws)
variable {g : List Value → List Value → List Value} {gV : List V → List V → List V}
end
structure FnScope (N P : List Str) (sc : Scope) : Prop where
  kind : sc.kind = .function
  co : sc.isCoroutine = false
  gen : sc.isGenerator = false
  nd : N.Nodup
  pre : N.take P.length = P
  par : ∀ x ∈ P, sc.names.lookup x = some .local ∨ sc.names.lookup x = some .cell
  nofree : ∀ y ∈ sc.names, y.2 ≠ .free
theorem bindL_out {kindOf : Str → Option NameKind} {x : Str} : ∀ {binds : List (Str × Value)} {m : Str → Option Value}, (∀ v, (x, v) ∉ binds) → bindL kindOf binds m x = m x
  | [], _, _ => rfl
  | (n, v) :: r, m, h => by
    unfold bindL
    rw [bindL_out fun w hw => h w (List.mem_cons_of_mem _ hw)]
    split
    · have : x ≠ n := by rintro rfl; exact h v List.mem_cons_self
      simp [this]
    · rfl
theorem bindC_out {kindOf : Str → Option NameKind} {x : Str} : ∀ {binds : List (Str × Value)} {m : Str → Option Value}, (∀ v, (x, v) ∉ binds) → bindC kindOf binds m x = m x
  | [], _, _ => rfl
  | (n, v) :: r, m, h => by
    unfold bindC
    rw [bindC_out fun w hw => h w (List.mem_cons_of_mem _ hw)]
    split
    · rfl
    · have : x ≠ n := by rintro rfl; exact h v List.mem_cons_self
      simp [this]
theorem bindL_get {kindOf : Str → Option NameKind} {x : Str} {v : Value} : ∀ {P : List Str} {vs : List Value} {i : Nat} {m : Str → Option Value}, P.Nodup → P[i]? = some x → vs[i]? = some v → kindOf x = some .local →
    bindL kindOf (P.zip vs) m x = some v
  | [], _, _, _, _, h, _, _ => by simp at h
  | _ :: _, [], _, _, _, _, h, _ => by simp at h
  | p :: P, w :: vs, 0, m, nd, h1, h2, hk => by
    simp at h1 h2; subst h1; subst h2
    show bindL kindOf ((p, w) :: P.zip vs) m p = _
    unfold bindL
    rw [bindL_out fun v hv => (List.nodup_cons.mp nd).1 (List.of_mem_zip hv).1, if_pos hk]
    simp
  | p :: P, w :: vs, i + 1, m, nd, h1, h2, hk => by
    show bindL kindOf ((p, w) :: P.zip vs) m x = _
    unfold bindL
    exact bindL_get (i := i) (List.nodup_cons.mp nd).2 (by simpa using h1) (by simpa using h2) hk
theorem bindC_get {kindOf : Str → Option NameKind} {x : Str} {v : Value} : ∀ {P : List Str} {vs : List Value} {i : Nat} {m : Str → Option Value}, P.Nodup → P[i]? = some x → vs[i]? = some v → kindOf x ≠ some .local →
    bindC kindOf (P.zip vs) m x = some v
  | [], _, _, _, _, h, _, _ => by simp at h
  | _ :: _, [], _, _, _, _, h, _ => by simp at h
  | p :: P, w :: vs, 0, m, nd, h1, h2, hk => by
    simp at h1 h2; subst h1; subst h2
    show bindC kindOf ((p, w) :: P.zip vs) m p = _
    unfold bindC
    rw [bindC_out fun v hv => (List.nodup_cons.mp nd).1 (List.of_mem_zip hv).1, if_neg hk]
    simp
  | p :: P, w :: vs, i + 1, m, nd, h1, h2, hk => by
    show bindC kindOf ((p, w) :: P.zip vs) m x = _
    unfold bindC
    exact bindC_get (i := i) (List.nodup_cons.mp nd).2 (by simpa using h1) (by simpa using h2) hk
def start (N : List Str) (vs : List V) : St := vs.map some ++ List.replicate (N.length - vs.length) none
def cxOf (CX : CXT) (P : Program) (w : World) (K : PySem.W.Frag) (mg : Str → Option Value) (base : Heap) (N : List Str) (qual : Str) (scope : Scope) (f : Addr) (cd : Value) (A : Around) (outer : List Env) (s : Shared) (H : Hp) (E : XK) : Cx where
  prog := P
  w := w
  K := K
  mg := mg
  base := base
  A := A.deeper (envOfC qual scope s.heap.objs.size f cd)
  N := N
  s₀ := s
  H₀ := H
  env := envOfC qual scope s.heap.objs.size f cd
  outer := outer
  stack := envOfC qual scope s.heap.objs.size f cd :: outer
  ex := []
  calm := true
  fn := fun _ => true
  pn := []
  xe := fun e s' => wpAny (model P w) (A.deeper (envOfC qual scope s.heap.objs.size f cd)) (leaving (envOfC qual scope s.heap.objs.size f cd) e) (fun _ s'' => CX outer H s E e s'') (fun e' s'' => CX outer H s E e' s'') s'
theorem cell_has {sc : Scope} {n : Nat} {x : Str} (h : sc.names.lookup x = some .cell) : ∃ c, (cellsFrom n sc.names []).lookup x = some c := by
  have q := PySem.W.cellsFrom_some sc.names n [] (.inl h)
  exact Option.isSome_iff_exists.mp q
theorem inv_start {CX : CXT} {P : Program} {w : World} {K : PySem.W.Frag} {mg : Str → Option Value} {base : Heap} {N ps : List Str} {qual : Str} {scope : Scope} {f : Addr} {cd : Value} {A : Around} {outer : List Env} {s s1 : Shared} {H : Hp} {E : XK} {us : List Value} {vs : List V}
    (S : FnScope N ps scope) (hd : A.handled = none) (e0 : Env0 P w K mg base A outer s H) (hl : vs.length = ps.length) (r : Vals vs us)
    (x : InCallC s s.heap.objs.size (bindL (envOfC qual scope s.heap.objs.size f cd).kindOf (ps.zip us) fun _ => none) (cellsFrom (s.heap.objs.size + 1) scope.names []) (bindC (envOfC qual scope s.heap.objs.size f cd).kindOf (ps.zip us) fun _ => none) s1) :
    Inv (cxOf CX P w K mg base N qual scope f cd A outer s H E) [] (start N vs) H s1 := by
  have hpl : ps.length ≤ N.length := by have := congrArg List.length S.pre; rw [List.length_take] at this; omega
  obtain ⟨h1, tk, rfl, hk⟩ := x.done
  have noA : ∀ b : Addr, b ∉ (cxOf CX P w K mg base N qual scope f cd A outer s H E).ex := fun b z => absurd (show b ∈ ([] : List Addr) from z) (by simp)
  refine ⟨⟨e0.mod, S.kind, rfl, rfl, Nat.le_refl _, fun y z c h1 h2 => ?_, fun y hy => ?_, fun y c _ h => ?_, fun _ => hd, Around.frames_deeper e0.frames, .inr ⟨rfl, rfl⟩, fun b z => absurd z (noA b), e0.bs, e0.bsz, fun b _ _ => noA b, fun b z => absurd z (noA b), e0.funs, e0.frf⟩,
    rfl, e0.bare, Un.kept hk, ⟨_, x.toInCall.ns, fun i y v h1 h2 h3 => ?_⟩, fun y c h => ⟨_, x.cell y c h⟩, e0.hok.fresh (Nat.le_refl _), fun y c h => ?_, fun p hp => absurd (show p ∈ ([] : List (Addr × Obj)) from hp) (by simp), e0.hok.kept hk, ?_⟩
  · exact name_of_addr x.apart (PySem.mem_of_lookup h1) (PySem.mem_of_lookup h2)
  · have hy : scope.names.lookup y = some .cell ∨ scope.names.lookup y = some .free := hy
    rcases hy with hy | hy
    · exact cell_has hy
    · exact absurd rfl (S.nofree _ (PySem.mem_of_lookup hy))
  · exact Nat.le_of_lt (x.above y c (PySem.mem_of_lookup h))
  · have hi : i < vs.length := by
      unfold start at h2
      by_cases hi : i < vs.length
      · exact hi
      · rw [List.getElem?_append_right (by simpa using hi)] at h2
        rw [List.getElem?_replicate] at h2
        split at h2 <;> cases h2
    have ha : vs[i]? = some v := by
      unfold start at h2
      rw [List.getElem?_append_left (by simpa using hi), List.getElem?_map] at h2
      cases e : vs[i]? with
      | none => rw [e] at h2; cases h2
      | some a => rw [e] at h2; cases h2; rfl
    obtain ⟨u, hu, rv⟩ := r.get ha
    have hp : ps[i]? = some y := by
      rw [← S.pre, List.getElem?_take_of_lt (by omega)]; exact h1
    have ndP : ps.Nodup := by rw [← S.pre]; exact S.nd.sublist (List.take_sublist _ _)
    refine ⟨u, rv, ?_⟩
    rcases S.par y (List.mem_of_getElem? hp) with k | k
    · exact .inl ⟨k, bindL_get ndP hp hu k⟩
    · obtain ⟨c, e⟩ := cell_has (n := s.heap.objs.size + 1) k
      refine .inr ⟨.inl k, c, e, ?_⟩
      have q := x.cell y c e
      rw [bindC_get ndP hp hu (by show scope.names.lookup y ≠ _; rw [k]; decide)] at q
      exact q
  · exact e0.hok.fresh (Nat.le_of_lt (x.above y c (PySem.mem_of_lookup h)))
  · unfold start
    show _ = N.length
    rw [List.length_append, List.length_map, List.length_replicate]
    omega
theorem fn_of {CX : CXT} {P : Program} {w : World} {K : PySem.W.Frag} {mg : Str → Option Value} {base : Heap} {k : Nat} {f : Addr} {name qual : Str} {params : Arguments} {body : List Stmt} {scope : Scope} {dV kV doc pm cdv ct oc : Value} {an od : Option Addr}
    {osl : Array (Option Value)} {N ps : List Str} {sp : Sp} (lk : K.lookup f = some ⟨oc, od, .func (PySem.W.fnOf name qual params body scope dV kV doc pm an cdv ct), osl⟩) (hcd : PySem.W.codeIn K cdv qual = true) (S : FnScope N ps scope)
    (len : ∀ vs H Q E, sp vs H Q E → vs.length = ps.length)
    (hbody : ∀ (A : Around) (outer : List Env) (s : Shared) (H : Hp) (vs : List V) (Q : VK) (E : XK), Room k (A.deeper (envOfC qual scope s.heap.objs.size f cdv)) → sp vs H Q E →
      ∃ t, PSs (cxOf CX P w K mg base N qual scope f cdv A outer s H E) body t ∧ t { nx := fun _ H' => Q .non H', rt := Q } (start N vs) H) :
    FnOk P w K mg base CX (k + 1) f (PySem.W.fnOf name qual params body scope dV kV doc pm an cdv ct) ps sp := by
  refine ⟨len, fun A outer s H args us vs Q E hr e0 hb r hsp => ?_⟩
  have hl := len _ _ _ _ hsp
  have KX : K.In s.heap := e0.mod.kin.keeps fun b o e => (e0.bs b o e).1
  have lim : s.heap.NoLimit := e0.mod.nolimit.keeps fun b o e => (e0.bs b o e).1
  have hkind : ∀ y ∈ ps.zip us, scope.names.lookup y.1 = some .local ∨ (scope.names.lookup y.1 = some .cell ∧ ((cellsFrom (s.heap.objs.size + 1) scope.names []).lookup y.1).isSome = true) := fun ⟨n, v⟩ hy => by
    rcases S.par n (List.of_mem_zip hy).1 with q | q
    · exact .inl q
    · exact .inr ⟨q, PySem.W.cellsFrom_some _ _ _ (.inl q)⟩
  refine codeAny_call_function hr.depth (KX _ _ lk) rfl S.co S.gen rfl (PySem.W.codeRec_of KX hcd) (hb _ _ _ _ ?_)
  refine wpAny_newFunctionEnv_cells S.kind hkind fun env he s1 x => ?_
  subst he
  refine ⟨lim.keeps x.toInCall.keep, codeAny_func ?_⟩
  obtain ⟨t, ht, hq⟩ := hbody A outer s H vs Q E (hr.deeper _) hsp
  have I : Inv (cxOf CX P w K mg base N qual scope f cdv A outer s H E) [] (start N vs) H s1 := inv_start S hr.hd e0 hl r x
  refine wpAny_mono (ht [] s1 (start N vs) H _ I hq) (fun fl s' hs => ?_) fun e s' hs => hs
  have fin : ∀ {σ' : St} {H' : Hp} {v : V} {u : Value}, Inv (cxOf CX P w K mg base N qual scope f cdv A outer s H E) [] σ' H' s' → RelV v u → Q v H' → CE outer P w H s Q u s' :=
    fun {σ' H' v u} J rv q => ⟨v, H', J.os, J.bare, J.base, J.hok, rv, q⟩
  cases fl with
  | ret u =>
    obtain ⟨v, σ', H', J, rv, q⟩ := hs
    exact fin J rv q
  | next =>
    obtain ⟨σ', H', J, q⟩ := hs
    exact fin (v := V.non) (u := Value.none) J rfl q
  | brk =>
    obtain ⟨_, _, _, q⟩ := hs
    exact False.elim q
  | cont =>
    obtain ⟨_, _, _, q⟩ := hs
    exact False.elim q
end L2
namespace L2
open PySem PySem.Spec PyProof.Rows
section
variable {X : Cx} {x : Str} {p pos : Pos} {e : Expr} {es : List Expr} {t : TA} {id T : String} {r : List V → Hp → VK → Prop}
def tCB (r : List V → Hp → VK → Prop) (t : TA) : TE := fun σ H Q => t σ H fun vs H1 => r vs H1 Q
theorem pe_callB (hc : CallR X (.builtin id) r) (hg : Gl X x) (hm : X.mg x = none) (hv : bootBuiltins x = some (.builtin id)) (ha : PA X (e :: es) t) (hn : x ≠ "__name__" := by decide) (hdb : (x == ("__debug__" : Str)) = false := by decide)
    (he : starEach (e :: es) X.env = (false, eval e X.env) :: starEach es X.env := by rfl) (hpl : (backTo pos (starEach es X.env)).any (·.1) = false := by rfl) : PE X (.Call (.Name x p) (e :: es) [] pos) (tCB r t) := by
  intro pins s σ H Q I h
  refine wpAny_Call_Name_kw (ld_blt I hg hm hv ?_ hn hdb)
  exact PyProof.Rows.callWith_builtin1 (thn (ha pos pins s σ H _ I h) fun us s1 ⟨vs, H1, I1, r1, q1⟩ => hc pins s1 σ H1 vs us Q I1 r1 q1) he hpl
theorem pe_callTy (hc : CallR X (.type T) r) (hg : Gl X x) (hm : X.mg x = none) (hv : bootBuiltins x = some (.type T)) (ha : PA X (e :: es) t) (hn : x ≠ "__name__" := by decide) (hdb : (x == ("__debug__" : Str)) = false := by decide)
    (he : starEach (e :: es) X.env = (false, eval e X.env) :: starEach es X.env := by rfl) (hpl : (backTo pos (starEach es X.env)).any (·.1) = false := by rfl) : PE X (.Call (.Name x p) (e :: es) [] pos) (tCB r t) := by
  intro pins s σ H Q I h
  refine wpAny_Call_Name_kw (ld_blt I hg hm hv ?_ hn hdb)
  exact PyProof.Rows.callWith_type1 (thn (ha pos pins s σ H _ I h) fun us s1 ⟨vs, H1, I1, r1, q1⟩ => hc pins s1 σ H1 vs us Q I1 r1 q1) he hpl
end
end L2
namespace HT
open PySem PyProof.Rows
section
open PySem.SeqAt
open PySem.AutoSeq1 (wpAny_loadPart')
open PySem.MeetsSeq PySem.MeetsSeq2 PySem.MeetsSeq3
end
section
variable {prog : Program} {w : World} {A : Around} {E : Value → Shared → Prop} {s : Shared}
def sIx (n d : Nat) : Option Int → Nat
  | none => d
  | some v => if v < 0 then (v + (n : Int)).toNat else min v.toNat n
theorem sIx_none (n d : Nat) : sIx n d none = d := rfl
theorem sIx_nat (n d k : Nat) : sIx n d (some (k : Int)) = min k n := by
  show (if (k : Int) < 0 then ((k : Int) + (n : Int)).toNat else min (k : Int).toNat n) = min k n
  rw [if_neg (by omega), Int.toNat_natCast]
theorem sIx_le (n d : Nat) (hd : d ≤ n) (o : Option Int) : sIx n d o ≤ n := by
  cases o with
  | none => exact hd
  | some v =>
    show (if v < 0 then (v + (n : Int)).toNat else min v.toNat n) ≤ n
    by_cases hv : v < 0
    · rw [if_pos hv]; omega
    · rw [if_neg hv]; exact Nat.min_le_right _ _
theorem clip_eq (v : Int) (n d : Nat) : (if v < 0 then max (v + (n : Int)) 0 else min v (n : Int)) = ((sIx n d (some v) : Nat) : Int) := by
  show (if v < 0 then max (v + (n : Int)) 0 else min v (n : Int)) = (((if v < 0 then (v + (n : Int)).toNat else min v.toNat n) : Nat) : Int)
  by_cases hv : v < 0
  · simp only [if_pos hv]; omega
  · simp only [if_neg hv]; omega
theorem adjust_gen (lo hi : Option Int) (n : Nat) : Builtin.Slice.sliceAdjust lo hi 1 (n : Int) = (((sIx n 0 lo : Nat) : Int), ((sIx n n hi : Nat) : Int)) := by
  have h1 : ¬ ((1 : Int) < 0) := by omega
  unfold Builtin.Slice.sliceAdjust
  simp only [h1, if_false]
  refine Prod.ext ?_ ?_
  · cases lo with
    | none => rfl
    | some v => exact clip_eq v n 0
  · cases hi with
    | none => rfl
    | some v => exact clip_eq v n n
theorem places_gen (i j : Nat) : Builtin.Slice.slicePlaces (i : Int) (j : Int) 1 = j - i := by
  unfold Builtin.Slice.slicePlaces
  have h1 : (1 : Int) > 0 := by omega
  simp only [h1, if_true, Int.ediv_one]
  split <;> omega
theorem slicePart_ {v : Value} {o : Option Int} {Q : Option Int → Shared → Prop} (p : IsPart v o) (h : Q o s) : wpAny (model prog w) A (Builtin.Slice.slicePartIndex v) Q E s := by
  cases p with
  | none => exact slicePart_none h
  | int i t => exact slicePart_int h
theorem sliceApplied_gen {sl : Addr} {vl vu : Value} {lo hi : Option Int} {n : Nat} {Q : Int × Int × Nat → Shared → Prop} (hs : s.heap.IsSliceOf sl vl vu .none) (pl : IsPart vl lo) (pu : IsPart vu hi)
    (h : Q (((sIx n 0 lo : Nat) : Int), 1, sIx n n hi - sIx n 0 lo) s) : wpAny (model prog w) A (Builtin.Slice.sliceApplied (.ref sl) (pure (n : Int))) Q E s := by
  obtain ⟨os, hos, hcs, hds⟩ := id hs
  unfold Builtin.Slice.sliceApplied Builtin.Slice.sliceFields
  refine wpAny_bind (wpAny_bind (wpAny_field hos hds (x := vl) rfl (wpAny_bind (wpAny_field hos hds (x := vu) rfl (wpAny_bind (wpAny_field hos hds (x := .none) rfl (wpAny_pure ?_)))))))
  refine wpAny_bind (slicePart_none ?_)
  show wpAny _ _ (if ((1 : Int) == 0) = true then _ else _) _ _ s
  rw [if_neg (by decide)]
  refine wpAny_bind (slicePart_ pl (wpAny_bind (slicePart_ pu (wpAny_bind (wpAny_pure ?_)))))
  show wpAny _ _ (match Builtin.Slice.sliceAdjust lo hi 1 (n : Int) with | (lo, hi) => pure (lo, (1 : Int), Builtin.Slice.slicePlaces lo hi 1)) _ _ s
  rw [adjust_gen lo hi n]
  show wpAny _ _ (pure (((sIx n 0 lo : Nat) : Int), (1 : Int), Builtin.Slice.slicePlaces ((sIx n 0 lo : Nat) : Int) ((sIx n n hi : Nat) : Int) 1)) _ _ s
  rw [places_gen]
  exact wpAny_pure h
theorem pick_gen (xs : Array Value) (i k : Nat) : ((List.range k).filterMap fun (m : Nat) => xs[((i : Int) + (m : Int) * 1).toNat]?).toArray = ((xs.toList.drop i).take k).toArray := by
  have e : (fun (m : Nat) => xs[((i : Int) + (m : Int) * 1).toNat]?) = fun m => xs[i + m]? := by
    funext m
    have : ((i : Int) + (m : Int) * 1).toNat = i + m := by omega
    rw [this]
  rw [e]
  have := pick_run xs i k
  rw [List.filterMap_map] at this
  have e2 : ((fun x => xs[x]?) ∘ fun x => i + x) = fun m => xs[i + m]? := rfl
  rw [e2] at this
  rw [this]
theorem getItem_tuple_cut {t sl : Addr} {items : Array Value} {vl vu : Value} {lo hi : Option Int} {Q : Value → Shared → Prop} (ht : IsTup s.heap t items) (hs : s.heap.IsSliceOf sl vl vu .none) (pl : IsPart vl lo) (pu : IsPart vu hi)
    (hw : ¬ (sIx items.size 0 lo = 0 ∧ sIx items.size items.size hi = items.size))
    (h : Q (.ref s.heap.objs.size) { s with heap := s.heap.push { cls := .type "tuple", data := .seq ((items.toList.drop (sIx items.size 0 lo)).take (sIx items.size items.size hi - sIx items.size 0 lo)).toArray } })
    (hsz : items.size ≤ sizeLine) : wpAny (model prog w) A (getItem (.ref t) (.ref sl)) Q E s := by
  have htake : sizeOk (.seq ((items.toList.drop (sIx items.size 0 lo)).take (sIx items.size items.size hi - sIx items.size 0 lo)).toArray) := by
    show ((items.toList.drop (sIx items.size 0 lo)).take (sIx items.size items.size hi - sIx items.size 0 lo)).toArray.size ≤ sizeLine
    rw [List.size_toArray, List.length_take, List.length_drop, Array.length_toList]
    omega
  have hj : sIx items.size items.size hi ≤ items.size := sIx_le _ _ (Nat.le_refl _) hi
  obtain ⟨os, hos, hcs, hds⟩ := id hs
  have hTs : s.TypeIs (.ref sl) "slice" := ⟨os, hos, hcs⟩
  unfold getItem
  try with_reducible refine wpAny_holding ?_
  first | refine wpAny_bind (wpAny_pure ?_) | skip
  refine wpAny_bind (wpAny_sequenceKey ht.typeIs (by decide) ?_)
  refine wpAny_bind (wpAny_callSpecial?_slot (name := Str.ofString "__getitem__") ht.typeIs PyProof.Rows.slot_tuple_getitem
    (wpAny_call_entry PyProof.Rows.slot_tuple_getitem ht.typeIs entry_tuple_getitem ?_ (args_tuple_getitem _ _)))
  show wpAny _ _ (Builtin.Tuple.tupleItemsOf (.ref t) >>= _) _ _ s
  refine wpAny_bind (tupleItemsOf_ ht ?_)
  refine wpAny_bind (wpAny_typeOf hTs ?_)
  rw [if_pos (by decide)]
  refine wpAny_bind (sliceApplied_gen hs pl pu ?_)
  have hno : ¬ ((((sIx items.size 0 lo : Nat) : Int) == 0 && (1 : Int) == 1 && (sIx items.size items.size hi - sIx items.size 0 lo) == items.size) = true) := by
    intro q
    rw [Bool.and_eq_true, Bool.and_eq_true] at q
    have q1 : ((sIx items.size 0 lo : Nat) : Int) = 0 := eq_of_beq q.1.1
    have q2 : sIx items.size items.size hi - sIx items.size 0 lo = items.size := eq_of_beq q.2
    exact hw ⟨by omega, by omega⟩
  show wpAny _ _ (if (((sIx items.size 0 lo : Nat) : Int) == 0 && (1 : Int) == 1 && (sIx items.size items.size hi - sIx items.size 0 lo) == items.size) = true then _ else _) _ _ s
  rw [if_neg hno, pick_gen]
  first
    | exact wpAny_bind (m := Builtin.Tuple.tupleExact _) (wpAny_newObj_type (wpAny_pure ⟨_, rfl, wpAny_pure h⟩) htake)
    | exact wpAny_bind (m := Builtin.Tuple.tupleExact _) (wpAny_newObj_type (wpAny_bind (wpAny_pure (wpAny_pure ⟨_, rfl, wpAny_pure h⟩))) htake)
    | exact wpAny_bind (wpAny_bind (m := Builtin.Tuple.tupleExact _) (wpAny_newObj_type (wpAny_pure (wpAny_pure ⟨_, rfl, wpAny_pure h⟩)) htake))
    | exact wpAny_bind (wpAny_bind (m := Builtin.Tuple.tupleExact _) (wpAny_newObj_type (wpAny_pure ⟨_, rfl, wpAny_pure h⟩) htake))
end
end HT
namespace L2
open PySem PySem.Spec PyProof.Rows
abbrev TO := St → Hp → (Option Int → Hp → Prop) → Prop
def PO (X : Cx) (e : Option Expr) (t : TO) : Prop :=
  ∀ (pins : List (Addr × Obj)) (s : Shared) (σ : St) (H : Hp) (Q : Option Int → Hp → Prop), Inv X pins σ H s → t σ H Q →
    wpAny (model X.prog X.w) X.A (evalPart e X.env) (fun u s' => ∃ o H', Inv X pins σ H' s' ∧ IsPart u o ∧ Q o H') X.xe s
def tNoPart : TO := fun _ H Q => Q none H
def tPart (t : TE) : TO := fun σ H Q => t σ H fun x H1 => ∃ i, x = .int i ∧ Q (some i) H1
theorem intsAre_of {ns : List Int} : ∀ {us : List Value}, Vals (ns.map V.int) us → IntsAre us ns := by
  induction ns with
  | nil => intro us r; rw [List.map_nil] at r; cases r; exact .nil
  | cons n ns ih =>
    intro us r
    rw [List.map_cons] at r
    cases r with
    | cons r1 r2 =>
      obtain ⟨t, e⟩ := r1
      subst e
      exact .cons n t (ih r2)
section
variable {X : Cx} {e : Expr} {te : TE} {lo hi : Option Expr} {tl th : TO} {pos p2 : Pos}
theorem po_none : PO X none tNoPart := by
  intro pins s σ H Q I h
  rw [evalPart_none]
  exact wpAny_pure ⟨none, H, I, .none, h⟩
theorem po_some (h : PE X e te) : PO X (some e) (tPart te) := by
  intro pins s σ H Q I hw
  rw [evalPart_some]
  refine thn (h pins s σ H _ I hw) fun u s1 ⟨x, H1, I1, r1, q1⟩ => ?_
  obtain ⟨i, rfl, q⟩ := q1
  obtain ⟨t, rfl⟩ := r1
  exact ⟨some i, H1, I1, .int i t, q⟩
def SlR (X : Cx) (r : V → Option Int → Option Int → Hp → VK → Prop) : Prop :=
  ∀ (pins : List (Addr × Obj)) (s : Shared) (σ : St) (H : Hp) (x : V) (v vl vu : Value) (lo hi : Option Int) (sl : Addr) (Q : VK), Inv X pins σ H s → RelV x v → s.heap.IsSliceOf sl vl vu .none → IsPart vl lo → IsPart vu hi → r x lo hi H Q →
    ∃ T id, typeLookup (.type T) "__getitem__" = pure (some (.builtin id)) ∧ s.TypeIs v T ∧ wpAny (model X.prog X.w) X.A (getItem v (.ref sl)) (EP X pins σ Q) X.xe s
def tSl (r : V → Option Int → Option Int → Hp → VK → Prop) (te : TE) (tl th : TO) : TE := fun σ H Q => te σ H fun x H1 => tl σ H1 fun l H2 => th σ H2 fun u H3 => r x l u H3 Q
theorem pe_slice {r : V → Option Int → Option Int → Hp → VK → Prop} (hr : SlR X r) (he : PE X e te) (hl : PO X lo tl) (hu : PO X hi th) : PE X (.Subscript e (.Slice lo hi none p2) pos) (tSl r te tl th) := by
  intro pins s σ H Q I h
  refine Subscript_ (thn (he pins s σ H _ I h) fun v s1 ⟨x, H1, I1, r1, q1⟩ => ?_)
  refine wpAny_Slice (thn (hl pins s1 σ H1 _ I1 q1) fun vl s2 ⟨l, H2, I2, pl, q2⟩ => thn (hu pins s2 σ H2 _ I2 q2) fun vu s3 ⟨u, H3, I3, pu, q3⟩ => ?_)
  rw [evalPart_none]
  refine wpAny_pure ?_
  have I4 : Inv X pins σ H3 { s3 with heap := s3.heap.push { cls := .type "slice", data := .fields #[vl, vu, .none] } } := I3.kept (t' := s3.toks) fun b ob q => Heap.get?_push_of_some _ q
  obtain ⟨T, id, hT, ht, hg⟩ := hr pins { s3 with heap := s3.heap.push { cls := .type "slice", data := .fields #[vl, vu, .none] } } σ H3 x v vl vu l u s3.heap.objs.size Q I4 r1 (Heap.IsSliceOf.new ..) pl pu q3
  show wpAny (model X.prog X.w) X.A (subscriptTail e (.Slice lo hi none p2) v (.ref s3.heap.objs.size)) (EP X pins σ Q) X.xe { s3 with heap := s3.heap.push { cls := .type "slice", data := .fields #[vl, vu, .none] } }
  exact tail_any (ops := [.ref s3.heap.objs.size, v]) ht hT hg (by with_unfolding_all rfl)
def cutV (xs : List V) (lo hi : Option Int) : List V := (xs.drop (HT.sIx xs.length 0 lo)).take (HT.sIx xs.length xs.length hi - HT.sIx xs.length 0 lo)
theorem cutV_length (xs : List V) (lo hi : Option Int) : (cutV xs lo hi).length ≤ xs.length := by
  unfold cutV
  rw [List.length_take, List.length_drop]
  omega
def rSlT (K : PySem.W.Frag) : V → Option Int → Option Int → Hp → VK → Prop := fun x lo hi H Q => ∃ a xs, x = .ref a ∧ SqT K H a xs ∧
  ¬ (HT.sIx xs.length 0 lo = 0 ∧ HT.sIx xs.length xs.length hi = xs.length) ∧ ∀ p, H p = none → Q (.ref p) (upd H p (.tup (cutV xs lo hi)))
theorem sl_tup : SlR X (rSlT X.K) := by
  intro pins s σ H x v vl vu lo hi sl Q I rx hs pl pu h
  obtain ⟨a, xs, rfl, hx, hw, q⟩ := h
  cases rx
  obtain ⟨its, r, ht, hz⟩ := I.tuple hx
  have hlen : its.toArray.size = xs.length := by rw [List.size_toArray]; exact r.length.symm
  refine ⟨"tuple", _, PyProof.Rows.slot_tuple_getitem.lookup, ht.typeIs, ?_⟩
  refine HT.getItem_tuple_cut ht hs pl pu (by rw [hlen]; exact hw) ?_ (by rw [hlen]; exact hz)
  rw [hlen]
  refine ⟨.ref s.heap.objs.size, _, I.laid (t' := s.toks) (o := .tup (cutV xs lo hi)) (fun b ob q => Heap.get?_push_of_some _ q) (Nat.le_refl _) ?_, rfl, q _ (I.hok.fresh (Nat.le_refl _))⟩
  exact ⟨Nat.le_trans (cutV_length xs lo hi) hz, _, (r.drop (HT.sIx xs.length 0 lo)).take (HT.sIx xs.length xs.length hi - HT.sIx xs.length 0 lo), IsTup.new _ _⟩
end
end L2
namespace L2
open PySem PySem.Spec PyProof.Rows
def ixN (n : Nat) (i : Int) : Option Nat := if 0 ≤ i then (if i < n then some i.toNat else none) else if -(n : Int) ≤ i then some (i + n).toNat else none
def atI {α : Type} (xs : List α) (i : Int) : Option α := (ixN xs.length i).bind fun j => xs[j]?
theorem ixN_seq {n : Nat} {i : Int} {j : Nat} (h : ixN n i = some j) : seqIndex? i n = some j ∧ j < n ∧ -(n : Int) ≤ i ∧ i < n := by
  unfold ixN at h
  by_cases h0 : 0 ≤ i
  · rw [if_pos h0] at h
    by_cases h1 : i < n
    · rw [if_pos h1] at h
      have e : i.toNat = j := Option.some.inj h
      exact ⟨by rw [seqIndex_of h0 h1, e], by omega, by omega, h1⟩
    · rw [if_neg h1] at h; cases h
  · rw [if_neg h0] at h
    by_cases h1 : -(n : Int) ≤ i
    · rw [if_pos h1] at h
      have e : (i + n).toNat = j := Option.some.inj h
      exact ⟨by rw [seqIndex_neg (by omega) h1, e], by omega, h1, by omega⟩
    · rw [if_neg h1] at h; cases h
theorem atI_get {α : Type} {xs : List α} {i : Int} {v : α} (h : atI xs i = some v) : ∃ j, seqIndex? i xs.length = some j ∧ xs[j]? = some v ∧ j < xs.length ∧ -(xs.length : Int) ≤ i ∧ i < xs.length := by
  unfold atI at h
  cases e : ixN xs.length i with
  | none => rw [e] at h; cases h
  | some j =>
    rw [e] at h
    obtain ⟨h1, h2, h3, h4⟩ := ixN_seq e
    exact ⟨j, h1, h, h2, h3, h4⟩
theorem atI_nat {α : Type} {xs : List α} {j : Nat} {v : α} (h : xs[j]? = some v) : atI xs (j : Int) = some v := by
  have hj : j < xs.length := (List.getElem?_eq_some_iff.mp h).1
  have e : ixN xs.length (j : Int) = some j := by
    unfold ixN
    rw [if_pos (by omega), if_pos (by omega)]; simp
  unfold atI; rw [e]; exact h
theorem atI_last {α : Type} (xs : List α) (v : α) : atI (xs ++ [v]) (-1) = some v := by
  have hl : (xs ++ [v]).length = xs.length + 1 := by simp
  have e : ixN (xs ++ [v]).length (-1) = some xs.length := by
    unfold ixN
    rw [hl, if_neg (by decide), if_pos (by omega)]
    congr 1
    omega
  unfold atI
  rw [e]
  show (xs ++ [v])[xs.length]? = some v
  simp
def PlainIx (b : Expr) : Prop := ∀ o i, subscripted b false o i = operate [o, i] (getItem o i)
def IxR (X : Cx) (r : R2) : Prop :=
  ∀ (value slice : Expr) (pins : List (Addr × Obj)) (s : Shared) (σ : St) (H : Hp) (x y : V) (v u : Value) (Q : VK), Inv X pins σ H s → RelV x v → RelV y u → r x y H Q →
    subscripted slice false v u = operate [v, u] (getItem v u) → wpAny (model X.prog X.w) X.A (subscriptTail value slice v u) (EP X pins σ Q) X.xe s
def MtR (X : Cx) (id : String) (r : V → List V → Hp → VK → Prop) : Prop :=
  ∀ (pins : List (Addr × Obj)) (s : Shared) (σ : St) (H : Hp) (x : V) (xs : List V) (v : Value) (us : List Value) (Q : VK), Inv X pins σ H s → RelV x v → Vals xs us → r x xs H Q →
    wpAny (model X.prog X.w) X.A (call (.builtin id) (v :: us)) (EP X pins σ Q) X.xe s
section
variable {X : Cx} {a b : Expr} {ta tb : TE} {pos : Pos}
theorem pe_ix {r : R2} (hr : IxR X r) (ha : PE X a ta) (hb : PE X b tb) (hs : PlainIx b) : PE X (.Subscript a b pos) (tOp r ta tb) := by
  intro pins s σ H Q I h
  exact Subscript_ (binT ha hb I h fun v u s2 x y H2 I2 rx ry q => hr a b pins s2 σ H2 x y v u Q I2 rx ry q (hs _ _))
def rIxL (K : PySem.W.Frag) : R2 := fun x y H Q => ∃ p xs i v, x = .ref p ∧ y = .int i ∧ SqL K H p xs ∧ atI xs i = some v ∧ Q v H
def rIxT (K : PySem.W.Frag) : R2 := fun x y H Q => ∃ p xs i v, x = .ref p ∧ y = .int i ∧ SqT K H p xs ∧ atI xs i = some v ∧ Q v H
def rIxS : R2 := fun x y H Q => ∃ z i c, x = .str z ∧ y = .int i ∧ z.length ≤ sizeLine ∧ atI z.cps.toList i = some c ∧ Q (.str ⟨#[c]⟩) H
theorem ix_list : IxR X (rIxL X.K) := by
  intro value slice pins s σ H x y v u Q I rx ry h hs
  obtain ⟨p, xs, i, z, rfl, rfl, hq, he, q⟩ := h
  cases rx
  obtain ⟨t, rfl⟩ := ry
  obtain ⟨its, r, pl, hz⟩ := I.list hq
  obtain ⟨j, h1, h2, h3, h4, h5⟩ := atI_get he
  obtain ⟨w, ew, rw'⟩ := r.get h2
  have hl := r.length
  have hn := line63
  have fin : EP X pins σ Q w s := ⟨z, H, I, rw', q⟩
  by_cases h0 : 0 ≤ i
  · have hj : i.toNat = j := by
      rw [seqIndex_of h0 h5] at h1
      exact Option.some.inj h1
    exact item_listR pl.isList h0 (by omega) (by rw [hj]; simpa using ew) fin hs
  · have hj : (i + (its.toArray.size : Int)).toNat = j := by
      rw [seqIndex_neg (by omega) h4] at h1
      rw [List.size_toArray, ← hl]
      exact Option.some.inj h1
    exact subscriptTail_builtinR (x := w) pl.isList.typeIs slot_list_getitem.lookup
      (wpAny_getItem_list_neg (Q := fun r s' => r = w ∧ EP X pins σ Q r s') pl.isList (by omega) (by rw [List.size_toArray] <;> omega) (by omega) (by rw [hj]; simpa using ew) ⟨rfl, fin⟩) hs
theorem ix_tup : IxR X (rIxT X.K) := by
  intro value slice pins s σ H x y v u Q I rx ry h hs
  obtain ⟨p, xs, i, z, rfl, rfl, hq, he, q⟩ := h
  cases rx
  obtain ⟨t, rfl⟩ := ry
  obtain ⟨its, r, pl, hz⟩ := I.tuple hq
  obtain ⟨j, h1, h2, h3, h4, h5⟩ := atI_get he
  obtain ⟨w, ew, rw'⟩ := r.get h2
  have hl := r.length
  have hn := line63
  have fin : EP X pins σ Q w s := ⟨z, H, I, rw', q⟩
  exact subscriptTail_builtinR (x := w) pl.typeIs slot_tuple_getitem.lookup
    (getItem_tuple (j := j) (Q := fun r s' => r = w ∧ EP X pins σ Q r s') pl (by omega) (by omega) (by rw [List.size_toArray, ← hl]; exact h1) (by simpa using ew) ⟨rfl, fin⟩) hs
theorem ix_str : IxR X rIxS := by
  intro value slice pins s σ H x y v u Q I rx ry h hs
  obtain ⟨z, i, c, rfl, rfl, hz, he, q⟩ := h
  obtain ⟨t, rfl⟩ := rx
  obtain ⟨t', rfl⟩ := ry
  obtain ⟨j, h1, h2, h3, h4, h5⟩ := atI_get he
  have hl : z.cps.toList.length = z.length := by simp [Str.length]
  rw [hl] at h1 h4 h5
  have hn := line63
  exact tail_any (typeIs_str s z t) slot_str_getitem.lookup (getItem_str (c := c) (by
    have e1 : decide (i < -(2 ^ 63 : Int)) = false := decide_eq_false (by omega)
    have e2 : decide (i ≥ 2 ^ 63) = false := decide_eq_false (by omega)
    rw [e1, e2, Bool.or_false]) (by rw [h1]; simpa using h2) ⟨.str ⟨#[c]⟩, H, I.tok _, ⟨_, rfl⟩, q⟩) hs
theorem slice_bounds (lo hi : Option Int) (n : Nat) : (sliceBounds lo hi none n).1 = ((HT.sIx n 0 lo : Nat) : Int) ∧ (sliceBounds lo hi none n).2.1 = ((HT.sIx n n hi : Nat) : Int) ∧ (sliceBounds lo hi none n).2.2 = 1 := by
  refine ⟨?_, ?_, rfl⟩
  · cases lo with
    | none => simp [sliceBounds, HT.sIx]
    | some i =>
      simp only [sliceBounds, HT.sIx, Option.getD_none, show (1 : Int) > 0 by decide, if_true]
      by_cases h : i < 0
      · simp only [h, if_true] <;> omega
      · simp only [h, if_false] <;> omega
  · cases hi with
    | none => simp [sliceBounds, HT.sIx]
    | some i =>
      simp only [sliceBounds, HT.sIx, Option.getD_none, show (1 : Int) > 0 by decide, if_true]
      by_cases h : i < 0
      · simp only [h, if_true] <;> omega
      · simp only [h, if_false] <;> omega
theorem slicePick_cut (its : List Value) (lo hi : Option Int) : slicePick its.toArray lo hi none = ((its.drop (HT.sIx its.length 0 lo)).take (HT.sIx its.length its.length hi - HT.sIx its.length 0 lo)).toArray := by
  obtain ⟨h1, h2, h3⟩ := slice_bounds lo hi its.toArray.size
  unfold slicePick
  rw [h1, h2, h3]
  simp only [sliceRange_one, pick_run, List.size_toArray] <;> rfl
def rSlL (K : PySem.W.Frag) : V → Option Int → Option Int → Hp → VK → Prop := fun x lo hi H Q => ∃ a xs, x = .ref a ∧ SqL K H a xs ∧ ∀ p, H p = none → Q (.ref p) (upd H p (.lst (cutV xs lo hi)))
theorem sl_list : SlR X (rSlL X.K) := by
  intro pins s σ H x v vl vu lo hi sl Q I rx hs pl pu h
  obtain ⟨a, xs, rfl, hx, q⟩ := h
  cases rx
  obtain ⟨its, r, ht, hz⟩ := I.list hx
  have hlen := r.length
  refine ⟨"list", _, slot_list_getitem.lookup, ht.isList.typeIs, ?_⟩
  refine wpAny_getItem_list_slice ht.isList hs pl pu .none (by simp) ?_ (by rw [List.size_toArray] <;> omega)
  rw [slicePick_cut, ← hlen]
  refine ⟨.ref s.heap.objs.size, _, I.laid (t' := s.toks) (o := .lst (cutV xs lo hi)) (fun b ob q => Heap.get?_push_of_some _ q) (Nat.le_refl _) ?_, rfl, q _ (I.hok.fresh (Nat.le_refl _))⟩
  exact ⟨Nat.le_trans (cutV_length xs lo hi) hz, _, 0, (r.drop (HT.sIx xs.length 0 lo)).take (HT.sIx xs.length xs.length hi - HT.sIx xs.length 0 lo), Heap.get?_push_size _ rfl⟩
def flatV : V → Bool
  | .non => true
  | .bl _ => true
  | .int _ => true
  | .str _ => true
  | _ => false
def eqV : V → V → Bool
  | .non, .non => true
  | .bl a, .bl b => a == b
  | .bl a, .int b => (if a then 1 else 0) == b
  | .int a, .bl b => a == (if b then 1 else 0)
  | .int a, .int b => a == b
  | .str a, .str b => a == b
  | _, _ => false
theorem eqAt_V {A : Around} {s : Shared} {y x : V} {u v : Value} (ry : RelV y u) (rx : RelV x v) (fy : flatV y = true) (fx : flatV x = true) : SeqAt.EqAt A s u v (eqV y x) := by
  cases y with
  | non =>
    cases ry
    cases x with
    | non => cases rx; exact SeqAt.EqAt.same _
    | bl b => cases rx; exact SeqAt.EqAt.none_bool b
    | int b => obtain ⟨t, rfl⟩ := rx; exact SeqAt.EqAt.none_int b t
    | str b => obtain ⟨t, rfl⟩ := rx; exact SeqAt.EqAt.none_str b t
    | _ => exact absurd (show false = true from fx) Bool.false_ne_true
  | bl a =>
    cases ry
    cases x with
    | non => cases rx; exact SeqAt.EqAt.bool_none a
    | bl b => cases rx; exact SeqAt.EqAt.bool_bool a b
    | int b => obtain ⟨t, rfl⟩ := rx; exact SeqAt.EqAt.bool_int a b t
    | str b => obtain ⟨t, rfl⟩ := rx; exact SeqAt.EqAt.bool_str a b t
    | _ => exact absurd (show false = true from fx) Bool.false_ne_true
  | int a =>
    obtain ⟨t', rfl⟩ := ry
    cases x with
    | non => cases rx; exact SeqAt.EqAt.int_none a t'
    | bl b => cases rx; exact SeqAt.EqAt.int_bool a t' b
    | int b => obtain ⟨t, rfl⟩ := rx; exact SeqAt.EqAt.int_int a t' b t
    | str b => obtain ⟨t, rfl⟩ := rx; exact SeqAt.EqAt.int_str a t' b t
    | _ => exact absurd (show false = true from fx) Bool.false_ne_true
  | str a =>
    obtain ⟨t', rfl⟩ := ry
    cases x with
    | non => cases rx; exact SeqAt.EqAt.str_none a t'
    | bl b => cases rx; exact SeqAt.EqAt.str_bool a t' b
    | int b => obtain ⟨t, rfl⟩ := rx; exact SeqAt.EqAt.str_int a t' b t
    | str b => obtain ⟨t, rfl⟩ := rx; exact SeqAt.EqAt.str_str a t' b t
    | _ => exact absurd (show false = true from fx) Bool.false_ne_true
  | _ => exact absurd (show false = true from fy) Bool.false_ne_true
theorem call_len_seq : CallR X (.builtin "len") (fun xs H Q => ∃ p ys, xs = [.ref p] ∧ (SqL X.K H p ys ∨ SqT X.K H p ys) ∧ Q (.int ys.length) H) := by
  intro pins s σ H xs us Q I r h
  obtain ⟨p, ys, rfl, hq, q⟩ := h
  obtain ⟨u, rfl, rx⟩ := vals1 r
  cases rx
  have hn := line63
  rcases hq with hq | hq
  · obtain ⟨its, r', pl, hz⟩ := I.list hq
    have hlen := r'.length
    exact Calls.call_len_list pl.isList (by simp only [List.size_toArray] <;> omega) ⟨.int ys.length, H, I.tok _, ⟨s.toks + 1, by rw [List.size_toArray, hlen]⟩, q⟩
  · obtain ⟨its, r', pl, hz⟩ := I.tuple hq
    have hlen := r'.length
    exact len_tuple pl (by simp only [List.size_toArray] <;> omega) ⟨.int ys.length, H, I.tok _, ⟨s.toks + 1, by rw [List.size_toArray, hlen]⟩, q⟩
theorem call_list_of : CallR X (.type "list") (fun xs H Q => ∃ p ys, xs = [.ref p] ∧ (SqL X.K H p ys ∨ SqT X.K H p ys) ∧ ∀ l, H l = none → Q (.ref l) (upd H l (.lst ys))) := by
  intro pins s σ H xs us Q I r h
  obtain ⟨p, ys, rfl, hq, q⟩ := h
  obtain ⟨u, rfl, rx⟩ := vals1 r
  cases rx
  have fin : ∀ (its : List Value), Vals ys its → ys.length ≤ sizeLine → ∀ (h' : Heap) (c' : Nat), (∀ b o', s.heap.get? b = some o' → h'.get? b = some o') →
      h'.get? s.heap.objs.size = some { cls := .type "list", dict := none, data := .seq its.toArray c', slots := #[] } → EP X pins σ Q (.ref s.heap.objs.size) { s with heap := h' } := fun its r' hz h' c' kp e =>
    ⟨.ref s.heap.objs.size, _, I.laid (t' := s.toks) kp (Nat.le_refl _) (show ObjOk X.prog X.w _ h' _ (.lst ys) from ⟨hz, its, c', r', e⟩), rfl, q _ (I.hok.fresh (Nat.le_refl _))⟩
  rcases hq with hq | hq
  · obtain ⟨its, r', pl, hz⟩ := I.list hq
    have hlen := r'.length
    obtain ⟨o, ho, hc, n, hd⟩ := pl.isList
    exact call_list_seq p (.inl rfl) ho hc hd (fun h' c' kp e => fin its r' hz h' c' kp e) (by simp only [List.size_toArray] <;> omega)
  · obtain ⟨its, r', pl, hz⟩ := I.tuple hq
    have hlen := r'.length
    obtain ⟨o, ho, hc, n, hd⟩ := pl
    exact call_list_seq p (.inr rfl) ho hc hd (fun h' c' kp e => fin its r' hz h' c' kp e) (by simp only [List.size_toArray] <;> omega)
def tyV (K : PySem.W.Frag) (T : String) (x : V) (H : Hp) : Prop := match x with
  | .str _ => T = "str"
  | .int _ => T = "int"
  | .ref p => (T = "list" ∧ ∃ xs, SqL K H p xs) ∨ (T = "tuple" ∧ ∃ o, K.lookup p = some o ∧ o.cls = .type "tuple" ∧ o.dict = none) ∨
      (T = "dict" ∧ ((∃ kvs, H p = some (.dK kvs)) ∨ ∃ kvs, H p = some (.dT kvs))) ∨ (T = "set" ∧ ∃ S n, H p = some (.set S n))
  | _ => False
theorem tyV_is {pins : List (Addr × Obj)} {σ : St} {H : Hp} {s : Shared} {T : String} {x : V} {v : Value} (I : Inv X pins σ H s) (r : RelV x v) (ty : tyV X.K T x H) :
    s.TypeIs v T ∧ ∀ a, v = .ref a → ∃ ob, s.heap.get? a = some ob ∧ ob.dict = none := by
  cases x with
  | str z =>
    obtain ⟨t, rfl⟩ := r
    cases (show T = "str" from ty)
    exact ⟨typeIs_str s z t, fun _ e => nomatch e⟩
  | int i =>
    obtain ⟨t, rfl⟩ := r
    cases (show T = "int" from ty)
    exact ⟨typeIs_int s i t, fun _ e => nomatch e⟩
  | ref p =>
    cases r
    rcases ty with ⟨rfl, xs, hq⟩ | ⟨rfl, o, hk, hc, hd⟩ | ⟨rfl, hk⟩ | ⟨rfl, S, n, hk⟩
    · obtain ⟨its, _, pl, _⟩ := I.list hq
      refine ⟨pl.isList.typeIs, fun a e => ?_⟩
      cases e
      obtain ⟨o, n, e, c, hd, _⟩ := pl
      exact ⟨o, e, hd⟩
    · refine ⟨⟨o, I.kIn p o hk, hc⟩, fun a e => ?_⟩
      cases e
      exact ⟨o, I.kIn _ o hk, hd⟩
    · have z : ∃ o, s.heap.get? p = some o ∧ o.ExactDict := by
        rcases hk with ⟨kvs, hk⟩ | ⟨kvs, hk⟩
        · obtain ⟨_, _, _, _, o, _, _, e, ex, _⟩ := I.hok p _ hk
          exact ⟨o, e, ex⟩
        · obtain ⟨_, _, _, _, o, _, _, e, ex, _⟩ := I.hok p _ hk
          exact ⟨o, e, ex⟩
      obtain ⟨o, e, ex⟩ := z
      refine ⟨⟨o, e, ex.1⟩, fun a e2 => ?_⟩
      cases e2
      exact ⟨o, e, ex.2.1⟩
    · obtain ⟨o, _, _, _, e, ex, _⟩ := I.hok p _ hk
      refine ⟨⟨o, e, ex.1⟩, fun a e2 => ?_⟩
      cases e2
      exact ⟨o, e, ex.2.1⟩
  | _ => exact False.elim ty
def tBM (K : PySem.W.Frag) (T : String) (r : V → List V → Hp → VK → Prop) (to : TE) (t : TA) : TE := fun σ H Q => to σ H fun x H1 => tyV K T x H1 ∧ t σ H1 fun xs H2 => r x xs H2 Q
variable {o e : Expr} {es : List Expr} {to : TE} {t : TA} {name : Str} {apos cpos : Pos} {T id : String} {r : V → List V → Hp → VK → Prop}
theorem pe_bm (pa : PlainAttrs T) (slot : Slot T name id) (hty : typeOf (.builtin id) = pure (.type "method_descriptor")) (hm : MtR X id r) (ho : PE X o to) (ha : PA X (e :: es) t)
    (hbase : attributeBase o name X.env (eval o X.env) = eval o X.env := by rfl)
    (hfew : ((backTo cpos (starEach (e :: es) X.env)).all (fun x => !x.1) && (backToKw cpos (keywordEach [] X.env)).all (fun x => x.1.isSome)
      && decide ((e :: es).length + ([] : List Keyword).length + (if ([] : List Keyword).isEmpty then 0 else 1) < 30)) = true := by rfl)
    (hline : (apos.endLine == cpos.line) = true := by rfl) (hs : starEach (e :: es) X.env = (false, eval e X.env) :: starEach es X.env := by rfl) (hplain : (backTo cpos (starEach es X.env)).any (·.1) = false := by rfl) :
    PE X (.Call (.Attribute o name apos) (e :: es) [] cpos) (tBM X.K T r to t) := by
  intro pins s σ H Q I h
  refine wpAny_Call_method_late hbase hfew hline rfl (thn (ho pins s σ H _ I h) fun v s1 ⟨x, H1, I1, r1, ty, q1⟩ => ?_)
  obtain ⟨h1, h2⟩ := tyV_is I1 r1 ty
  refine ⟨T, id, pa, slot, hty, h1, h2, ?_⟩
  have hA := ha cpos pins s1 σ H1 _ I1 q1
  rw [hs] at hA ⊢
  refine Calls.callWith_builtin (by show (false || (backTo cpos (starEach es X.env)).any (·.1)) = false; rw [hplain] <;> rfl) (Calls.evalArgs_plain ?_)
  exact thn hA fun us s2 ⟨vs, H2, I2, r2, q2⟩ => hm pins s2 σ H2 x vs v us Q I2 r1 r2 q2
/- xs.append(e), list.index on a module's tuple .. are MtR facts of 06m -/
end
end L2
namespace L2
open PySem PySem.Spec PyProof.Rows
def MtM (X : Cx) (id : String) (r : V → List V → Hp → VK → Prop) : Prop :=
  ∀ (pins : List (Addr × Obj)) (s : Shared) (σ : St) (H : Hp) (x : V) (xs : List V) (v : Value) (us : List Value) (Q : VK), Inv X pins σ H s → RelV x v → Vals xs us → r x xs H Q →
    wpAny (model X.prog X.w) X.A (call (.builtin id) (v :: us)) (EP X pins σ Q) X.xe s
theorem Vals.one : ∀ {x : V} {us : List Value}, Vals [x] us → ∃ u, us = [u] ∧ RelV x u
  | _, _, .cons r .nil => ⟨_, rfl, r⟩
theorem Vals.rep {xs : List V} {us : List Value} (h : Vals xs us) : ∀ k : Nat, Vals (List.replicate k xs).flatten (List.replicate k us).flatten
  | 0 => .nil
  | k + 1 => by
    rw [List.replicate_succ, List.replicate_succ, List.flatten_cons, List.flatten_cons]
    exact Vals.append h (Vals.rep h k)
theorem foldl_rep (its : List Value) : ∀ (k : Nat) (acc : List Value),
    List.foldl (fun x1 x2 => x1 ++ x2) acc.toArray (List.replicate k its.toArray) = (acc ++ (List.replicate k its).flatten).toArray
  | 0, acc => by simp
  | k + 1, acc => by
    have e : acc.toArray ++ its.toArray = (acc ++ its).toArray := by simp
    have e2 : (acc ++ its) ++ (List.replicate k its).flatten = acc ++ (List.replicate (k + 1) its).flatten := by
      rw [List.replicate_succ, List.flatten_cons, List.append_assoc]
    rw [← e2, ← foldl_rep its k (acc ++ its), ← e, List.replicate_succ, List.foldl_cons]
section
variable {X : Cx} {pins : List (Addr × Obj)} {σ : St} {H : Hp} {s : Shared} {l b : Addr} {xs ys zs : List V}
theorem Inv.lset {its its' : List Value} {n : Nat} {f : Array Value → Array Value} {t' : Nat} (I : Inv X pins σ H s) (hH : H l = some (.lst xs))
    (e : s.heap.get? l = some { cls := .type "list", data := .seq its.toArray n }) (hf : f its.toArray = its'.toArray) (hv : Vals ys its') (hz : ys.length ≤ sizeLine) :
    Inv X pins σ (upd H l (.lst ys)) { s with heap := s.heap.update l (Obj.mapSeq f), toks := t' } := by
  have q := PySem.IsL.update e f
  rw [hf] at q
  refine I.write (x := l) (e := l) (by rw [hH]; exact trivial) (.inl rfl) (fun b' u hb hu => (Heap.get?_update_other s.heap (Obj.mapSeq f) (Ne.symm hb)).trans hu) ⟨_, q⟩ ?_
  exact ⟨hz, its', _, hv, q⟩
theorem Inv.lnew {its : List Value} {t' : Nat} (I : Inv X pins σ H s) (hv : Vals ys its) (hz : ys.length ≤ sizeLine) :
    Inv X pins σ (upd H s.heap.objs.size (.lst ys)) { s with heap := s.heap.push { cls := .type "list", data := .seq its.toArray }, toks := t' } :=
  I.laid (fun _ _ q => Heap.get?_push_of_some _ q) (Nat.le_refl _) ⟨hz, its, 0, hv, Heap.get?_push_size _ rfl⟩
theorem Inv.fresh (I : Inv X pins σ H s) : H s.heap.objs.size = none := I.hok.fresh (Nat.le_refl _)
theorem Inv.lstM (I : Inv X pins σ H s) (hH : H l = some (.lst xs)) : xs.length ≤ sizeLine ∧ ∃ (its : List Value) (n : Nat), Vals xs its ∧ xs.length = its.length ∧ s.heap.get? l = some { cls := .type "list", data := .seq its.toArray n } := by
  obtain ⟨z, its, n, r, e⟩ := I.hok l _ hH
  exact ⟨z, its, n, r, r.length, e⟩
theorem notLongL {n : Nat} (h : n ≤ sizeLine) : Builtin.List.listTooLong n = false := by
  unfold Builtin.List.listTooLong
  exact decide_eq_false (by omega)
end
section
variable {X : Cx}
def rAppend : V → List V → Hp → VK → Prop := fun x vs H Q => ∃ l xs y, x = .ref l ∧ vs = [y] ∧ H l = some (.lst xs) ∧ xs.length < sizeLine ∧ Q .non (upd H l (.lst (xs ++ [y])))
theorem mt_append : MtM X "list.append" rAppend := by
  intro pins s σ H x vs v us Q I rx rv h
  obtain ⟨l, xs, y, rfl, rfl, hH, hz, q⟩ := h
  cases rx
  obtain ⟨u, rfl, ru⟩ := rv.one
  obtain ⟨z, its, n, r, hl, e⟩ := I.lstM hH
  refine call_meets F.slot_list_append ⟨_, e, rfl⟩ F.entry_list_append (F.args_list_append_2 _ _) (PySem.list_append l its.toArray n u (by rw [List.size_toArray]; omega)) ⟨e, ?_⟩
  refine ⟨.non, _, I.lset (its' := its ++ [u]) hH e (by simp) (r.append (.cons ru .nil)) ?_, rfl, q⟩
  rw [List.length_append, List.length_singleton]
  omega
def rExtend : V → List V → Hp → VK → Prop := fun x vs H Q => ∃ l b xs zs, x = .ref l ∧ vs = [.ref b] ∧ H l = some (.lst xs) ∧ H b = some (.lst zs) ∧ xs.length + zs.length ≤ sizeLine ∧ Q .non (upd H l (.lst (xs ++ zs)))
theorem mt_extend : MtM X "list.extend" rExtend := by
  intro pins s σ H x vs v us Q I rx rv h
  obtain ⟨l, b, xs, zs, rfl, rfl, hH, hB, hz, q⟩ := h
  cases rx
  obtain ⟨u, rfl, ru⟩ := rv.one
  cases ru
  obtain ⟨z, its, n, r, hl, e⟩ := I.lstM hH
  obtain ⟨z2, its2, n2, r2, hl2, e2⟩ := I.lstM hB
  have hsz : its.toArray.size + its2.toArray.size ≤ sizeLine := by rw [List.size_toArray, List.size_toArray]; omega
  have hlong : ¬ (!its.toArray.isEmpty && Builtin.List.listTooLong (its.toArray.size + its2.toArray.size)) = true := by
    rw [notLongL hsz, Bool.and_false]
    exact Bool.false_ne_true
  refine call_meets F.slot_list_extend ⟨_, e, rfl⟩ F.entry_list_extend (F.args_list_extend_2 _ _)
    (AutoSeq1.list_extend_list_list_0 l its.toArray n b its2.toArray n2 hlong (by rw [List.size_toArray]; omega) (by omega)) ⟨e, e2, ?_⟩
  refine ⟨.non, _, I.lset (its' := its ++ its2) hH e (by simp) (r.append r2) ?_, rfl, q⟩
  rw [List.length_append]
  omega
def rCat : R2 := fun x y H Q => ∃ l b xs zs, x = .ref l ∧ y = .ref b ∧ H l = some (.lst xs) ∧ H b = some (.lst zs) ∧ xs.length + zs.length ≤ sizeLine ∧ ∀ p, H p = none → Q (.ref p) (upd H p (.lst (xs ++ zs)))
theorem op_cat : OpR X (binaryOp .Add) rCat := by
  intro pins s σ H x y v u Q I rx ry h
  obtain ⟨l, b, xs, zs, rfl, rfl, hH, hB, hz, q⟩ := h
  cases rx
  cases ry
  obtain ⟨z, its, n, r, hl, e⟩ := I.lstM hH
  obtain ⟨z2, its2, n2, r2, hl2, e2⟩ := I.lstM hB
  refine PySem.P.add_list e e2 ?_ (by rw [List.size_toArray, List.size_toArray]; omega)
  have ea : its.toArray ++ its2.toArray = (its ++ its2).toArray := by simp
  rw [ea]
  exact ⟨.ref _, _, I.lnew (t' := s.toks) (r.append r2) (by rw [List.length_append]; omega), rfl, q _ I.fresh⟩
def rRep : R2 := fun x y H Q => ∃ l k xs, x = .ref l ∧ y = .int k ∧ H l = some (.lst xs) ∧ -(2 ^ 63) ≤ k ∧ k < 2 ^ 63 ∧ xs.length * k.toNat ≤ sizeLine ∧
  ∀ p, H p = none → Q (.ref p) (upd H p (.lst (List.replicate k.toNat xs).flatten))
theorem len_rep {α : Type} (xs : List α) (k : Nat) : (List.replicate k xs).flatten.length = k * xs.length := by
  induction k with
  | zero => simp
  | succ k ih => rw [List.replicate_succ, List.flatten_cons, List.length_append, ih, Nat.succ_mul, Nat.add_comm]
theorem op_rep : OpR X (binaryOp .Mult) rRep := by
  intro pins s σ H x y v u Q I rx ry h
  obtain ⟨l, k, xs, rfl, rfl, hH, h1, h2, hz, q⟩ := h
  cases rx
  obtain ⟨t, rfl⟩ := ry
  obtain ⟨z, its, n, r, hl, e⟩ := I.lstM hH
  have hlen : its.toArray.size * k.toNat ≤ sizeLine := by rw [List.size_toArray, ← hl]; exact hz
  have hcap : ¬ its.toArray.size * k.toNat > (2 ^ 63 - 1) / 8 := by
    have : (sizeLine : Nat) ≤ (2 ^ 63 - 1) / 8 := by decide
    omega
  have hfit : ¬ (!Builtin.List.listFitsIndex k) = true := by
    rw [fitsIndex_both h1 h2]
    exact Bool.false_ne_true
  have hlong : ¬ Builtin.List.listTooLong (its.toArray.size * k.toNat) = true := by
    rw [notLongL hlen]
    exact Bool.false_ne_true
  have hnew : List.foldl (fun x1 x2 => x1 ++ x2) #[] (List.replicate (if its.toArray.isEmpty = true then 0 else k.toNat) its.toArray) = (List.replicate k.toNat its).flatten.toArray := by
    have f0 : ∀ m : Nat, List.foldl (fun x1 x2 => x1 ++ x2) #[] (List.replicate m its.toArray) = (List.replicate m its).flatten.toArray := fun m => by
      have := foldl_rep its m []
      rw [List.nil_append] at this
      exact this
    rw [f0]
    cases its with
    | nil => simp
    | cons a r' => rw [if_neg (by simp)]
  refine wpAny_binaryOp_repeat_ref (T := "list") (U := "int") (by decide) ⟨_, e, rfl⟩ (fun s' => typeIs_int s' k t) noFill_list_mul F.fills_int_mul F.slot_int_rmul repeat_list F.slot_int_index.lookup
    (call_meets F.slot_int_rmul (typeIs_int s k t) F.entry_int_rmul (F.args_int_rmul_2 _ _) (int___rmul___int_list k t l its.toArray n)
      ⟨e, rfl, ⟨_, e, rfl⟩, call_meets F.slot_list_mul ⟨_, e, rfl⟩ F.entry_list_mul (F.args_list_mul_2 _ _) (AutoListH.list___mul___list_int_3 l its.toArray n k t hfit hcap hlong) ⟨e, ?_⟩⟩)
  rw [hnew]
  exact ⟨.ref _, _, I.lnew (t' := s.toks) (r.rep k.toNat) (by rw [len_rep, Nat.mul_comm]; exact hz), rfl, q _ I.fresh⟩
end
section
variable {prog : Program} {w : World} {A : Around} {E : Value → Shared → Prop} {s : Shared}
end
section
variable {X : Cx}
end
end L2
namespace Att
open PySem PySem.W PySem.Calls PyProof.Rows
theorem ints_of_wellAll {P : Params} {h : Heap} : ∀ (ns : List Int) (vs : List Value), WellAll P h vs (ns.map WData.int) → IntsAre vs ns := by
  intro ns
  induction ns with
  | nil =>
    intro vs w
    rw [List.map_nil] at w
    cases w
    exact .nil
  | cons n ns ih =>
    intro vs w
    rw [List.map_cons] at w
    cases w with
    | cons a b =>
      cases a
      exact .cons _ _ (ih _ b)
theorem script_of {l : OpenLaw} {n : Nat} (hn : l.most = some n) {P : Params} {h : Heap} {args : List WData} {vals : List Value}
    (hpre : l.row.toRowW.claim.pre args = true) (hwl : WellAll P h vals args) :
    ∃ a vs ns, vals = [Value.ref a] ∧ args = [WData.list (ns.map WData.int)] ∧ h.get? a = some { cls := .type "list", data := .seq vs.toArray } ∧ IntsAre vs ns ∧ ns.length ≤ n := by
  have hsh : WShape.hasAll [] args [.list .int] = true := (pre_splitW hpre).1
  have hc : l.pre.holds [] { args := args } = true := (pre_splitW hpre).2
  obtain ⟨d, r, rfl, h1, h2⟩ := hasAllW_cons hsh
  obtain rfl := hasAllW_nil h2
  obtain ⟨xs, rfl, h3⟩ := hasW_list h1
  obtain ⟨ns, rfl⟩ := items_int h3
  have hlen : ns.length ≤ n := by
    unfold OpenLaw.pre at hc
    have h4 : (WTm.not (.lt (.lit (.int (n : Int))) (.len (.arg 0)))).holds [] { args := [.list (ns.map .int)] } = true := by
      have h4 := (holds_andW hc).1
      rw [hn] at h4
      exact h4
    have h5 := condW_of h4 (w_not (w_lt w_lit (w_len_list (w_arg rfl))))
    rw [List.length_map] at h5
    refine Nat.le_of_not_lt fun q => ?_
    have q' : (n : Int) < ((ns.length : Nat) : Int) := by omega
    first
      | (rw [decide_eq_true q'] at h5; exact absurd h5 (by decide))
      | (simp at h5; omega)
  cases hwl with
  | cons w1 w2 =>
    cases w2
    cases w1 with
    | list ho hall => exact ⟨_, _, ns, rfl, rfl, ho, ints_of_wellAll ns _ hall, hlen⟩
theorem post_true (l : OpenLaw) (args : List WData) : l.row.toRowW.claim.post args (.bool true) args = true :=
  postW_of (r := l.row.toRowW) (X := (true == true))
    (show WShape.has [] (.bool true) .bool = true by first | rfl | decide | simp [WShape.has, WShape.arms, WShape.armsAll])
    (show (WTm.eq .res (.lit (.bool true))).value [] { args := args, res := some (.bool true), after := args } = some (.bool (true == true)) from w_eq_bool (w_res rfl) w_lit) rfl
theorem attach_call {l : OpenLaw} {n : Nat} {q : Program} {loose : List Str} {XP : (Str → Option Value) → Heap → Prop} {YP : World → Heap → Prop} {d : DefRec}
    (hn : l.most = some n) (hdf : d.params.defaults = [])
    (call : ∀ (w : World) (s₀ s₁ : Shared) (mg mb : Str → Option Value) (fa : Addr) (o : Obj) (pm cd doc : Value) (a : Addr) (vs : List Value) (ns : List Int),
      Ground q loose [] XP w s₀ mg mb s₁.heap → YP w s₁.heap →
      s₁.heap.get? fa = some o → o.data = .func (docDef d.name d.params d.body d.scope pm cd doc) → s₁.heap.CodeRec cd d.name → mg d.name = some (.ref fa) →
      s₁.heap.get? a = some { cls := .type "list", data := .seq vs.toArray } → IntsAre vs ns → ns.length ≤ n → s₁.gens = #[] →
      codeAny (model l.prog w) callerA (.call (.ref fa) ⟨[.ref a], []⟩) (fun r s' => r = .ok (.ret (.bool true)) ∧ OldK s₁.heap s'.heap ∧ s'.os = s₁.os ∧ AllBare s'.gens) s₁) :
    WalkO q loose XP YP l.row.toRowW d [] (fun f vs => PySem.call f vs) := by
  intro w s₀ s₁ mg mb G Y fa o pm cd doc dV kV ho hd hcd hD hmg hg args vals as hpre hlay hrd hwl hlo
  obtain rfl : dV = .none := Dflts.none hD hdf
  obtain rfl : kV = .none := Dflts.noKw hD
  obtain ⟨a, vs, ns, rfl, rfl, hobj, hints, hlen⟩ := script_of hn hpre hwl
  refine enter_call (codeAny_mono (call w s₀ s₁ mg mb fa o pm cd doc a vs ns G Y ho (fd_plain hd) hcd hmg hobj hints hlen hg) fun r s' hq => ?_)
  obtain ⟨rfl, h2, h3, h4⟩ := hq
  exact ⟨.inl ⟨.bool true, .bool true, [], rfl, fun _ => rfl, .bool true, post_true l _, fun _ => ⟨List.Pairwise.nil, fun _ hm => (nomatch hm)⟩⟩, h2, h3, h4⟩
section
variable {prog : Program} {w : World} {A : Around} {E : Value → Shared → Prop} {s : Shared} {K : Frag}
end
end Att
namespace L2
open PySem PySem.Spec PyProof.Rows
theorem vals_ints : ∀ {vs : List Value} {ns : List Int}, IntsAre vs ns → Vals (ns.map V.int) vs
  | _, _, .nil => .nil
  | _, _, .cons n t h => .cons ⟨t, rfl⟩ (vals_ints h)
def Only (H : Hp) : Prop := ∀ b, H b = none ∨ ∃ o xs, H b = some (.frz o (.lst xs))
theorem law_call {P : Program} {w : World} {K : PySem.W.Frag} {mg mb : Str → Option Value} {CX : CXT} {k : Nat} {fa a : Addr} {fd : FuncData} {x : Str} {sp : Sp} {s₁ : Shared} {vs : List Value} {ns : List Int}
    (KX : K.In s₁.heap) (hns : s₁.heap.Ns mainGlobals mg) (hb : s₁.heap.Ns builtinsNs mb) (hbb : ∀ x : Str, x ≠ "__name__" → mb x = bootBuiltins x) (hlim : s₁.heap.NoLimit) (hg : s₁.gens = #[])
    (ha : s₁.heap.get? a = some { cls := .type "list", data := .seq vs.toArray }) (hi : IntsAre vs ns) (hl : ns.length ≤ sizeLine) (hr : Room k callerA)
    (F : ∀ base : Heap, K.In base → base.Ns mainGlobals mg → FnOk P w K mg base CX k fa fd [x] sp) (hbind : ∀ (s : Shared) (u : Value), BindsTo s fd ⟨[u], []⟩ [(x, u)])
    (hsp : ∀ H : Hp, Only H → SqL K H a (ns.map V.int) → sp [.ref a] H (fun v _ => v = .bl true) fun _ _ _ => False)
    (hCX : ∀ H e s', CX [] H s₁ (fun _ _ _ => False) e s' → False) :
    codeAny (model P w) callerA (.call (.ref fa) ⟨[.ref a], []⟩) (fun r s' => r = .ok (.ret (.bool true)) ∧ OldK s₁.heap s'.heap ∧ s'.os = s₁.os ∧ AllBare s'.gens) s₁ := by
  have rv := vals_ints hi
  have lenV := hi.length
  -- from an abstract heap in which nothing but the script may be tracked
  have core : ∀ H : Hp, Only H → SqL K H a (ns.map V.int) → HOk P w H s₁.heap → (∀ b, H b ≠ none → b = a) → (H a ≠ none → K.lookup a = none) →
      codeAny (model P w) callerA (.call (.ref fa) ⟨[.ref a], []⟩) (fun r s' => r = .ok (.ret (.bool true)) ∧ OldK s₁.heap s'.heap ∧ s'.os = s₁.os ∧ AllBare s'.gens) s₁ := by
    intro H hO hS hok hA hK
    have base_of : ∀ {b : Addr} {o : Obj}, s₁.heap.get? b = some o → H b = none → (hidT s₁.heap H).get? b = some o := fun e n => hidT_get e n
    have noA : ∀ {b : Addr} {o : Obj} {es : Array DictEntry} {ep : Nat}, s₁.heap.get? b = some o → o.data = .dict es ep → H b = none := fun {b o es ep} e d => by
      cases q : H b with
      | none => rfl
      | some u =>
        have e' : b = a := hA b (by rw [q]; simp)
        subst e'
        rw [ha] at e; cases e
        have d' : Data.seq vs.toArray _ = Data.dict es ep := d
        cases d'
    have nsK : ∀ {b : Addr} {m : Str → Option Value}, s₁.heap.Ns b m → (hidT s₁.heap H).Ns b m := fun {b m} ⟨o, es, ep, e, d, r⟩ => ⟨o, es, ep, base_of e (noA e d), d, r⟩
    have hKb : K.In (hidT s₁.heap H) := fun b o e => base_of (KX b o e) (by
      cases q : H b with
      | none => rfl
      | some u =>
        have e' : b = a := hA b (by rw [q]; simp)
        subst e'
        rw [hK (by rw [q]; simp)] at e; cases e)
    have hM : Mod K mg (hidT s₁.heap H) := ⟨hKb, nsK hns, ⟨mb, nsK hb, hbb⟩, let ⟨mc, h1, h2⟩ := hlim; ⟨mc, nsK h1, h2⟩⟩
    have e0 : Env0 P w K mg (hidT s₁.heap H) callerA [] s₁ H := ⟨rfl, hM, fun b o e => of_hidT e, Nat.le_of_eq (hidT_size _ _), trivial, fun b hb => absurd (show b ∈ ([] : List Addr) from hb) (by simp), hok, .of_eq hg⟩
    refine codeAny_mono ((F _ hKb (nsK hns)).run callerA [] s₁ H ⟨[.ref a], []⟩ [.ref a] [.ref a] _ _ hr e0 (hbind s₁ (.ref a)) (.cons rfl .nil) (hsp H hO hS)) fun r s' h => ?_
    cases r with
    | error e => exact (hCX H e s' h).elim
    | ok fl =>
      cases fl with
      | next => exact False.elim h
      | brk => exact False.elim h
      | cont => exact False.elim h
      | ret u =>
        obtain ⟨v, H', os, bare, un, hok', r', q⟩ := h
        have q' : v = .bl true := q
        subst q'
        obtain rfl : u = Value.bool true := r'
        refine ⟨rfl, OldK.of_keep fun b o e => ?_, os, bare⟩
        cases q : H b with
        | none => exact un.keep b o e q (by intro z; exact absurd (show b ∈ ([] : List Addr) from z) (by simp)) (by simp)
        | some u =>
          rcases hO b with z | ⟨ob, xs, z⟩
          · rw [q] at z; cases z
          · have z2 := un.frzs b ob _ z
            obtain ⟨e1, _⟩ := hok b _ z
            obtain ⟨e2, _⟩ := hok' b _ z2
            rw [e] at e1; cases e1
            exact e2
  cases hk : K.lookup a with
  | some o =>
    -- the script is one of the module's own objects
    have e := KX a o hk
    rw [ha] at e
    cases e
    refine core (fun _ => none) (fun _ => .inl rfl) (.inr ⟨_, vs.toArray, _, hk, rfl, rfl, rfl, by rw [List.size_toArray, lenV]; exact hl, by simpa using rv⟩) (fun b u z => by have z' : (none : Option HO) = some u := z; cases z') (fun b z => absurd rfl z) fun z => absurd rfl z
  | none =>
    refine core (fun b => if b = a then some (.frz { cls := .type "list", data := .seq vs.toArray } (.lst (ns.map V.int))) else none) (fun b => ?_) (.inl (.inr ⟨{ cls := .type "list", data := .seq vs.toArray }, if_pos rfl⟩)) (fun b u z => ?_) (fun b z => ?_) fun _ => hk
    · by_cases hb : b = a
      · exact .inr ⟨_, _, if_pos hb⟩
      · exact .inl (if_neg hb)
    · by_cases hb : b = a
      · have z' := (if_pos hb).symm.trans z
        cases z'
        subst hb
        exact ⟨ha, by rw [List.length_map]; exact hl, vs, _, rv, ha⟩
      · have z' := (if_neg hb).symm.trans z
        cases z'
    · by_cases hb : b = a
      · exact hb
      · exact absurd (if_neg hb) z
end L2
namespace L2
open PySem PySem.Spec PyProof.Rows
theorem walk_of {l : PySem.W.OpenLaw} {n k : Nat} {q : Program} {loose : List Str} {XP : (Str → Option Value) → Heap → Prop} {YP : World → Heap → Prop} {d : DefRec} {K : Params → PySem.W.Frag} {CX : World → CXT} {sp : World → Sp} {x : Str}
    (hn : l.most = some n) (hn2 : n ≤ sizeLine) (hdf : d.params.defaults = []) (hr : Room k callerA)
    (hY : ∀ (w : World) (h : Heap), YP w h → (K w.params).In h)
    (F : ∀ (w : World) (mg : Str → Option Value) (fa : Addr) (h : Heap), (K w.params).In h → h.Ns mainGlobals mg → mg d.name = some (.ref fa) →
      ∃ fd : FuncData, (∀ (s : Shared) (u : Value), BindsTo s fd ⟨[u], []⟩ [(x, u)]) ∧
        ∀ base : Heap, (K w.params).In base → base.Ns mainGlobals mg → FnOk l.prog w (K w.params) mg base (CX w) k fa fd [x] (sp w))
    (hsp : ∀ (w : World) (H : Hp) (a : Addr) (ns : List Int), ns.length ≤ n → Only H → SqL (K w.params) H a (ns.map V.int) → sp w [.ref a] H (fun v _ => v = .bl true) fun _ _ _ => False)
    (hCX : ∀ (w : World) (H : Hp) (s : Shared) (e : Value) (s' : Shared), CX w [] H s (fun _ _ _ => False) e s' → False) :
    PySem.W.WalkO q loose XP YP l.row.toRowW d [] (fun f vs => PySem.call f vs) := by
  refine Att.attach_call hn hdf fun w s₀ s₁ mg mb fa o pm cd doc a vs ns G Y ho hd hcd hmg hobj hints hlen hg => ?_
  have KX := hY w _ Y
  obtain ⟨fd, hb, hF⟩ := F w mg fa _ KX G.T.g hmg
  exact law_call KX G.T.g G.T.b G.T.builtins G.T.nolimit hg hobj hints (Nat.le_trans hlen hn2) hr hF hb (fun H hO hS => hsp w H a ns hlen hO hS) fun H e s' => hCX w H s₁ e s'
end L2
/- THE LAST THEOREM (shape; LID, My.* are yours):
   My.Adr: a structure of the addresses that your layer names (classes, functions); My.Txt K t: a structure (Prop) of the equations over K;
   My.txt_mk : {K} {implicit addresses ..} (e1 : nsIn K mainGlobals "law" = some (some (.ref f))) (e2 : K.lookup f = some ⟨oc, od, .func (fnOf "law" "law" params body scope dV kV doc pm an cdv ct), sl⟩) (e3 : codeIn K cdv "law" = true) .. : ∃ t, My.Txt K t
set_option maxRecDepth 100000 in
set_option maxHeartbeats 0 in
theorem PySem.Challenge.cw_LID_holds : PySem.Challenge.rw_LID.Holds := by
  w_on; o_law; k_head; (case hw => w_witness2)
  k_fill
  refine L2.walk_of (l := PySem.Challenge.rw_LID) (n := 63) (k := 40) (x := "script") (CX := fun w => ..) (sp := fun _ => My.sp_law) rfl (by decide) rfl ⟨rfl, by decide, by decide⟩ (fun w h Y => PySem.W.kIn_of Y) ?F ?S ?C
  case F =>
    intro w mg fa h KX G hmg
    have T : ∃ t, My.Txt (L2.KOf KX) t := by
      dsimp only [L2.KOf]                          -- K must stand as «<heap const> w.params» for k_is
      refine' My.txt_mk ?e1 ?e2 ?e3 ..
      (case e1 => PySem.W.k_is)                    -- in the order: a name -> its address -> its object -> its parts
      (case e2 => PySem.W.k_is)
      ..
    obtain ⟨t, T⟩ := T
    have e0 := hmg.symm.trans (PySem.W.mg_of KX G T.law)
    cases e0                                       -- fa is the law's own address
    exact ⟨_, fun s u => .of_eq rfl, fun base kb nb => My.law_fn T kb nb⟩     -- if «.of_eq rfl» comes too early: refine' ⟨_, ?b, fun base kb nb => My.law_fn T kb nb⟩; exact fun s u => .of_eq rfl
  case S => exact fun w H a ns hl hO hS => ..
  case C => exact ..
(the tactic k_is has no namespace: write k_is) -/
namespace L2
open PySem PySem.Spec PyProof.Rows
def defArgs (s : Stmt) : Arguments := match s with
  | .FunctionDef _ a _ _ _ _ _ _ _ _ => a
  | _ => { posonlyargs := [], args := [], vararg := none, kwonlyargs := [], kw_defaults := [], kwarg := none, defaults := [] }
def defBody (s : Stmt) : List Stmt := match s with
  | .FunctionDef _ _ b _ _ _ _ _ _ _ => b
  | _ => []
def defScope (s : Stmt) : Scope := match s with
  | .FunctionDef _ _ _ _ _ _ sc _ _ _ => sc
  | _ => { kind := .function, names := [], isGenerator := false, isCoroutine := false }
abbrev CX0 : CXT := fun _ _ _ _ _ _ => False
abbrev E0 : XK := fun _ _ _ => False
theorem pass0 {X : Cx} : Passes CX0 X E0 := fun _ _ _ _ _ _ _ h => h.elim
structure Fun (K : PySem.W.Frag) (x qual : Str) (st : Stmt) (f : Addr) (fd : FuncData) : Prop where
  ex : ∃ (oc : Value) (od : Option Addr) (kV doc pm : Value) (an : Option Addr) (cdv ct : Value) (osl : Array (Option Value)),
    fd = PySem.W.fnOf x qual (defArgs st) (defBody st) (defScope st) .none kV doc pm an cdv ct ∧ K.lookup f = some ⟨oc, od, .func fd, osl⟩ ∧ PySem.W.codeIn K cdv qual = true
  kp : PySem.W.keepIn K (.ref f) = true
section
variable {P : Program} {w : World} {K : PySem.W.Frag} {mg : Str → Option Value} {base : Heap}
theorem Fun.ok {x qual : Str} {st : Stmt} {f : Addr} {fd : FuncData} {N ps : List Str} {k : Nat} {sp : Sp} (F : Fun K x qual st f fd) (S : FnScope N ps (defScope st)) (len : ∀ vs H Q E, sp vs H Q E → vs.length = ps.length)
    (hbody : ∀ (cdv : Value) (A : Around) (outer : List Env) (s : Shared) (H : Hp) (vs : List V) (Q : VK) (E : XK), Room k (A.deeper (envOfC qual (defScope st) s.heap.objs.size f cdv)) → sp vs H Q E →
      ∃ t, PSs (cxOf CX0 P w K mg base N qual (defScope st) f cdv A outer s H E).nox (defBody st) t ∧ t { nx := fun _ H' => Q .non H', rt := Q } (start N vs) H) : FnOk P w K mg base CX0 (k + 1) f fd ps sp := by
  obtain ⟨oc, od, kV, doc, pm, an, cdv, ct, osl, rfl, lk, hcd⟩ := F.ex
  refine fn_of lk hcd S len fun A outer s H vs Q E hr hsp => ?_
  obtain ⟨t, h, q⟩ := hbody cdv A outer s H vs Q E hr hsp
  exact ⟨t, h.nox, q⟩
theorem Fun.binds {x qual : Str} {st : Stmt} {f : Addr} {fd : FuncData} {ps : List Str} (F : Fun K x qual st f fd)
    (h : ∀ (kV doc pm : Value) (an : Option Addr) (cdv ct : Value) (us : List Value), us.length = ps.length → bindArgs (PySem.W.fnOf x qual (defArgs st) (defBody st) (defScope st) .none kV doc pm an cdv ct) ⟨us, []⟩ = pure (ps.zip us)) : Binds K fd ps [] := by
  obtain ⟨oc, od, kV, doc, pm, an, cdv, ct, osl, rfl, lk, hcd⟩ := F.ex
  exact .all (h kV doc pm an cdv ct)
theorem fun_mk {x qual : Str} {st : Stmt} {f : Addr} {oc : Value} {od an : Option Addr} {osl : Array (Option Value)} {kV doc pm cdv ct : Value} (l : K.lookup f = some ⟨oc, od, .func (PySem.W.fnOf x qual (defArgs st) (defBody st) (defScope st) .none kV doc pm an cdv ct), osl⟩)
    (c : PySem.W.codeIn K cdv qual = true) (k : PySem.W.keepIn K (.ref f) = true) : Fun K x qual st f (PySem.W.fnOf x qual (defArgs st) (defBody st) (defScope st) .none kV doc pm an cdv ct) := ⟨⟨oc, od, kV, doc, pm, an, cdv, ct, osl, rfl, l, c⟩, k⟩
end
section
variable {X : Cx}
theorem pv (i : Nat) {x : Str} {pos : Pos} (hN : X.N[i]? = some x := by rfl) (hv : Vis X.env.scope x := by first | exact Or.inl rfl | exact Or.inr (Or.inl rfl) | exact Or.inr (Or.inr rfl)) (hd : (x == ("__debug__" : Str)) = false := by decide)
    (hcd : (x == ("__classdict__" : Str)) = false := by decide) : PE X (.Name x pos) (tVar i) := pe_var hN hv hd hcd
end
theorem iteF {A B : Prop} (h : B) : if false = true then A else B := by
  rw [if_neg Bool.false_ne_true]
  exact h
theorem iteT {A B : Prop} (h : A) : if true = true then A else B := by
  rw [if_pos rfl]
  exact h
theorem ite2 {c A B : Prop} [Decidable c] (h1 : c → A) (h2 : ¬ c → B) : if c then A else B := by
  by_cases h : c
  · rw [if_pos h]
    exact h1 h
  · rw [if_neg h]
    exact h2 h
def Same (H H' : Hp) : Prop := ∀ b o, H b = some o → H' b = some o
theorem Same.refl (H : Hp) : Same H H := fun _ _ h => h
theorem Same.trans {H H1 H2 : Hp} (a : Same H H1) (b : Same H1 H2) : Same H H2 := fun c o h => b c o (a c o h)
theorem Same.free {H H' : Hp} (e : Same H H') {l : Addr} (h : H' l = Option.none) : H l = Option.none := by
  cases q : H l with
  | none => rfl
  | some o =>
    rw [e l o q] at h
    cases h
theorem Same.seq {K : PySem.W.Frag} {H H' : Hp} {a : Addr} {xs : List V} (e : Same H H') (h : SqL K H a xs) : SqL K H' a xs := by
  rcases h with (h | ⟨o, h⟩) | h
  · exact .inl (.inl (e _ _ h))
  · exact .inl (.inr ⟨o, e _ _ h⟩)
  · exact .inr h
end L2
namespace L2
open PySem PySem.Spec PyProof.Rows
theorem rel_look {env : Env} {y : Str} {k : NameKind} : ∀ {names : List (Str × NameKind)},
    (names.map fun (n, k) => if (k == NameKind.free && env.scope.kind == .function && env.kindOf n == some .cell) then (n, NameKind.cell) else (n, k)).lookup y = some k →
      ∃ k0, names.lookup y = some k0 ∧ (k = k0 ∨ (k0 = .free ∧ k = .cell))
  | [], h => by simp at h
  | (n, q) :: r, h => by
    have ih := @rel_look env y k r
    rw [List.map_cons] at h
    dsimp only at h
    cases hx : y == n with
    | true =>
      refine ⟨q, by simp [List.lookup_cons, hx], ?_⟩
      by_cases hc : (q == NameKind.free && env.scope.kind == .function && env.kindOf n == some .cell) = true
      · rw [if_pos hc] at h
        simp only [List.lookup_cons, hx] at h
        cases h
        have hq : (q == NameKind.free) = true := by
          cases e : q == NameKind.free with
          | true => rfl
          | false => rw [e] at hc; simp at hc
        exact .inr ⟨by simpa using hq, rfl⟩
      · rw [if_neg hc] at h
        simp only [List.lookup_cons, hx] at h
        cases h
        exact .inl rfl
    | false =>
      have h2 : (r.map fun (n, k) => if (k == NameKind.free && env.scope.kind == .function && env.kindOf n == some .cell) then (n, NameKind.cell) else (n, k)).lookup y = some k := by
        by_cases hc : (q == NameKind.free && env.scope.kind == .function && env.kindOf n == some .cell) = true
        · rw [if_pos hc] at h
          simpa only [List.lookup_cons, hx] using h
        · rw [if_neg hc] at h
          simpa only [List.lookup_cons, hx] using h
      obtain ⟨k0, e, r'⟩ := ih h2
      exact ⟨k0, by simpa only [List.lookup_cons, hx] using e, r'⟩
theorem clos_go {env : Env} : ∀ (names : List (Str × NameKind)) (acc : List (Str × Addr)), (∀ y ∈ names, y.2 = .free → ∃ c, env.cells.lookup y.1 = some c) → (∀ y c, acc.lookup y = some c → env.cells.lookup y = some c) →
    ∃ cl, (forIn names acc fun (x : Str × NameKind) (r : List (Str × Addr)) => (if (x.2 == NameKind.free) = true then (do let c ← cellOf env x.1; pure (ForInStep.yield ((x.1, c) :: r))) else pure (ForInStep.yield r) : Sem (ForInStep (List (Str × Addr))))) = (pure cl : Sem (List (Str × Addr))) ∧
      (∀ y c, cl.lookup y = some c → env.cells.lookup y = some c) ∧ (∀ y ∈ names, y.2 = .free → ∃ c, cl.lookup y.1 = some c) ∧ ∀ y c, acc.lookup y = some c → ∃ c', cl.lookup y = some c'
  | [], acc, _, ha => ⟨acc, rfl, ha, (fun y hy => absurd hy (by simp)), fun y c h => ⟨c, h⟩⟩
  | (n, k) :: r, acc, hn, ha => by
    by_cases hk : k = NameKind.free
    · obtain ⟨c, hc⟩ := hn (n, k) List.mem_cons_self hk
      have hacc : ∀ y d, ((n, c) :: acc).lookup y = some d → env.cells.lookup y = some d := fun y d e => by
        cases hx : y == n with
        | true =>
          simp only [List.lookup_cons, hx] at e
          cases e
          have : y = n := by simpa using hx
          rw [this]
          exact hc
        | false =>
          simp only [List.lookup_cons, hx] at e
          exact ha y d e
      obtain ⟨cl, e, h1, h2, h3⟩ := clos_go r ((n, c) :: acc) (fun y hy => hn y (List.mem_cons_of_mem _ hy)) hacc
      have hn3 : ∃ c', cl.lookup n = some c' := h3 n c (by simp)
      refine ⟨cl, ?_, h1, fun y hy hf => ?_, fun y d hd => ?_⟩
      · rw [List.forIn_cons]
        dsimp only
        rw [if_pos (by simp [hk])]
        have ec : cellOf env n = pure c := by
          unfold cellOf
          rw [hc]
        rw [ec]
        simp only [pure_bind]
        exact e
      · rcases List.mem_cons.mp hy with z | z
        · subst z
          exact hn3
        · exact h2 y z hf
      · cases hx : y == n with
        | true =>
          have : y = n := by simpa using hx
          rw [this]
          exact hn3
        | false => exact h3 y d (by simpa only [List.lookup_cons, hx] using hd)
    · obtain ⟨cl, e, h1, h2, h3⟩ := clos_go r acc (fun y hy => hn y (List.mem_cons_of_mem _ hy)) ha
      refine ⟨cl, ?_, h1, fun y hy hf => ?_, h3⟩
      · rw [List.forIn_cons]
        dsimp only
        rw [if_neg (by simpa using hk), pure_bind]
        exact e
      · rcases List.mem_cons.mp hy with z | z
        · subst z
          exact absurd hf hk
        · exact h2 y z hf
theorem clos_ok {env : Env} {scope : Scope} (hn : ∀ y ∈ scope.names, y.2 = .free → ∃ c, env.cells.lookup y.1 = some c) :
    ∃ cl, closureFor scope env = pure cl ∧ (∀ y c, cl.lookup y = some c → env.cells.lookup y = some c) ∧ ∀ y ∈ scope.names, y.2 = .free → ∃ c, cl.lookup y.1 = some c := by
  obtain ⟨cl, e, h1, h2, _⟩ := clos_go (env := env) scope.names [] hn (fun y c h => by simp at h)
  refine ⟨cl, ?_, h1, h2⟩
  unfold closureFor
  dsimp only
  have e2 : ∀ (f g : Str × NameKind → List (Str × Addr) → Sem (ForInStep (List (Str × Addr)))), (∀ x r, f x r = g x r) → (forIn scope.names [] f : Sem (List (Str × Addr))) = forIn scope.names [] g := fun f g h => by
    have : f = g := by funext x r; exact h x r
    rw [this]
  rw [e2 _ _ (fun x r => ?_), e]
  · rfl
  · obtain ⟨n, k⟩ := x
    dsimp only
theorem comp_loop_go {prog : Program} {w : World} {A : Around} {R : Result → Shared → Prop} {s : Shared} {elt target iter : Expr} {ifs : List Expr} {scope : Scope} {pos : Pos} {it acc : Value} {env : Env} (J : Nat → Shared → Prop)
    (turn : ∀ n s, J n s → wpAny (model prog w) A (pyNext it) (fun r s1 => match r with
      | none => R (.ok .next) s1
      | some v => wpAny (model prog w) A (letOwnedTupleGo target it v) (fun _ s1' => wpAny (model prog w) A (assign target env v) (fun _ s2 =>
          wpAny (model prog w) A (forIn ifs true fun c r => if r = true then do let ok ← isTrue c env (eval c env); pure (ForInStep.yield ok) else pure (ForInStep.yield r)) (fun ok s3 =>
            if ok = true then wpAny (model prog w) A (eval elt env) (fun x s4 =>
              wpAny (model prog w) A (call (.builtin "list.append") [acc, x]) (fun _ s5 => ∃ m, m < n ∧ J m s5) (fun _ _ => False) s4) (fun _ _ => False) s3
            else ∃ m, m < n ∧ J m s3) (fun _ _ => False) s2) (fun _ _ => False) s1') (fun _ _ => False) s1) (fun _ _ => False) s)
    (n : Nat) (h : J n s) : codeAny (model prog w) A (.compLoop (.ListComp elt [⟨target, iter, ifs, 0⟩] scope pos) 0 it acc env) R s := by
  have no : ∀ {E : Value → Shared → Prop} (e : Value) (s : Shared), (fun (_ : Value) (_ : Shared) => False) e s → E e s := fun _ _ f => f.elim
  refine codeAny_loop rfl J (fun n s hJ => ?_) n h
  show wpAny _ A ((compTurn (.ListComp elt [⟨target, iter, ifs, 0⟩] scope pos) 0 it acc env).onRaise _) _ _ s
  refine wpAny_noted ?_
  rw [compTurn_list]
  refine wpAny_bind (wpAny_standAt (wpAny_bind (wpAny_mono (turn n s hJ) (fun r s1 h1 => ?_) no)))
  cases r with
  | none => exact wpAny_pure h1
  | some v =>
    refine wpAny_bind (wpAny_mono h1 (fun _ s1' h1' => wpAny_bind (wpAny_mono h1' (fun _ s2 h2 => wpAny_bind (wpAny_mono h2 (fun ok s3 h3 => ?_) no)) no)) no)
    cases ok with
    | false => exact wpAny_pure ⟨rfl, h3⟩
    | true => exact wpAny_bind (wpAny_bind (wpAny_mono h3 (fun x s4 h4 => wpAny_bind (wpAny_mono h4 (fun _ s5 h5 => wpAny_pure (wpAny_pure ⟨rfl, h5⟩)) no)) no))
abbrev Cx.comp (X : Cx) (x : Str) (scope : Scope) (cl : List (Str × Addr)) (C : Addr) (fp : List Addr) (s : Shared) (H : Hp) : Cx :=
  { X with N := x :: X.N, s₀ := s, H₀ := H, env := compEnvC scope cl C X.env, outer := X.stack, ex := fp, fn := fun _ => false, pn := [], xe := fun _ _ => False }
def capOk (scope : Scope) (env : Env) (y : Str) : Bool := match scope.names.lookup y with
  | none => true
  | some .free => env.kindOf y == some .cell || env.kindOf y == some .free
  | some _ => false
structure CompSc (X : Cx) (x : Str) (scope : Scope) : Prop where
  kind : scope.kind = .function
  cell : ∀ y ∈ scope.names, y.2 ≠ .cell
  names : ∀ y ∈ scope.names, y.2 = .local → scope.names.lookup y.1 = some .local
  hx : scope.names.lookup x = some .local
  free : ∀ y ∈ scope.names, y.2 = .free → X.env.kindOf y.1 = some .cell ∨ X.env.kindOf y.1 = some .free
  cap : ∀ y ∈ X.N, capOk scope X.env y = true
  nd : (x :: X.N).Nodup
theorem free_mem {scope : Scope} {y : Str} (h : scope.names.lookup y = some .free) : (y, NameKind.free) ∈ scope.names := PySem.mem_of_lookup h
theorem comp_inv {X : Cx} {x : Str} {scope : Scope} {cl : List (Str × Addr)} {fp : List Addr} {pins : List (Addr × Obj)} {σ : St} {H : Hp} {s : Shared} {h' : Heap} {tk : Nat} {m : Str → Option Value} (S : CompSc X x scope) (I : Inv X pins σ H s)
    (hns : h'.Ns s.heap.objs.size m) (hk : ∀ b o, s.heap.get? b = some o → h'.get? b = some o) (hf : ∀ b ∈ fp, FpOk X pins H b) (ho : ∀ b ∈ fp, ∃ o, s.heap.get? b = some o)
    (hsub : ∀ y c, cl.lookup y = some c → X.env.cells.lookup y = some c) (hall : ∀ y ∈ scope.names, y.2 = .free → ∃ c, cl.lookup y.1 = some c) :
    Inv (X.comp x scope cl s.heap.objs.size fp s H) (X.pn ++ pins) (none :: σ) H { s with heap := h', toks := tk } := by
  refine ⟨⟨I.ok.mod, S.kind, I.ok.glob, I.ok.blt, Nat.le_refl _, fun y z c h1 h2 => I.ok.inj y z c (hsub y c h1) (hsub z c h2), fun y hy => ?_, fun y c hfn => absurd hfn Bool.false_ne_true, I.ok.hd, I.ok.frames, .inl rfl, fun b hb => ⟨?_, fun y c e => (hf b hb).2.2.2.2.1 y c (hsub y c e)⟩,
    I.bs, Nat.le_trans I.ok.bsz I.sz, fun b o e hb => ?_, fun b hb hs => ?_, I.stack, I.stkFree⟩, rfl, I.bare, Un.kept hk, ⟨m, hns, fun i y v e1 e2 e3 => ?_⟩, fun y c e => ?_, I.fresh, fun y c e => I.freeC y c (hsub y c e), fun p hp => ?_, I.hok.kept hk, ?_⟩
  · have hy' : ∃ k, (k = NameKind.cell ∨ k = NameKind.free) ∧ (relabel scope X.env).names.lookup y = some k := by
      rcases hy with z | z
      · exact ⟨_, .inl rfl, z⟩
      · exact ⟨_, .inr rfl, z⟩
    obtain ⟨k, hk', e⟩ := hy'
    obtain ⟨k0, e0, r⟩ := rel_look e
    have kf : k0 = .free := by
      rcases r with r | r
      · subst r
        rcases hk' with z | z
        · subst z
          exact absurd rfl (S.cell _ (PySem.mem_of_lookup e0))
        · exact z
      · exact r.1
    subst kf
    exact hall (y, .free) (free_mem e0) rfl
  · obtain ⟨o, e⟩ := ho b hb
    exact Nat.ne_of_lt (Heap.lt_size e)
  · rcases (hf b hb).2.2.2.1 with z | z
    · exact I.ok.noex b o e z
    · exact absurd (Nat.lt_of_lt_of_le (Heap.lt_size e) (Nat.le_trans I.ok.bsz z)) (Nat.lt_irrefl _)
  · rcases List.mem_cons.mp (I.stkSub b hs) with z | z
    · exact (hf b hb).2.1 z
    · exact (hf b hb).2.2.1 z
  · cases i with
    | zero => simp at e2
    | succ i =>
      have e1' : X.N[i]? = some y := by simpa using e1
      have e2' : σ[i]? = some (some v) := by simpa using e2
      have hc := S.cap y (List.mem_of_getElem? e1')
      have hvis : ∃ k, (relabel scope X.env).names.lookup y = some k := by
        rcases e3 with z | z | z
        · exact ⟨_, z⟩
        · exact ⟨_, z⟩
        · exact ⟨_, z⟩
      obtain ⟨k, ek⟩ := hvis
      obtain ⟨k0, e0, r⟩ := rel_look ek
      unfold capOk at hc
      rw [e0] at hc
      have kf : k0 = .free := by cases k0 <;> simp_all
      subst kf
      have hkk : X.env.kindOf y = some .cell ∨ X.env.kindOf y = some .free := by simpa using hc
      obtain ⟨m0, hn0, hl0⟩ := I.loc
      obtain ⟨u, ru, l⟩ := hl0 i y v e1' e2' (.inr hkk)
      refine ⟨u, ru, .inr ?_⟩
      obtain ⟨c', hc'⟩ := hall (y, .free) (free_mem e0) rfl
      rcases l with ⟨z, _⟩ | ⟨_, c, ec, ⟨o, ho', hd'⟩⟩
      · rcases hkk with q | q <;> rw [z] at q <;> cases q
      · have e4 := hsub y c' hc'
        rw [ec] at e4
        have e5 : c = c' := Option.some.inj e4
        subst e5
        refine ⟨?_, c, hc', o, hk _ _ ho', hd'⟩
        rcases r with r | r
        · subst r
          exact .inr ek
        · obtain ⟨_, r⟩ := r
          subst r
          exact .inl ek
  · obtain ⟨v, o, ho', hd'⟩ := I.cell y c (hsub y c e)
    exact ⟨v, o, hk _ _ ho', hd'⟩
  · have hp' : p ∈ X.pn ++ pins := by simpa using hp
    obtain ⟨e, n, ne, nf, d⟩ := I.pin p hp'
    refine ⟨hk _ _ e, n, Nat.ne_of_lt (Heap.lt_size e), fun z => ?_, d⟩
    rcases List.mem_cons.mp (I.stkSub p.1 z) with q | q
    · exact ne q
    · exact nf q
  · show σ.length + 1 = X.N.length + 1
    rw [I.len]
def PTs (X : Cx) (ifs : List Expr) (t : TT) : Prop :=
  ∀ (pins : List (Addr × Obj)) (s : Shared) (σ : St) (H : Hp) (Q : Bool → Hp → Prop), Inv X pins σ H s → t σ H Q →
    wpAny (model X.prog X.w) X.A (forIn ifs true fun c r => if r = true then do let ok ← isTrue c X.env (eval c X.env); pure (ForInStep.yield ok) else pure (ForInStep.yield r)) (TP X pins σ Q) X.xe s
def ttAll : TT := fun _ H Q => Q true H
theorem pts_nil {X : Cx} : PTs X [] ttAll := fun pins s σ H Q I h => by
  rw [List.forIn_nil]
  exact wpAny_pure ⟨H, I, h⟩
theorem pts_one {X : Cx} {c : Expr} {t : TT} (hc : PT X c t) : PTs X [c] t := fun pins s σ H Q I h => by
  rw [List.forIn_cons, if_pos rfl]
  refine wpAny_bind (wpAny_bind (thn (hc pins s σ H Q I h) fun ok s1 q => wpAny_pure ?_))
  try dsimp only
  rw [List.forIn_nil]
  exact wpAny_pure q
def CompGo (J : It) (H1 : Hp) (σ : St) (tt : TT) (te : TE) (Q : VK) : Prop := ∀ D, H1 D = none → ∃ W : Nat → Nat → Hp → Prop, (∃ m, W 0 m (upd H1 D (.lst []))) ∧ ∀ i m H, W i m H →
  (J.stop i H ∧ Q (.ref D) H) ∨ (J.go i H ∧ ∀ x H', J.yld i H x H' → tt (some x :: σ) H' fun b H2 => if b = true then te (some x :: σ) H2 fun y H3 => ∃ ys, H3 D = some (.lst ys) ∧ ys.length < sizeLine ∧ ∃ m', m' < m ∧ W (i + 1) m' (upd H3 D (.lst (ys ++ [y])))
    else ∃ m', m' < m ∧ W (i + 1) m' H2)
def tComp (wi : TI) (tt : TT) (te : TE) : TE := fun σ H Q => wi σ H fun J H1 => CompGo J H1 σ tt te Q
section
variable {X : Cx} {x : Str} {px pos : Pos} {elt iter : Expr} {ifs : List Expr} {scope : Scope} {wi : TI} {tt : TT} {te : TE}
theorem comp_core {pins : List (Addr × Obj)} {σ : St} {H2 : Hp} {s2 : Shared} {it : Addr} {fp : List Addr} {tn : Nat → Heap → Prop} {J : It} {Q : VK} {cl : List (Str × Addr)} {E : Value → Shared → Prop} {RR : Value → Addr → Result → Shared → Prop}
    (S : CompSc X x scope) (hcal : X.calm = true) (hclos : (∀ y c, cl.lookup y = some c → X.env.cells.lookup y = some c) ∧ ∀ y ∈ scope.names, y.2 = .free → ∃ c, cl.lookup y.1 = some c)
    (ht : ∀ cl C fp s H, PTs (X.comp x scope cl C fp s H) ifs tt) (he : ∀ cl C fp s H, PE (X.comp x scope cl C fp s H) elt te)
    (I2 : Inv X pins σ H2 s2) (T : Turn X.prog X.w X.K (.Name x px) J fp it tn) (st2 : tn 0 s2.heap) (f2 : ∀ b ∈ fp, FpOk X pins H2 b)
    (q : CompGo J H2 σ tt te Q)
    (hRR : ∀ D C s' H' m', Inv X pins σ H' s' → s'.heap.Ns C m' → FpOk X pins H' C → Q (.ref D) H' → RR (.ref D) C (.ok .next) s') :
    wpAny (model X.prog X.w) X.A (newList []) (fun acc s3 => wpAny (model X.prog X.w) X.A (newFunctionEnv scope X.env.globals cl [] X.env.qual none .none (some X.env)) (fun cenv s4 =>
      codeAny (model X.prog X.w) X.A (.compStart (.ListComp elt [⟨.Name x px, iter, ifs, 0⟩] scope pos) 0 (.ref it) acc { cenv with scope := relabel scope X.env }) (RR acc cenv.locals) s4) E s3) E s2 := by
  obtain ⟨hsub, hall⟩ := hclos
  refine wpAny_newObj_type (wpAny_newFunctionEnv S.cell (by intro y hy; simp at hy) (fun h1 hns hsb => ?_) S.kind)
  have I3 : Inv X pins σ (upd H2 s2.heap.objs.size (.lst [])) { s2 with heap := s2.heap.push { cls := .type "list", data := .seq ([] : List Value).toArray } } := I2.lnew (t' := s2.toks) .nil (by simp)
  have hD : H2 s2.heap.objs.size = none := I2.fresh
  obtain ⟨W, ⟨m0, w0⟩, turn⟩ := q _ hD
  generalize hs3 : ({ s2 with heap := s2.heap.push { cls := .type "list", data := .seq ([] : List Value).toArray } } : Shared) = s3 at I3
  have hs3' : ({ s2 with heap := s2.heap.push { cls := .type "list", dict := none, data := .seq ([] : List Value).toArray } } : Shared) = s3 := hs3
  dsimp only at hns hsb ⊢
  generalize hDD : s2.heap.objs.size = D at *
  have eh : s2.heap.push { cls := .type "list", dict := none, data := .seq ([] : List Value).toArray } = s3.heap := by rw [← hs3]
  rw [eh] at hns hsb
  have keep : ∀ b o, s3.heap.get? b = some o → h1.get? b = some o := fun b o e => hsb.extBut b o (Nat.ne_of_lt (Heap.lt_size e)) (Heap.get?_push_of_some _ e)
  have objs : ∀ b ∈ fp, ∃ o, s3.heap.get? b = some o := fun b hb => by
    obtain ⟨o, e, _⟩ := T.obj _ _ st2 b hb
    rw [← eh]
    exact ⟨o, Heap.get?_push_of_some _ e⟩
  have f3 : ∀ b ∈ fp, FpOk X pins (upd H2 D (.lst [])) b := fun b hb => by
    obtain ⟨o, e, _⟩ := T.obj _ _ st2 b hb
    have ne : b ≠ D := by rw [← hDD]; exact Nat.ne_of_lt (Heap.lt_size e)
    exact ⟨by rw [upd_ne ne]; exact (f2 b hb).1, (f2 b hb).2⟩
  have I4 : Inv (X.comp x scope cl s3.heap.objs.size fp s3 (upd H2 D (.lst []))) (X.pn ++ pins) (none :: σ) (upd H2 D (.lst [])) { s3 with heap := h1, toks := s3.toks + ([] : List (Str × Value)).length } := comp_inv S I3 hns keep f3 objs hsub hall
  have st4 : tn 0 h1 := T.keep _ _ _ st2 fun b hb o e => keep b o (by rw [← eh]; exact Heap.get?_push_of_some _ e)
  -- what stays true of the iterator's objects
  have stat : ∀ {H' : Hp}, (∀ b ∈ fp, H' b = none) → ∀ b ∈ fp, FpOk (X.comp x scope cl s3.heap.objs.size fp s3 (upd H2 D (.lst []))) (X.pn ++ pins) H' b := fun hn b hb => by
    refine ⟨hn b hb, (I4.ok.exf b hb).1, I4.ok.exfs b hb, .inl hb, (I4.ok.exf b hb).2, fun p hp => (f3 b hb).2.2.2.2.2 p (by simpa using hp)⟩
  have loop : codeAny (model X.prog X.w) X.A (.compLoop (.ListComp elt [⟨.Name x px, iter, ifs, 0⟩] scope pos) 0 (.ref it) (.ref D) (compEnvC scope cl s3.heap.objs.size X.env)) (RR (.ref D) s3.heap.objs.size) { s3 with heap := h1, toks := s3.toks + ([] : List (Str × Value)).length } := by
    refine comp_loop_go (fun n s' => ∃ i o H', Inv (X.comp x scope cl s3.heap.objs.size fp s3 (upd H2 D (.lst []))) (X.pn ++ pins) (o :: σ) H' s' ∧ tn i s'.heap ∧ (∀ b ∈ fp, H' b = none) ∧ W i n H') ?_ m0
      ⟨0, none, _, I4, st4, fun b hb => (f3 b hb).1, w0⟩
    rintro n s5 ⟨i, o, H5, I5, st5, fr5, w5⟩
    rcases turn i n H5 w5 with ⟨stop, qn⟩ | ⟨go, step⟩
    · refine thn (T.done (X.comp x scope cl s3.heap.objs.size fp s3 (upd H2 D (.lst []))) rfl rfl rfl hcal i _ s5 _ H5 _ I5 (stat fr5) st5 stop) fun r s6 ⟨hr, I6⟩ => ?_
      subst hr
      obtain ⟨m6, hn6, _⟩ := I6.loc
      have I7 : Inv X pins σ H5 s6 := I3.call' (ch := fp) I6.os I6.base I6.hok I6.bare fun b hb => ⟨(f3 b hb).2.2.2.1, (f3 b hb).2.1, (f3 b hb).2.2.2.2.1, (f3 b hb).2.2.2.2.2⟩
      exact hRR D s3.heap.objs.size s6 H5 m6 I7 hn6 (I3.fpOk (Nat.le_refl _) I6.free) qn
    · refine thn (T.item (X.comp x scope cl s3.heap.objs.size fp s3 (upd H2 D (.lst []))) rfl rfl rfl hcal i _ s5 _ H5 _ I5 (stat fr5) st5 go) fun r s6 ⟨u, hr, h6⟩ => ?_
      subst hr
      refine thn h6 fun _ s7 ⟨y, H7, I7, r7, y7, st7, fr7⟩ => ?_
      have I7' := I7.pinned (stat fr7) (T.obj _ _ st7)
      have hxl : (relabel scope X.env).names.lookup x = some .local := lookup_relabel_local S.hx
      refine thn (pg_name (X := X.comp x scope cl s3.heap.objs.size fp s3 (upd H2 D (.lst []))) (i := 0) S.nd rfl (.inl hxl) (.inr hxl) _ s7 (o :: σ) H7 y u (fun σ' H' => σ' = some y :: σ ∧ H' = H7) I7' r7 ⟨rfl, rfl⟩) fun _ s8 ⟨σ8, H8, I8, e8, e8'⟩ => ?_
      subst e8 e8'
      refine thn (ht _ _ _ _ _ _ s8 _ H8 _ I8 (step y H8 y7)) fun ok s9 ⟨H9, I9, q9⟩ => ?_
      have back : ∀ {H' : Hp} {s' : Shared} {m' : Nat}, Inv (X.comp x scope cl s3.heap.objs.size fp s3 (upd H2 D (.lst []))) (X.pn ++ pins ++ pinsAt fp s7.heap) (some y :: σ) H' s' → m' < n → W (i + 1) m' H' →
          ∃ m, m < n ∧ ∃ i o H', Inv (X.comp x scope cl s3.heap.objs.size fp s3 (upd H2 D (.lst []))) (X.pn ++ pins) (o :: σ) H' s' ∧ tn i s'.heap ∧ (∀ b ∈ fp, H' b = none) ∧ W i m H' := fun {H' s' m'} I' hm w' => by
        have pin : ∀ b o, b ∈ fp → s7.heap.get? b = some o → s'.heap.get? b = some o ∧ H' b = none := fun b o hb e => by
          have z := I'.pin (b, o) (List.mem_append_right _ (List.mem_append_right _ (mem_pinsAt hb e)))
          exact ⟨z.1, z.2.1⟩
        refine ⟨m', hm, i + 1, some y, H', I'.unpinned, T.keep _ _ _ st7 fun b hb o e => (pin b o hb e).1, fun b hb => ?_, w'⟩
        obtain ⟨o', e, _⟩ := T.obj _ _ st7 b hb
        exact (pin b o' hb e).2
      cases ok with
      | false =>
        rw [if_neg Bool.false_ne_true] at q9 ⊢
        obtain ⟨m', hm, w'⟩ := q9
        exact back I9 hm w'
      | true =>
        rw [if_pos rfl] at q9 ⊢
        refine thn (he _ _ _ _ _ _ s9 _ H9 _ I9 q9) fun v s10 ⟨z, H10, I10, r10, q10⟩ => ?_
        obtain ⟨ys, e10, l10, m', hm, w'⟩ := q10
        refine thn (mt_append _ s10 _ H10 (.ref D) [z] (.ref D) [v] (fun _ H' => H' = upd H10 D (.lst (ys ++ [z]))) I10 rfl (.cons r10 .nil) ⟨D, ys, z, rfl, rfl, e10, l10, rfl⟩) fun _ s11 ⟨_, H11, I11, _, e11⟩ => ?_
        subst e11
        exact back I11 hm w'
  exact codeAny_compStart_list loop (T.self _ 0 _ _ _ st4 loop)
theorem pe_comp (S : CompSc X x scope) (hcal : X.calm = true) (hi : PI X (.Name x px) iter wi) (ht : ∀ cl C fp s H, PTs (X.comp x scope cl C fp s H) ifs tt) (he : ∀ cl C fp s H, PE (X.comp x scope cl C fp s H) elt te)
    (hs : ∀ x, foldedSetIterable iter X.env x = pure x := by intro _; rfl) : PE X (.ListComp elt [⟨.Name x px, iter, ifs, 0⟩] scope pos) (tComp wi tt te) := by
  intro pins s σ H Q I h
  obtain ⟨cl, hcl, hc⟩ := clos_ok (env := X.env) (scope := scope) fun y hy hf => I.ok.has y.1 (S.free y hy hf)
  rw [eval_ListComp]
  refine wpAny_comprehension_free (use := none) rfl hs hcl S.kind S.names (thn (hi pins s σ H _ I h) fun xv s1 h1 => thn h1 fun itv s2 h2 => ?_)
  obtain ⟨it, fp, tn, J, H2, e, I2, T, st2, f2, q⟩ := h2
  subst e
  refine comp_core (RR := fun acc C => compPost (model X.prog X.w) X.A X.xe none (EP X pins σ Q) acc C) S hcal hc ht he I2 T st2 f2 q ?_
  intro D C s' H' m' I' hn F' hq
  exact ⟨m', hn, fun h' sb => ⟨.ref D, H', I'.turned (t' := s'.toks) (fun b o hb e => (sb.2 b hb).trans e) F'.1 F'.2.1 F'.2.2.2.1 F'.2.2.2.2.1 F'.2.2.2.2.2, rfl, hq⟩⟩
theorem ps_setComp {i : Nat} {y : Str} {py spos : Pos} (S : CompSc X x scope) (hcal : X.calm = true) (hN : X.N.Nodup) (hiN : X.N[i]? = some y) (hy : Loc X.env.scope y) (hi : PI X (.Name x px) iter wi) (ht : ∀ cl C fp s H, PTs (X.comp x scope cl C fp s H) ifs tt)
    (he : ∀ cl C fp s H, PE (X.comp x scope cl C fp s H) elt te) (hsw : swapsWith (.ListComp elt [⟨.Name x px, iter, ifs, 0⟩] scope pos) (some (.Name y py)) spos.line X.env = pure true)
    (hs : ∀ x, foldedSetIterable iter X.env x = pure x := by intro _; rfl) (hf : X.fn y = true ∨ X.env.scope.names.lookup y = some .local := by first | exact .inl rfl | exact .inr rfl | assumption) :
    PS X (.Assign [.Name y py] (.ListComp elt [⟨.Name x px, iter, ifs, 0⟩] scope pos) spos) (tAsg (tComp wi tt te) (gName i)) := by
  intro pins s σ H D0 I h
  obtain ⟨cl, hcl, hc⟩ := clos_ok (env := X.env) (scope := scope) fun y hy hf => I.ok.has y.1 (S.free y hy hf)
  rw [exec_Assign_Name_used _ _ _ _ hsw]
  refine wpAny_bind (wpAny_standAt (wpAny_bind ?_))
  show wpAny _ _ (do let _ ← comprehension (.ListComp elt [⟨.Name x px, iter, ifs, 0⟩] scope pos) scope X.env _ (newList []) false (eval iter X.env) (some (assign (.Name y py) X.env))) _ _ s
  refine wpAny_bind (thn (wpAny_comprehension_free (use := some (assign (.Name y py) X.env)) (Q := fun _ s' => SP X pins D0 .next s') rfl hs hcl S.kind S.names (thn (hi pins s σ H _ I h) fun xv s1 h1 => thn h1 fun itv s2 h2 => ?_)) fun _ s' hq => wpAny_pure (wpAny_pure hq))
  obtain ⟨it, fp, tn, J, H2, e, I2, T, st2, f2, q⟩ := h2
  subst e
  refine comp_core (Q := fun v H => D0.nx (σ.set i (some v)) H) (RR := fun acc C => compPost (model X.prog X.w) X.A X.xe (some (assign (.Name y py) X.env)) (fun _ s' => SP X pins D0 .next s') acc C) S hcal hc ht he I2 T st2 f2 q ?_
  intro D C s' H' m' I' hn F' hq
  show wpAny _ _ (assign (.Name y py) X.env (.ref D)) _ _ s'
  refine wpAny_assign_Name (store_ok2 (v := .ref D) I' hN hiN hy rfl (fun s'' I'' ch => ?_) hf)
  obtain ⟨a, sb, ha⟩ := ch
  have ne : C ≠ a := by
    rcases ha with z | z
    · rw [z]; exact F'.2.1
    · exact Ne.symm (F'.2.2.2.2.1 y a z)
  refine ⟨m', hn.sameBut sb ne, fun h' sb' => ⟨_, H', I''.turned (t' := s''.toks) (fun b o hb e => (sb'.2 b hb).trans e) F'.1 F'.2.1 F'.2.2.2.1 F'.2.2.2.2.1 F'.2.2.2.2.2, hq⟩⟩
end
end L2
namespace L2
open PySem PySem.Spec PyProof.Rows
open AutoSeq1 (wpAny_loadPart')
section
variable {prog : Program} {w : World} {A : Around} {E : Value → Shared → Prop} {s : Shared}
end
section
variable {prog : Program} {w : World} {A : Around} {E : Value → Shared → Prop} {s : Shared}
theorem en_item {e it : Addr} {fp : List Addr} {n i : Nat} {k : Int} {P : Nat → Value → Prop} {St : Nat → Heap → Prop} {old : Value} {Q : Value → Shared → Prop}
    (D : Draws prog w A it fp n P St) (he : IsEnum s.heap e it k old) (hst : St i s.heap) (hlt : i < n) (hne : e ≠ it) (hef : e ∉ fp)
    (hQ : ∀ x h' tk, P i x → IsEnumOut h' e it (k + 1) x s.heap.objs.size → St (i + 1) h' → h'.get? s.heap.objs.size = some { cls := .type "tuple", data := .seq #[.int k tk, x] } →
      (∀ b o, b ≠ e → b ≠ it → s.heap.get? b = some o → h'.get? b = some o) → Q (.ref s.heap.objs.size) { s with heap := h', toks := tk + 1 }) :
    wpAny (model prog w) A (Builtin.«enumerate.__next__» ⟨[.ref e], []⟩) (fun fin s' => ∃ v, fin = .done (.ret v) ∧ Q v s') E s := by
  obtain ⟨hp, g, d, t0, os⟩ := s
  (show wpAny _ _ (field (.ref e) 2 >>= _) _ _ _); refine wpAny_bind (wpAny_field he rfl (x := .ref it) rfl ?_)
  refine wpAny_bind (D.item i _ _ _ hlt hst fun x g1 tk px c1 b1 => ?_)
  have b1 : Heap.SameBut it hp g1 := b1
  have e1 : IsEnum g1 e it k old := (b1.2 e hne).trans he
  (show wpAny _ _ (field (.ref e) 3 >>= _) _ _ ⟨g1, g, d, tk, os⟩); refine wpAny_bind (wpAny_field e1 rfl (x := rawInt k) rfl ?_)
  (show wpAny _ _ (field (.ref e) 4 >>= _) _ _ ⟨g1, g, d, tk, os⟩); refine wpAny_bind (wpAny_field e1 rfl (x := .none) rfl ?_)
  (show wpAny _ _ (mkInt k >>= _) _ _ ⟨g1, g, d, tk, os⟩); refine wpAny_bind (wpAny_mkInt ?_)
  (show wpAny _ _ (setField (.ref e) 3 (rawInt (k + 1)) >>= _) _ _ ⟨g1, g, d, tk + 1, os⟩); refine wpAny_bind (wpAny_setField_rec e1 (by simp) fun g2 e2 b2 => ?_)
  have b2 : Heap.SameBut e g1 g2 := b2
  have e2 : IsEnum g2 e it (k + 1) old := e2
  (show wpAny _ _ (setField (.ref e) 4 .none >>= _) _ _ ⟨g2, g, d, tk + 1, os⟩); refine wpAny_bind (wpAny_setField_rec e2 (by simp) fun g3 e3 b3 => ?_)
  have b3 : Heap.SameBut e g2 g3 := b3
  have e3 : IsEnum g3 e it (k + 1) old := e3
  (show wpAny _ _ (newTuple [.int k tk, x] >>= _) _ _ ⟨g3, g, d, tk + 1, os⟩); refine wpAny_bind (wpAny_newTuple ?_)
  have e4 : IsEnum (g3.push { cls := .type "tuple", data := .seq #[.int k tk, x] }) e it (k + 1) old := Heap.get?_push_of_some _ e3
  generalize hg4 : g3.push { cls := .type "tuple", data := .seq #[.int k tk, x] } = g4 at e4
  have z3 : g3.objs.size = hp.objs.size := by rw [b3.1, b2.1, b1.1]
  have le : e < hp.objs.size := Heap.lt_size he
  have t4 : g4.get? hp.objs.size = some { cls := .type "tuple", data := .seq #[.int k tk, x] } := by rw [← hg4, ← z3]; exact Heap.get?_push_size _ rfl
  have k4 : ∀ b o, b ≠ e → b ≠ it → hp.get? b = some o → g4.get? b = some o := fun b o hbe hbi hb => by
    rw [← hg4]
    exact Heap.get?_push_of_some _ (b3.extBut b o hbe (b2.extBut b o hbe (b1.extBut b o hbi hb)))
  have c4 : St (i + 1) g4 := D.frame _ _ _ c1 fun b hb o y => by
    have hbe : b ≠ e := fun q => hef (q ▸ hb)
    rw [← hg4]
    exact Heap.get?_push_of_some _ (b3.extBut b o hbe (b2.extBut b o hbe y))
  show wpAny _ _ (Builtin.SmallTypes.ownedTupleIsFree (.ref e) >>= _) _ _ ⟨g4, g, d, tk + 1, os⟩
  rw [z3]
  refine wpAny_bind ?_
  unfold Builtin.SmallTypes.ownedTupleIsFree
  refine wpAny_bind (wpAny_field e4 rfl (x := .none) rfl (wpAny_pure ?_))
  simp only [if_true]
  refine wpAny_bind (wpAny_rule (wpAny_bind (wpAny_field e4 rfl (x := old) rfl (wpAny_bind (wpAny_setField_rec e4 (by simp) fun g5 e5 b5 => ?_)))))
  have b5 : Heap.SameBut e g4 g5 := b5
  have e5 : IsEnum g5 e it (k + 1) x := e5
  (show wpAny _ _ (Builtin.SmallTypes.ownedTupleHandOut (.ref e) (.ref hp.objs.size) >>= _) _ _ ⟨g5, g, d, tk + 1, os⟩); refine wpAny_bind ?_
  unfold Builtin.SmallTypes.ownedTupleHandOut
  refine wpAny_bind (wpAny_setField_rec e5 (by simp) fun g6 e6 b6 => ?_)
  have b6 : Heap.SameBut e g5 g6 := b6
  have e6 : IsEnumOut g6 e it (k + 1) x hp.objs.size := e6
  refine wpAny_setField_rec e6 (by simp) fun g7 e7 b7 => ?_
  have b7 : Heap.SameBut e g6 g7 := b7
  have e7 : IsEnumOut g7 e it (k + 1) x hp.objs.size := e7
  have k7 : ∀ b o, b ≠ e → g4.get? b = some o → g7.get? b = some o := fun b o hb y => b7.extBut b o hb (b6.extBut b o hb (b5.extBut b o hb y))
  refine wpAny_bind (wpAny_letGo (wpAny_pure ⟨_, rfl, hQ x g7 tk px e7 (D.frame _ _ _ c4 fun b hb o y => k7 b o (fun q => hef (q ▸ hb)) y) (k7 _ _ (Nat.ne_of_gt le) t4) fun b o hbe hbi hb => k7 b o hbe (k4 b o hbe hbi hb)⟩))
theorem en_next {e it : Addr} {fp : List Addr} {n i : Nat} {k : Int} {P : Nat → Value → Prop} {St : Nat → Heap → Prop} {old : Value} {Q : Option Value → Shared → Prop}
    (D : Draws prog w A.in1 it fp n P St) (he : IsEnum s.heap e it k old) (hst : St i s.heap) (hlt : i < n) (hne : e ≠ it) (hef : e ∉ fp)
    (hQ : ∀ x h' tk, P i x → IsEnumOut h' e it (k + 1) x s.heap.objs.size → St (i + 1) h' → h'.get? s.heap.objs.size = some { cls := .type "tuple", data := .seq #[.int k tk, x] } →
      (∀ b o, b ≠ e → b ≠ it → s.heap.get? b = some o → h'.get? b = some o) → Q (some (.ref s.heap.objs.size)) { s with heap := h', toks := tk + 1 }) :
    wpAny (model prog w) A (pyNext (.ref e)) Q E s := by
  have hT : s.TypeIs (.ref e) "enumerate" := ⟨_, he, rfl⟩
  unfold pyNext
  exact wpAny_bind (wpAny_attempt (wpAny_callSpecial?_slot (name := Str.ofString "__next__") hT F.slot_enumerate_next (wpAny_call_entry F.slot_enumerate_next hT F.entry_enumerate_next
    (en_item D he hst hlt hne hef fun x h' tk a b c d k => wpAny_pure (hQ x h' tk a b c d k)) (F.args_enumerate_next_1 _))))
end
end L2
namespace L2
open PySem PySem.Spec PyProof.Rows
section
variable {prog : Program} {w : World} {A : Around} {E : Value → Shared → Prop} {s : Shared}
end
end L2
namespace L2
open PySem PySem.Spec PyProof.Rows
section
variable {X : Cx} {pins : List (Addr × Obj)} {σ : St} {H : Hp} {s : Shared} {h' : Heap}
theorem Inv.turnedNew {t' : Nat} {ch : List Addr} {a : Addr} {o : HO} (I : Inv X pins σ H s) (k : ∀ b u, b ∉ ch → s.heap.get? b = some u → h'.get? b = some u) (hch : ∀ b ∈ ch, FpOk X pins H b)
    (hp : s.heap.objs.size ≤ a) (new : ObjOk X.prog X.w (upd H a o) h' a o) : Inv X pins σ (upd H a o) { s with heap := h', toks := t' } := by
  have hn : H a = none := I.hok.fresh hp
  have nch : ∀ b u, H b = some u → b ∉ ch := fun b u e z => by rw [(hch b z).1] at e; cases e
  refine I.step (g' := s.gens) (d' := s.drawn) (ch := ch) (fun b hb => ⟨(hch b hb).2.2.2.1, (hch b hb).2.1, (hch b hb).2.2.2.2.1, (hch b hb).2.2.2.2.2⟩) (fun b o _ _ hc e _ => k b o hc e) (fun b o _ _ hc e _ => ⟨o.slots, k b o hc e⟩)
    (fun b u hc e n => by rw [upd_ne (Nat.ne_of_lt (Nat.lt_of_lt_of_le (Heap.lt_size e) hp))]; exact n) (fun b o hc e => ⟨o, k b o hc e⟩) (fun b xs e => by rw [upd_ne (ne_of_none e hn)]; exact e) (fun b u xs e => by rw [upd_ne (ne_of_none e hn)]; exact e)
    (fun b ps e => ⟨#[], by rw [upd_ne (ne_of_none e hn), e]; simp⟩) (fun m hm => ?_) (fun b u e => ?_) I.bare
  · obtain ⟨ob, es, ep, ho, r⟩ := hm
    exact ⟨ob, es, ep, k _ ob (fun z => (hch _ z).2.1 rfl) ho, r⟩
  · by_cases hb : b = a
    · subst hb
      rw [upd_same] at e
      cases e
      exact new
    · rw [upd_ne hb] at e
      refine (I.hok b u e).stay (fun c v hc q => k c v ?_ q) (fun c q => by rw [upd_ne (ne_of_none q hn)]; exact q) fun c xs q => by rw [upd_ne (ne_of_none q hn)]; exact q
      rcases hc with z | z
      · rw [z]
        exact nch b u e
      · exact nch c _ z
end
def Ite (Sq : Hp → List V → Prop) (k : Int) : It :=
  ⟨fun i H => ∃ xs x, Sq H xs ∧ xs[i]? = some x, fun i H x H' => ∃ p y, x = .ref p ∧ H p = none ∧ H' = upd H p (.tup [.int (k + i), y]) ∧ ∀ xs, Sq H xs → xs[i]? = some y, fun i H => ∃ xs, Sq H xs ∧ xs.length = i⟩
theorem turn_enL {P : Program} {w : World} {K : PySem.W.Frag} {es : List Expr} {kk : Nat} {pt : Pos} (a e it : Addr) (k : Int) (hei : e ≠ it) :
    Turn P w K (.Tuple es kk pt) (Ite (fun H xs => SqL K H a xs) k) [e, it] e (fun i h => (∃ old, IsEnum h e it (k + (i : Int)) old) ∧ h.IsListIter it a i) where
  mem := by simp
  obj := fun i h st b hb => by
    obtain ⟨⟨old, he⟩, o, ho, hc, hd⟩ := st
    rcases List.mem_cons.mp hb with z | z
    · subst z
      exact ⟨_, he, fun v q => by cases q⟩
    · have z : b = it := by simpa using z
      subst z
      exact ⟨o, ho, fun v q => by rw [hd] at q; cases q⟩
  keep := fun i h h' st kk => by
    obtain ⟨⟨old, he⟩, o, ho, r⟩ := st
    exact ⟨⟨old, kk e (by simp) _ he⟩, o, kk it (by simp) o ho, r⟩
  item := by
    intro X hP hw hK hc i pins s σ H E I hf st hg
    subst hP hw hK
    obtain ⟨xs, x, hq, hx⟩ := hg
    obtain ⟨its, rv, p, hz⟩ := I.list hq
    obtain ⟨u, hu, ru⟩ := rv.get hx
    obtain ⟨⟨old, he⟩, hit⟩ := st
    have pl : s.heap.IsList a its.toArray := p.isList
    have nai : a ≠ it := fun z => by
      obtain ⟨o, ho, hc, _⟩ := pl
      obtain ⟨o', ho', hc', _⟩ := hit
      rw [z, ho'] at ho
      cases ho
      rw [hc'] at hc
      injection hc with q
      exact absurd q (by decide)
    have nae : e ≠ a := fun z => by
      obtain ⟨o, ho, hc, _⟩ := pl
      rw [← z, he] at ho
      cases ho
      injection hc with q
      exact absurd q (by decide)
    have D := Draws.list (prog := X.prog) (w := X.w) (A := X.A.in1) (I.ok.hd hc) it a nai its.toArray
    have lt : i < its.toArray.size := by
      rw [List.size_toArray]
      exact (List.getElem?_eq_some_iff.mp hu).1
    refine en_next D he ⟨hit, pl⟩ lt hei (fun z => ?_) fun y g tk py eo st' tt kp => ?_
    · rcases List.mem_cons.mp z with z | z
      · exact hei z
      · exact nae (by simpa using z)
    · have ey : y = u := by
        have q : its.toArray[i]? = some y := py
        have q2 : its.toArray[i]? = some u := by simpa using hu
        rw [q2] at q
        exact (Option.some.inj q).symm
      subst ey
      refine ⟨_, rfl, wpAny_letOwnedTupleGo_enum eo fun g2 eo2 sb => ?_⟩
      have le : e < s.heap.objs.size := Heap.lt_size he
      have li : it < s.heap.objs.size := by
        obtain ⟨o, ho, _⟩ := hit
        exact Heap.lt_size ho
      have tt2 : g2.get? s.heap.objs.size = some { cls := .type "tuple", data := .seq #[.int (k + i) tk, y] } := (sb.2 _ (Nat.ne_of_gt le)).trans tt
      have nT : H s.heap.objs.size = none := I.fresh
      have I1 : Inv X pins σ (upd H s.heap.objs.size (.tup [.int (k + i), x])) { s with heap := g2, toks := tk + 1 } := by
        refine I.turnedNew (t' := tk + 1) (ch := [e, it]) (fun b o hb q => ?_) hf (Nat.le_refl _) ⟨?_, [.int (k + i) tk, y], .cons ⟨tk, rfl⟩ (.cons ru .nil), ⟨_, tt2, rfl, 0, rfl⟩⟩
        · have hbe : b ≠ e := fun z => hb (by simp [z])
          have hbi : b ≠ it := fun z => hb (by simp [z])
          exact (sb.2 b hbe).trans (kp b o hbe hbi q)
        · show 2 ≤ sizeLine
          decide
      have e1 : k + ((i + 1 : Nat) : Int) = k + (i : Int) + 1 := by omega
      refine ⟨.ref s.heap.objs.size, _, I1, rfl, ⟨_, x, rfl, nT, rfl, fun ys hy => ?_⟩, ⟨⟨y, by rw [e1]; exact eo2⟩, ?_⟩, fun b hb => ?_⟩
      · rw [I.list_inj hy hq]
        exact hx
      · obtain ⟨⟨o, ho, r⟩, _⟩ := st'
        exact ⟨o, (sb.2 it hei.symm).trans ho, r⟩
      · rcases List.mem_cons.mp hb with z | z
        · subst z
          rw [upd_ne (Nat.ne_of_lt le)]
          exact (hf b (by simp)).1
        · have z : b = it := by simpa using z
          subst z
          rw [upd_ne (Nat.ne_of_lt li)]
          exact (hf b (by simp)).1
  done := by
    intro X hP hw hK hc i pins s σ H E I hf st hg
    subst hP hw hK
    obtain ⟨xs, hq, hx⟩ := hg
    obtain ⟨its, rv, p, hz⟩ := I.list hq
    obtain ⟨⟨old, he⟩, hit⟩ := st
    have pl : s.heap.IsList a its.toArray := p.isList
    have nai : a ≠ it := fun z => by
      obtain ⟨o, ho, hc, _⟩ := pl
      obtain ⟨o', ho', hc', _⟩ := hit
      rw [z, ho'] at ho
      cases ho
      rw [hc'] at hc
      injection hc with q
      exact absurd q (by decide)
    have D := Draws.list (prog := X.prog) (w := X.w) (A := X.A.in1) (I.ok.hd hc) it a nai its.toArray
    have ei : its.toArray.size = i := by
      rw [List.size_toArray, ← rv.length]
      exact hx
    obtain ⟨f0, f1, f2, f3, f4, f5⟩ := hf it (by simp)
    refine wpAny_pyNext_enum_endD D he (by rw [ei]; exact ⟨hit, pl⟩) fun h' eb => ⟨rfl, I.turned (t' := s.toks) (fun b o hb q => eb b o hb q) f0 f1 f3 f4 f5⟩
  self := fun _ _ _ _ _ st h => by
    obtain ⟨⟨old, he⟩, _⟩ := st
    exact wpAny_pyIter_enum he h
section
variable {M : Model} {A : Around} {E : Value → Shared → Prop} {s : Shared} {env : Env}
end
section
variable {X : Cx} {es : List Expr} {kk : Nat} {pt : Pos}
end
theorem for_en {Sq : Hp → List V → Prop} {k : Int} {xs : List V} {g : TG} {tb : TS} {D : Ends} {σ : St} {H : Hp} (Pv : Nat → St → Hp → Prop) (h0 : Pv 0 σ H) (hl : ∀ i σ H, i ≤ xs.length → Pv i σ H → Sq H xs)
    (hs : ∀ i x p σ H, xs[i]? = some x → H p = none → Pv i σ H → g (.ref p) σ (upd H p (.tup [.int (k + i), x])) fun σ2 H2 => tb { D with nx := Pv (i + 1), ct := Pv (i + 1), bk := D.nx } σ2 H2) (hd : ∀ σ H, Pv xs.length σ H → D.nx σ H) :
    ∃ W : Nat → Nat → St → Hp → Prop, (∃ m, W 0 m σ H) ∧ ∀ i m σ H, W i m σ H →
      ((Ite Sq k).stop i H ∧ D.nx σ H) ∨ ((Ite Sq k).go i H ∧ ∃ N : St → Hp → Prop, (∀ σ' H', N σ' H' → ∃ m', m' < m ∧ W (i + 1) m' σ' H') ∧ ∀ x H', (Ite Sq k).yld i H x H' → g x σ H' fun σ2 H2 => tb { D with nx := N, ct := N, bk := D.nx } σ2 H2) := by
  refine ⟨fun i m σ H => m = xs.length - i ∧ i ≤ xs.length ∧ Pv i σ H, ⟨xs.length, by simp, Nat.zero_le _, h0⟩, ?_⟩
  rintro i m σ H ⟨rfl, hi, p⟩
  have q := hl i σ H hi p
  by_cases hlt : i < xs.length
  · refine .inr ⟨⟨xs, xs[i], q, by simp [hlt]⟩, Pv (i + 1), fun σ' H' p' => ⟨xs.length - (i + 1), by omega, rfl, hlt, p'⟩, fun x H' y => ?_⟩
    obtain ⟨a, z, e1, hn, e2, y⟩ := y
    subst e1 e2
    exact hs i z a σ H (y xs q) hn p
  · have e : i = xs.length := by omega
    subst e
    exact .inl ⟨⟨xs, q, rfl⟩, hd σ H p⟩
end L2
namespace L2
open PySem PySem.Spec PyProof.Rows
open AutoSeq1 (wpAny_loadPart')
section
variable {X : Cx}
def rInst (K : PySem.W.Frag) : List V → Hp → VK → Prop := fun xs H Q => ∃ x n t b, xs = [x, .ty n] ∧ TyOf K H x t ∧ PySem.W.kitOne K t (.type n) = some b ∧ Q (.bl b) H
theorem call_isinst : CallR X (.builtin "isinstance") (rInst X.K) := by
  intro pins s σ H xs us Q I r h
  obtain ⟨x, n, t, b, e1, ty, e2, q⟩ := h
  subst e1
  obtain ⟨u, v, e3, r1, r2⟩ := vals2 r
  subst e3
  obtain rfl : v = Value.type n := r2
  exact isinst_ok I r1 ty e2 fun tk => ⟨.bl b, H, I.tok tk, rfl, q⟩
end
end L2
namespace L2
open PySem PySem.Spec PyProof.Rows
def compChk (fs : Scope) (N : List Str) (x : Str) (scope : Scope) : Bool :=
  decide (scope.kind = .function) && scope.names.all (fun y => decide (y.2 ≠ .cell)) && scope.names.all (fun y => decide (y.2 = .local → scope.names.lookup y.1 = some .local)) && decide (scope.names.lookup x = some .local) &&
  scope.names.all (fun y => decide (y.2 = .free → fs.names.lookup y.1 = some .cell ∨ fs.names.lookup y.1 = some .free)) &&
  N.all (fun y => match scope.names.lookup y with
    | none => true
    | some .free => decide (fs.names.lookup y = some .cell ∨ fs.names.lookup y = some .free)
    | some _ => false) && decide ((x :: N).Nodup)
theorem compSc_mk {X : Cx} {x : Str} {scope fs : Scope} {N : List Str} (hs : X.env.scope = fs) (hN : X.N = N) (c : compChk fs N x scope = true) : CompSc X x scope := by
  subst hs hN
  unfold compChk at c
  simp only [Bool.and_eq_true, List.all_eq_true, decide_eq_true_eq] at c
  obtain ⟨⟨⟨⟨⟨⟨c1, c2⟩, c3⟩, c4⟩, c5⟩, c6⟩, c7⟩ := c
  refine ⟨c1, c2, c3, c4, c5, fun y hy => ?_, c7⟩
  have q := c6 y hy
  unfold capOk
  cases e : scope.names.lookup y with
  | none => rfl
  | some k =>
    rw [e] at q
    cases k with
    | free =>
      have q2 : X.env.scope.names.lookup y = some .cell ∨ X.env.scope.names.lookup y = some .free := by simpa using q
      show (X.env.kindOf y == some .cell || X.env.kindOf y == some .free) = true
      have e2 : X.env.kindOf y = X.env.scope.names.lookup y := rfl
      rw [e2]
      rcases q2 with z | z <;> rw [z] <;> rfl
    | _ => simp at q
theorem comp_list {K : PySem.W.Frag} {a : Addr} {xs : List V} {te : TE} {σ : St} {H : Hp} {Q : VK} (f : V → V) (hq : SqL K H a xs) (hn : xs.length < sizeLine)
    (he : ∀ (D : Addr) (i : Nat) (x : V) (l : List V) (Q' : VK), H D = none → xs[i]? = some x → Q' (f x) (upd H D (.lst l)) → te (some x :: σ) (upd H D (.lst l)) Q') (hd : ∀ D, H D = none → Q (.ref D) (upd H D (.lst (xs.map f)))) :
    CompGo (Itl K a) H σ ttAll te Q := by
  intro D hD
  refine ⟨fun i m H' => m = xs.length - i ∧ i ≤ xs.length ∧ H' = upd H D (.lst ((xs.take i).map f)), ⟨xs.length, by omega, Nat.zero_le _, rfl⟩, ?_⟩
  rintro i m H' ⟨rfl, hi, rfl⟩
  have hs : Same H (upd H D (.lst ((xs.take i).map f))) := fun b o e => by rw [upd_ne (ne_of_none e hD)]; exact e
  have q := hs.seq hq
  by_cases hlt : i < xs.length
  · refine .inr ⟨⟨xs, xs[i], q, by simp [hlt]⟩, fun x H2 y => ?_⟩
    obtain ⟨e, y⟩ := y
    subst e
    have hx := y xs q
    unfold ttAll
    refine iteT ?_
    refine he D i x _ _ hD hx ⟨_, upd_same, ?_, xs.length - (i + 1), by omega, rfl, hlt, ?_⟩
    · rw [List.length_map, List.length_take]; omega
    · rw [upd_upd, List.take_add_one, hx, List.map_append]
      rfl
  · have e : i = xs.length := by omega
    subst e
    refine .inl ⟨⟨xs, q, Nat.le_refl _⟩, ?_⟩
    rw [List.take_length]
    exact hd D hD
end L2
namespace L2
open PySem PySem.Spec PyProof.Rows
section
variable {X : Cx}
def rMinL (K : PySem.W.Frag) : List V → Hp → VK → Prop := fun xs H Q => ∃ (p : Addr) (ns : List Int), xs = [.ref p] ∧ SqL K H p (ns.map V.int) ∧ 0 < ns.length ∧ ∀ M : Int, M ∈ ns → (∀ b ∈ ns, M ≤ b) → Q (.int M) H
theorem call_minL (hc : X.calm = true) : CallR X (.builtin "min") (rMinL X.K) := by
  intro pins s σ H xs us Q I r h
  obtain ⟨p, ns, e1, hS, hn, q⟩ := h
  subst e1
  obtain ⟨u, e2, ru⟩ := vals1 r
  subst e2
  obtain rfl : u = Value.ref p := ru
  obtain ⟨its, rv, pl, hz⟩ := I.list hS
  have ia := intsAre_of rv
  obtain ⟨zs, ez⟩ := ia.allInts.items
  have en : ns = zs.toList.map (·.1) := by rw [← ia.numsOf, ← nums_intItems, ← ez]
  have hs : 0 < zs.size := by
    rw [en, List.length_map, Array.length_toList] at hn
    exact hn
  have hL := pl.isList
  rw [ez] at hL
  refine min_intList (I.ok.hd hc) hL hs fun v h' tk hv hk => ?_
  obtain ⟨t, e3⟩ := intItems_at hv
  subst e3
  obtain ⟨g1, g2⟩ := argBest_lt (numAt zs) (zs.size - 1)
  refine ⟨.int _, H, I.kept hk, ⟨t, rfl⟩, q _ ?_ fun b hb => ?_⟩
  · rw [en, numAt_eq]
    exact getD_mem (by rw [List.length_map, Array.length_toList]; omega)
  · rw [en] at hb
    obtain ⟨j, hj, e4⟩ := mem_getD hb
    subst e4
    rw [List.length_map, Array.length_toList] at hj
    rw [← numAt_eq]
    exact g2 j (by omega)
def iEnL0 (K : PySem.W.Frag) (ta : TA) : TI := fun σ H R => ta σ H fun vs H1 => ∃ a, vs = [.ref a] ∧ (∃ xs, SqL K H1 a xs) ∧ R (Ite (fun H xs => SqL K H a xs) 0) H1
theorem pi_enL0 {es : List Expr} {kk : Nat} {pt : Pos} {l : Expr} {ta : TA} {p pos : Pos} (hg : Gl X "enumerate") (hm : X.mg "enumerate" = none) (ha : PA X [l] ta) (hs : starEach [l] X.env = [(false, eval l X.env)] := by rfl) :
    PI X (.Tuple es kk pt) (.Call (.Name "enumerate" p) [l] [] pos) (iEnL0 X.K ta) := by
  intro pins s σ H R I h
  refine Call_ (ld_blt I hg hm boot_enumerate (PyProof.Rows.callWith_type1 (thn (ha pos pins s σ H _ I h) fun us s1 ⟨vs, H1, I1, r1, q1⟩ => ?_) hs rfl))
  obtain ⟨a, e1, ⟨xs, hq⟩, q⟩ := q1
  subst e1
  obtain ⟨u, e1, r3⟩ := vals1 r1
  subst e1
  obtain rfl : u = Value.ref a := r3
  obtain ⟨its, rv, pl, hz⟩ := I1.list hq
  refine call_enumerate_list pl.isList fun h' he hit hsz kp => ?_
  have I3 : Inv X pins σ H1 { s1 with heap := h' } := I1.kept (t' := s1.toks) kp
  refine wpAny_pyIter_enum he ⟨s1.heap.objs.size + 1, [s1.heap.objs.size + 1, s1.heap.objs.size], _, _, H1, rfl, I3, turn_enL a _ _ 0 (Nat.succ_ne_self _), ⟨⟨.none, by rw [show (0 : Int) + ((0 : Nat) : Int) = 0 by omega]; exact he⟩, hit⟩, fun b hb => ?_, q⟩
  rcases List.mem_cons.mp hb with z | z
  · subst z
    exact I1.fpOk (Nat.le_succ _) (I1.hok.fresh (Nat.le_succ _))
  · have z : b = s1.heap.objs.size := by simpa using z
    subst z
    exact I1.fpOk (Nat.le_refl _) (I1.hok.fresh (Nat.le_refl _))
end
section
variable {X : Cx} {K : PySem.W.Frag}
end
end L2
namespace L2
open PySem
section
variable {prog : Program} {w : World} {A : Around} {R : Result → Shared → Prop} {I Z : Addr} {fp wr : List Addr} {n : Nat} {P : Nat → Value → Prop} {St : Nat → Heap → Prop} {Ok : Heap → Prop}
end
section
variable {prog : Program} {w : World} {A : Around} {E : Value → Shared → Prop} {s : Shared}
end
end L2
namespace L2
open PySem PySem.Spec PyProof.Rows
section
variable {X : Cx}
def rMaxL (K : PySem.W.Frag) : List V → Hp → VK → Prop := fun xs H Q => ∃ (p : Addr) (ns : List Int), xs = [.ref p] ∧ SqL K H p (ns.map V.int) ∧ 0 < ns.length ∧ ∀ M : Int, M ∈ ns → (∀ b ∈ ns, b ≤ M) → Q (.int M) H
theorem call_maxL (hc : X.calm = true) : CallR X (.builtin "max") (rMaxL X.K) := by
  intro pins s σ H xs us Q I r h
  obtain ⟨p, ns, e1, hS, hn, q⟩ := h
  subst e1
  obtain ⟨u, e2, ru⟩ := vals1 r
  subst e2
  obtain rfl : u = Value.ref p := ru
  obtain ⟨its, rv, pl, hz⟩ := I.list hS
  have ia := intsAre_of rv
  obtain ⟨zs, ez⟩ := ia.allInts.items
  have en : ns = zs.toList.map (·.1) := by rw [← ia.numsOf, ← nums_intItems, ← ez]
  have hs : 0 < zs.size := by
    rw [en, List.length_map, Array.length_toList] at hn
    exact hn
  have hL := pl.isList
  rw [ez] at hL
  refine max_intList (I.ok.hd hc) hL hs fun v h' tk hv hk => ?_
  obtain ⟨t, e3⟩ := intItems_at hv
  subst e3
  obtain ⟨g1, g2⟩ := argBest_gt (numAt zs) (zs.size - 1)
  refine ⟨.int _, H, I.kept hk, ⟨t, rfl⟩, q _ ?_ fun b hb => ?_⟩
  · rw [en, numAt_eq]
    exact getD_mem (by rw [List.length_map, Array.length_toList]; omega)
  · rw [en] at hb
    obtain ⟨j, hj, e4⟩ := mem_getD hb
    subst e4
    rw [List.length_map, Array.length_toList] at hj
    rw [← numAt_eq]
    exact g2 j (by omega)
end
section
variable {X : Cx}
end
end L2
namespace L2
open PySem PySem.Spec PyProof.Rows
section
variable {κ : Type} [DecidableEq κ]
end
section
variable {P : Program} {w : World} {H : Hp} {h : Heap} {a : Addr}
end
section
variable {X : Cx} {pins : List (Addr × Obj)} {σ : St} {H : Hp} {s : Shared} {a : Addr} {y v : V} {u r : Value} {o : Option V} {A : Around} {E : Value → Shared → Prop}
end
section
variable {X : Cx} {pins : List (Addr × Obj)} {σ : St} {H : Hp} {s : Shared} {a : Addr} {kvs : List (Key × V)} {k : Key} {u : Value} {A : Around} {E : Value → Shared → Prop}
end
section
variable {X : Cx} {o i e value : Expr} {pos pos' tpos : Pos} {td ty tv : TE}
end
section
variable {X : Cx} {pos : Pos}
end
structure M1 (X : Cx) (o : Expr) (m : Str) (apos : Pos) (e : Expr) (cpos : Pos) : Prop where
  base : attributeBase o m X.env (eval o X.env) = eval o X.env
  few : ((backTo cpos (starEach [e] X.env)).all (fun x => !x.1) && (backToKw cpos (keywordEach [] X.env)).all (fun x => x.1.isSome)
    && decide (([e] : List Expr).length + ([] : List Keyword).length + (if ([] : List Keyword).isEmpty then 0 else 1) < 30)) = true
  line : (apos.endLine == cpos.line) = true
  trees : backTo cpos (starEach [e] X.env) = [(false, eval e X.env)]
structure M2 (X : Cx) (o : Expr) (m : Str) (apos : Pos) (e f : Expr) (cpos : Pos) : Prop where
  base : attributeBase o m X.env (eval o X.env) = eval o X.env
  few : ((backTo cpos (starEach [e, f] X.env)).all (fun x => !x.1) && (backToKw cpos (keywordEach [] X.env)).all (fun x => x.1.isSome)
    && decide (([e, f] : List Expr).length + ([] : List Keyword).length + (if ([] : List Keyword).isEmpty then 0 else 1) < 30)) = true
  line : (apos.endLine == cpos.line) = true
  trees : backTo cpos (starEach [e, f] X.env) = [(false, eval e X.env), (false, eval f X.env)]
section
variable {X : Cx} {pins : List (Addr × Obj)} {σ : St} {H : Hp} {s : Shared} {a : Addr} {y d : V} {u r : Value} {o : Option V} {A : Around} {E : Value → Shared → Prop}
end
section
variable {X : Cx} {o e f : Expr} {apos cpos : Pos} {td ty tx : TE}
end
section
variable {X : Cx} {pins : List (Addr × Obj)} {σ : St} {H : Hp} {s : Shared} {a : Addr} {kvs : List (Key × V)} {A : Around} {E : Value → Shared → Prop}
end
section
variable {X : Cx} {pins : List (Addr × Obj)} {σ : St} {H : Hp} {s : Shared} {a : Addr} {y : V} {u : Value} {A : Around} {E : Value → Shared → Prop}
end
end L2
namespace S2
open PySem L2
theorem Same.put {H H2 : Hp} {l : Addr} {o : HO} (s : Same H H2) (hn : H l = none) : Same H (upd H2 l o) := fun b u e => by
  rw [upd_ne (ne_of_none e hn)]
  exact s b u e
theorem get_lt {α : Type} {l : List α} {i : Nat} {x : α} (h : l[i]? = some x) : i < l.length := (List.getElem?_eq_some_iff.mp h).1
theorem small {n : Nat} (h : n ≤ 100000) : n < sizeLine := Nat.lt_of_le_of_lt h (by decide)
theorem smallE {n : Nat} (h : n ≤ 100000) : n ≤ sizeLine := Nat.le_of_lt (small h)
theorem atI_of {α : Type} {xs : List α} {z : Int} {j : Nat} {v : α} (e : z = (j : Int)) (h : xs[j]? = some v) : atI xs z = some v := by
  rw [e]
  exact atI_nat h
def gi (ns : List Int) (i : Nat) : Int := (ns[i]?).getD 0
theorem gi_at {ns : List Int} {i : Nat} (h : i < ns.length) : (ns.map V.int)[i]? = some (V.int (gi ns i)) := by
  unfold gi
  rw [List.getElem?_map, List.getElem?_eq_getElem h]
  rfl
theorem mod_nat {z : Int} {n : Nat} (h : 0 < n) : ∃ i : Nat, z % (n : Int) = (i : Int) ∧ i < n := by
  have h1 : 0 ≤ z % (n : Int) := Int.emod_nonneg _ (by omega)
  have h2 : z % (n : Int) < (n : Int) := Int.emod_lt_of_pos _ (by omega)
  exact ⟨(z % (n : Int)).toNat, by omega, by omega⟩
def cellsOf (i j : Nat) (ns : List Int) : List Int := (ns.drop (min i ns.length)).take (min j ns.length - min i ns.length)
theorem cells_len (i j : Nat) (ns : List Int) : (cellsOf i j ns).length ≤ j - i := by
  unfold cellsOf
  rw [List.length_take, List.length_drop]
  omega
theorem cells_cut (i j : Nat) (ns : List Int) : cutV (ns.map V.int) (some (i : Int)) (some (j : Int)) = (cellsOf i j ns).map V.int := by
  unfold cutV cellsOf
  have e1 := HT.sIx_nat (ns.map V.int).length 0 i
  have e2 := HT.sIx_nat (ns.map V.int).length (ns.map V.int).length j
  rw [e1, e2, List.length_map, List.map_take, List.map_drop]
theorem int_at {ns : List Int} {i : Nat} {y : V} (h : (ns.map V.int)[i]? = some y) : ∃ z, y = V.int z ∧ ns[i]? = some z := by
  rw [List.getElem?_map] at h
  cases e : ns[i]? with
  | none => rw [e] at h; cases h
  | some z => rw [e] at h; exact ⟨z, (Option.some.inj h).symm, rfl⟩
def spCell (K : PySem.W.Frag) : Sp := fun vs H Q _ => ∃ (a : Addr) (k : Nat) (ns : List Int), vs = [.ref a, .int k] ∧ SqL K H a (ns.map V.int) ∧ ns.length ≤ 63 ∧ ∀ z : Int, Q (.int z) H
def spNumbers : Sp := fun vs H Q _ => ∃ (c : Int) (m : Nat), vs = [.int c, .int m] ∧ m ≤ 100 ∧ ∀ (l : Addr) (ns : List Int) (H' : Hp), H l = none → Same H H' → H' l = some (.lst (ns.map V.int)) → ns.length = m → Q (.ref l) H'
theorem snoc_at {H : Hp} {l : Addr} {ns : List Int} {x : Int} : (upd H l (.lst (ns.map V.int ++ [V.int x]))) l = some (.lst ((ns ++ [x]).map V.int)) := by
  rw [upd_same, List.map_append]
  rfl
theorem snoc_len {α : Type} {ns : List α} {x : α} : (ns ++ [x]).length = ns.length + 1 := by rw [List.length_append]; rfl
theorem iteC {A B : Prop} {c : Bool} (h : c = false) (b : B) : if c = true then A else B := by rw [if_neg (by rw [h]; exact Bool.false_ne_true)]; exact b
theorem while_out {c : TT} {tb : TS} {D : Ends} {σ : St} {H : Hp} (W : Nat → St → Hp → Prop) {m0 : Nat} (h0 : W m0 σ H) (out : ∀ m σ H, W m σ H → D.nx σ H)
    (turn : ∀ R : St → Hp → Prop, (∀ m σ H, W m σ H → R σ H) → ∀ m σ H, W m σ H → c σ H fun b H1 => if b = true then ∃ N : St → Hp → Prop, (∀ σ' H', N σ' H' → ∃ m', m' < m ∧ W m' σ' H') ∧ tb { D with nx := N, ct := N, bk := D.nx } σ H1 else R σ H1) : tWhile c tb D σ H :=
  ⟨W, ⟨m0, h0⟩, turn D.nx out⟩
theorem nat_of {z : Int} {n : Nat} (h0 : 0 ≤ z) (h1 : z < (n : Int)) : ∃ i : Nat, z = (i : Int) ∧ i < n := ⟨z.toNat, by omega, by omega⟩
end S2
namespace L2
open PySem PySem.Spec PyProof.Rows
abbrev Cx.compN (X : Cx) (N' : List Str) (scope : Scope) (cl : List (Str × Addr)) (C : Addr) (fp : List Addr) (s : Shared) (H : Hp) : Cx :=
  { X with N := N', s₀ := s, H₀ := H, env := compEnvC scope cl C X.env, outer := X.stack, ex := fp, fn := fun _ => false, pn := [], xe := fun _ _ => False }
structure CompScN (X : Cx) (k : Nat) (N' : List Str) (scope : Scope) : Prop where
  kind : scope.kind = .function
  cell : ∀ y ∈ scope.names, y.2 ≠ .cell
  names : ∀ y ∈ scope.names, y.2 = .local → scope.names.lookup y.1 = some .local
  free : ∀ y ∈ scope.names, y.2 = .free → X.env.kindOf y.1 = some .cell ∨ X.env.kindOf y.1 = some .free
  len : N'.length = k + X.N.length
  cap : ∀ i y, N'[k + i]? = some y → (X.N[i]? = some y ∧ capOk scope X.env y = true) ∨ scope.names.lookup y = none
theorem compN_inv {X : Cx} {k : Nat} {N' : List Str} {scope : Scope} {cl : List (Str × Addr)} {fp : List Addr} {pins : List (Addr × Obj)} {σ : St} {H : Hp} {s : Shared} {h' : Heap} {tk : Nat} {m : Str → Option Value} (S : CompScN X k N' scope) (I : Inv X pins σ H s)
    (hns : h'.Ns s.heap.objs.size m) (hk : ∀ b o, s.heap.get? b = some o → h'.get? b = some o) (hf : ∀ b ∈ fp, FpOk X pins H b) (ho : ∀ b ∈ fp, ∃ o, s.heap.get? b = some o)
    (hsub : ∀ y c, cl.lookup y = some c → X.env.cells.lookup y = some c) (hall : ∀ y ∈ scope.names, y.2 = .free → ∃ c, cl.lookup y.1 = some c) :
    Inv (X.compN N' scope cl s.heap.objs.size fp s H) (X.pn ++ pins) (List.replicate k none ++ σ) H { s with heap := h', toks := tk } := by
  refine ⟨⟨I.ok.mod, S.kind, I.ok.glob, I.ok.blt, Nat.le_refl _, fun y z c h1 h2 => I.ok.inj y z c (hsub y c h1) (hsub z c h2), fun y hy => ?_, fun y c hfn => absurd hfn Bool.false_ne_true, I.ok.hd, I.ok.frames, .inl rfl, fun b hb => ⟨?_, fun y c e => (hf b hb).2.2.2.2.1 y c (hsub y c e)⟩,
    I.bs, Nat.le_trans I.ok.bsz I.sz, fun b o e hb => ?_, fun b hb hs => ?_, I.stack, I.stkFree⟩, rfl, I.bare, Un.kept hk, ⟨m, hns, fun i y v e1 e2 e3 => ?_⟩, fun y c e => ?_, I.fresh, fun y c e => I.freeC y c (hsub y c e), fun p hp => ?_, I.hok.kept hk, ?_⟩
  · have hy' : ∃ k, (k = NameKind.cell ∨ k = NameKind.free) ∧ (relabel scope X.env).names.lookup y = some k := by
      rcases hy with z | z
      · exact ⟨_, .inl rfl, z⟩
      · exact ⟨_, .inr rfl, z⟩
    obtain ⟨k, hk', e⟩ := hy'
    obtain ⟨k0, e0, r⟩ := rel_look e
    have kf : k0 = .free := by
      rcases r with r | r
      · subst r
        rcases hk' with z | z
        · subst z
          exact absurd rfl (S.cell _ (PySem.mem_of_lookup e0))
        · exact z
      · exact r.1
    subst kf
    exact hall (y, .free) (free_mem e0) rfl
  · obtain ⟨o, e⟩ := ho b hb
    exact Nat.ne_of_lt (Heap.lt_size e)
  · rcases (hf b hb).2.2.2.1 with z | z
    · exact I.ok.noex b o e z
    · exact absurd (Nat.lt_of_lt_of_le (Heap.lt_size e) (Nat.le_trans I.ok.bsz z)) (Nat.lt_irrefl _)
  · rcases List.mem_cons.mp (I.stkSub b hs) with z | z
    · exact (hf b hb).2.1 z
    · exact (hf b hb).2.2.1 z
  · have e1q : N'[i]? = some y := e1
    by_cases hik : i < k
    · rw [List.getElem?_append_left (by simpa using hik), List.getElem?_replicate] at e2
      rw [if_pos hik] at e2
      cases e2
    obtain ⟨i, rfl⟩ : ∃ d, i = k + d := ⟨i - k, by omega⟩
    have e2' : σ[i]? = some (some v) := by
      rw [List.getElem?_append_right (by simp)] at e2
      simpa using e2
    have hvis : ∃ k, (relabel scope X.env).names.lookup y = some k := by
      rcases e3 with z | z | z
      · exact ⟨_, z⟩
      · exact ⟨_, z⟩
      · exact ⟨_, z⟩
    obtain ⟨k, ek⟩ := hvis
    obtain ⟨k0, e0, r⟩ := rel_look ek
    rcases S.cap i y e1q with ⟨e1', hc⟩ | z0
    case inr => rw [z0] at e0; cases e0
    unfold capOk at hc
    rw [e0] at hc
    have kf : k0 = .free := by cases k0 <;> simp_all
    subst kf
    have hkk : X.env.kindOf y = some .cell ∨ X.env.kindOf y = some .free := by simpa using hc
    obtain ⟨m0, hn0, hl0⟩ := I.loc
    obtain ⟨u, ru, l⟩ := hl0 i y v e1' e2' (.inr hkk)
    refine ⟨u, ru, .inr ?_⟩
    obtain ⟨c', hc'⟩ := hall (y, .free) (free_mem e0) rfl
    rcases l with ⟨z, _⟩ | ⟨_, c, ec, ⟨o, ho', hd'⟩⟩
    · rcases hkk with q | q <;> rw [z] at q <;> cases q
    · have e4 := hsub y c' hc'
      rw [ec] at e4
      have e5 : c = c' := Option.some.inj e4
      subst e5
      refine ⟨?_, c, hc', o, hk _ _ ho', hd'⟩
      rcases r with r | r
      · subst r
        exact .inr ek
      · obtain ⟨_, r⟩ := r
        subst r
        exact .inl ek
  · obtain ⟨v, o, ho', hd'⟩ := I.cell y c (hsub y c e)
    exact ⟨v, o, hk _ _ ho', hd'⟩
  · have hp' : p ∈ X.pn ++ pins := by simpa using hp
    obtain ⟨e, n, ne, nf, d⟩ := I.pin p hp'
    refine ⟨hk _ _ e, n, Nat.ne_of_lt (Heap.lt_size e), fun z => ?_, d⟩
    rcases List.mem_cons.mp (I.stkSub p.1 z) with q | q
    · exact ne q
    · exact nf q
  · show (List.replicate k none ++ σ).length = N'.length
    rw [S.len, List.length_append, List.length_replicate, I.len]
def CompGoN (J : It) (H1 : Hp) (k : Nat) (σ : St) (g : TG) (tt : TT) (te : TE) (Q : VK) : Prop := ∀ D, H1 D = none → ∃ W : Nat → Nat → Hp → Prop, (∃ m, W 0 m (upd H1 D (.lst []))) ∧ ∀ i m H, W i m H →
  (J.stop i H ∧ Q (.ref D) H) ∨ (J.go i H ∧ ∀ x H' ρ, ρ.length = k → J.yld i H x H' → g x (ρ ++ σ) H' fun σ2 H2 => (∃ ρ2 : St, ρ2.length = k ∧ σ2 = ρ2 ++ σ) ∧ tt σ2 H2 fun b H3 => if b = true then te σ2 H3 fun y H4 => ∃ ys, H4 D = some (.lst ys) ∧ ys.length < sizeLine ∧ ∃ m', m' < m ∧ W (i + 1) m' (upd H4 D (.lst (ys ++ [y])))
    else ∃ m', m' < m ∧ W (i + 1) m' H3)
def tCompN (wi : TI) (k : Nat) (g : TG) (tt : TT) (te : TE) : TE := fun σ H Q => wi σ H fun J H1 => CompGoN J H1 k σ g tt te Q
section
variable {X : Cx} {k : Nat} {N' : List Str} {tg : Expr} {pos : Pos} {elt iter : Expr} {ifs : List Expr} {scope : Scope} {wi : TI} {g : TG} {tt : TT} {te : TE}
theorem compN_core {pins : List (Addr × Obj)} {σ : St} {H2 : Hp} {s2 : Shared} {it : Addr} {fp : List Addr} {tn : Nat → Heap → Prop} {J : It} {Q : VK} {cl : List (Str × Addr)} {E : Value → Shared → Prop} {RR : Value → Addr → Result → Shared → Prop}
    (S : CompScN X k N' scope) (hcal : X.calm = true) (hclos : (∀ y c, cl.lookup y = some c → X.env.cells.lookup y = some c) ∧ ∀ y ∈ scope.names, y.2 = .free → ∃ c, cl.lookup y.1 = some c)
    (hg : ∀ cl C fp s H, PG (X.compN N' scope cl C fp s H) tg g) (ht : ∀ cl C fp s H, PTs (X.compN N' scope cl C fp s H) ifs tt) (he : ∀ cl C fp s H, PE (X.compN N' scope cl C fp s H) elt te)
    (I2 : Inv X pins σ H2 s2) (T : Turn X.prog X.w X.K tg J fp it tn) (st2 : tn 0 s2.heap) (f2 : ∀ b ∈ fp, FpOk X pins H2 b)
    (q : CompGoN J H2 k σ g tt te Q)
    (hRR : ∀ D C s' H' m', Inv X pins σ H' s' → s'.heap.Ns C m' → FpOk X pins H' C → Q (.ref D) H' → RR (.ref D) C (.ok .next) s') :
    wpAny (model X.prog X.w) X.A (newList []) (fun acc s3 => wpAny (model X.prog X.w) X.A (newFunctionEnv scope X.env.globals cl [] X.env.qual none .none (some X.env)) (fun cenv s4 =>
      codeAny (model X.prog X.w) X.A (.compStart (.ListComp elt [⟨tg, iter, ifs, 0⟩] scope pos) 0 (.ref it) acc { cenv with scope := relabel scope X.env }) (RR acc cenv.locals) s4) E s3) E s2 := by
  obtain ⟨hsub, hall⟩ := hclos
  refine wpAny_newObj_type (wpAny_newFunctionEnv S.cell (by intro y hy; simp at hy) (fun h1 hns hsb => ?_) S.kind)
  have I3 : Inv X pins σ (upd H2 s2.heap.objs.size (.lst [])) { s2 with heap := s2.heap.push { cls := .type "list", data := .seq ([] : List Value).toArray } } := I2.lnew (t' := s2.toks) .nil (by simp)
  have hD : H2 s2.heap.objs.size = none := I2.fresh
  obtain ⟨W, ⟨m0, w0⟩, turn⟩ := q _ hD
  generalize hs3 : ({ s2 with heap := s2.heap.push { cls := .type "list", data := .seq ([] : List Value).toArray } } : Shared) = s3 at I3
  have hs3' : ({ s2 with heap := s2.heap.push { cls := .type "list", dict := none, data := .seq ([] : List Value).toArray } } : Shared) = s3 := hs3
  dsimp only at hns hsb ⊢
  generalize hDD : s2.heap.objs.size = D at *
  have eh : s2.heap.push { cls := .type "list", dict := none, data := .seq ([] : List Value).toArray } = s3.heap := by rw [← hs3]
  rw [eh] at hns hsb
  have keep : ∀ b o, s3.heap.get? b = some o → h1.get? b = some o := fun b o e => hsb.extBut b o (Nat.ne_of_lt (Heap.lt_size e)) (Heap.get?_push_of_some _ e)
  have objs : ∀ b ∈ fp, ∃ o, s3.heap.get? b = some o := fun b hb => by
    obtain ⟨o, e, _⟩ := T.obj _ _ st2 b hb
    rw [← eh]
    exact ⟨o, Heap.get?_push_of_some _ e⟩
  have f3 : ∀ b ∈ fp, FpOk X pins (upd H2 D (.lst [])) b := fun b hb => by
    obtain ⟨o, e, _⟩ := T.obj _ _ st2 b hb
    have ne : b ≠ D := by rw [← hDD]; exact Nat.ne_of_lt (Heap.lt_size e)
    exact ⟨by rw [upd_ne ne]; exact (f2 b hb).1, (f2 b hb).2⟩
  have I4 : Inv (X.compN N' scope cl s3.heap.objs.size fp s3 (upd H2 D (.lst []))) (X.pn ++ pins) (List.replicate k none ++ σ) (upd H2 D (.lst [])) { s3 with heap := h1, toks := s3.toks + ([] : List (Str × Value)).length } := compN_inv S I3 hns keep f3 objs hsub hall
  have st4 : tn 0 h1 := T.keep _ _ _ st2 fun b hb o e => keep b o (by rw [← eh]; exact Heap.get?_push_of_some _ e)
  -- what stays true of the iterator's objects
  have stat : ∀ {H' : Hp}, (∀ b ∈ fp, H' b = none) → ∀ b ∈ fp, FpOk (X.compN N' scope cl s3.heap.objs.size fp s3 (upd H2 D (.lst []))) (X.pn ++ pins) H' b := fun hn b hb => by
    refine ⟨hn b hb, (I4.ok.exf b hb).1, I4.ok.exfs b hb, .inl hb, (I4.ok.exf b hb).2, fun p hp => (f3 b hb).2.2.2.2.2 p (by simpa using hp)⟩
  have loop : codeAny (model X.prog X.w) X.A (.compLoop (.ListComp elt [⟨tg, iter, ifs, 0⟩] scope pos) 0 (.ref it) (.ref D) (compEnvC scope cl s3.heap.objs.size X.env)) (RR (.ref D) s3.heap.objs.size) { s3 with heap := h1, toks := s3.toks + ([] : List (Str × Value)).length } := by
    refine comp_loop_go (fun n s' => ∃ i ρ H', Inv (X.compN N' scope cl s3.heap.objs.size fp s3 (upd H2 D (.lst []))) (X.pn ++ pins) (ρ ++ σ) H' s' ∧ ρ.length = k ∧ tn i s'.heap ∧ (∀ b ∈ fp, H' b = none) ∧ W i n H') ?_ m0
      ⟨0, _, _, I4, by simp, st4, fun b hb => (f3 b hb).1, w0⟩
    rintro n s5 ⟨i, ρ, H5, I5, lρ, st5, fr5, w5⟩
    rcases turn i n H5 w5 with ⟨stop, qn⟩ | ⟨go, step⟩
    · refine thn (T.done (X.compN N' scope cl s3.heap.objs.size fp s3 (upd H2 D (.lst []))) rfl rfl rfl hcal i _ s5 _ H5 _ I5 (stat fr5) st5 stop) fun r s6 ⟨hr, I6⟩ => ?_
      subst hr
      obtain ⟨m6, hn6, _⟩ := I6.loc
      have I7 : Inv X pins σ H5 s6 := I3.call' (ch := fp) I6.os I6.base I6.hok I6.bare fun b hb => ⟨(f3 b hb).2.2.2.1, (f3 b hb).2.1, (f3 b hb).2.2.2.2.1, (f3 b hb).2.2.2.2.2⟩
      exact hRR D s3.heap.objs.size s6 H5 m6 I7 hn6 (I3.fpOk (Nat.le_refl _) I6.free) qn
    · refine thn (T.item (X.compN N' scope cl s3.heap.objs.size fp s3 (upd H2 D (.lst []))) rfl rfl rfl hcal i _ s5 _ H5 _ I5 (stat fr5) st5 go) fun r s6 ⟨u, hr, h6⟩ => ?_
      subst hr
      refine thn h6 fun _ s7 ⟨y, H7, I7, r7, y7, st7, fr7⟩ => ?_
      have I7' := I7.pinned (stat fr7) (T.obj _ _ st7)
      refine thn (hg _ _ _ _ _ _ s7 (ρ ++ σ) H7 y u _ I7' r7 (step y H7 ρ lρ y7)) fun _ s8 ⟨σ8, H8, I8, ⟨ρ2, l2, e8⟩, q8⟩ => ?_
      subst e8
      refine thn (ht _ _ _ _ _ _ s8 _ H8 _ I8 q8) fun ok s9 ⟨H9, I9, q9⟩ => ?_
      have back : ∀ {H' : Hp} {s' : Shared} {m' : Nat}, Inv (X.compN N' scope cl s3.heap.objs.size fp s3 (upd H2 D (.lst []))) (X.pn ++ pins ++ pinsAt fp s7.heap) (ρ2 ++ σ) H' s' → m' < n → W (i + 1) m' H' →
          ∃ m, m < n ∧ ∃ i ρ H', Inv (X.compN N' scope cl s3.heap.objs.size fp s3 (upd H2 D (.lst []))) (X.pn ++ pins) (ρ ++ σ) H' s' ∧ ρ.length = k ∧ tn i s'.heap ∧ (∀ b ∈ fp, H' b = none) ∧ W i m H' := fun {H' s' m'} I' hm w' => by
        have pin : ∀ b o, b ∈ fp → s7.heap.get? b = some o → s'.heap.get? b = some o ∧ H' b = none := fun b o hb e => by
          have z := I'.pin (b, o) (List.mem_append_right _ (List.mem_append_right _ (mem_pinsAt hb e)))
          exact ⟨z.1, z.2.1⟩
        refine ⟨m', hm, i + 1, ρ2, H', I'.unpinned, l2, T.keep _ _ _ st7 fun b hb o e => (pin b o hb e).1, fun b hb => ?_, w'⟩
        obtain ⟨o', e, _⟩ := T.obj _ _ st7 b hb
        exact (pin b o' hb e).2
      cases ok with
      | false =>
        rw [if_neg Bool.false_ne_true] at q9 ⊢
        obtain ⟨m', hm, w'⟩ := q9
        exact back I9 hm w'
      | true =>
        rw [if_pos rfl] at q9 ⊢
        refine thn (he _ _ _ _ _ _ s9 _ H9 _ I9 q9) fun v s10 ⟨z, H10, I10, r10, q10⟩ => ?_
        obtain ⟨ys, e10, l10, m', hm, w'⟩ := q10
        refine thn (mt_append _ s10 _ H10 (.ref D) [z] (.ref D) [v] (fun _ H' => H' = upd H10 D (.lst (ys ++ [z]))) I10 rfl (.cons r10 .nil) ⟨D, ys, z, rfl, rfl, e10, l10, rfl⟩) fun _ s11 ⟨_, H11, I11, _, e11⟩ => ?_
        subst e11
        exact back I11 hm w'
  exact codeAny_compStart_list loop (T.self _ 0 _ _ _ st4 loop)
theorem pe_compN (S : CompScN X k N' scope) (hcal : X.calm = true) (hi : PI X tg iter wi) (hg : ∀ cl C fp s H, PG (X.compN N' scope cl C fp s H) tg g) (ht : ∀ cl C fp s H, PTs (X.compN N' scope cl C fp s H) ifs tt) (he : ∀ cl C fp s H, PE (X.compN N' scope cl C fp s H) elt te)
    (hs : ∀ x, foldedSetIterable iter X.env x = pure x := by intro _; rfl) : PE X (.ListComp elt [⟨tg, iter, ifs, 0⟩] scope pos) (tCompN wi k g tt te) := by
  intro pins s σ H Q I h
  obtain ⟨cl, hcl, hc⟩ := clos_ok (env := X.env) (scope := scope) fun y hy hf => I.ok.has y.1 (S.free y hy hf)
  rw [eval_ListComp]
  refine wpAny_comprehension_free (use := none) rfl hs hcl S.kind S.names (thn (hi pins s σ H _ I h) fun xv s1 h1 => thn h1 fun itv s2 h2 => ?_)
  obtain ⟨it, fp, tn, J, H2, e, I2, T, st2, f2, q⟩ := h2
  subst e
  refine compN_core (RR := fun acc C => compPost (model X.prog X.w) X.A X.xe none (EP X pins σ Q) acc C) S hcal hc hg ht he I2 T st2 f2 q ?_
  intro D C s' H' m' I' hn F' hq
  exact ⟨m', hn, fun h' sb => ⟨.ref D, H', I'.turned (t' := s'.toks) (fun b o hb e => (sb.2 b hb).trans e) F'.1 F'.2.1 F'.2.2.2.1 F'.2.2.2.2.1 F'.2.2.2.2.2, rfl, hq⟩⟩
end
def compChkN (fs : Scope) (N : List Str) (k : Nat) (N' : List Str) (scope : Scope) : Bool :=
  decide (scope.kind = .function) && scope.names.all (fun y => decide (y.2 ≠ .cell)) && scope.names.all (fun y => decide (y.2 = .local → scope.names.lookup y.1 = some .local)) &&
  scope.names.all (fun y => decide (y.2 = .free → fs.names.lookup y.1 = some .cell ∨ fs.names.lookup y.1 = some .free)) && decide (N'.length = k + N.length) &&
  (List.range N.length).all (fun i => match N'[k + i]?, N[i]? with
    | some y, some z => (match scope.names.lookup y with
      | none => true
      | some .free => decide (y = z) && decide (fs.names.lookup y = some .cell ∨ fs.names.lookup y = some .free)
      | some _ => false)
    | _, _ => false)
theorem compScN_mk {X : Cx} {k : Nat} {N' : List Str} {scope fs : Scope} {N : List Str} (hs : X.env.scope = fs) (hN : X.N = N) (c : compChkN fs N k N' scope = true) : CompScN X k N' scope := by
  subst hs hN
  unfold compChkN at c
  simp only [Bool.and_eq_true, List.all_eq_true, decide_eq_true_eq] at c
  obtain ⟨⟨⟨⟨⟨c1, c2⟩, c3⟩, c4⟩, c5⟩, c6⟩ := c
  refine ⟨c1, c2, c3, c4, c5, fun i y hy => ?_⟩
  have hi : k + i < N'.length := (List.getElem?_eq_some_iff.mp hy).1
  have hi2 : i < X.N.length := by omega
  have q := c6 i (List.mem_range.mpr hi2)
  rw [hy, List.getElem?_eq_getElem hi2] at q
  dsimp only at q
  unfold capOk
  cases e : scope.names.lookup y with
  | none => exact .inr rfl
  | some kd =>
    rw [e] at q
    cases kd with
    | free =>
      have q2 : y = X.N[i] ∧ (X.env.scope.names.lookup y = some .cell ∨ X.env.scope.names.lookup y = some .free) := by simpa using q
      refine .inl ⟨by rw [List.getElem?_eq_getElem hi2, q2.1], ?_⟩
      show (X.env.kindOf y == some .cell || X.env.kindOf y == some .free) = true
      have e2 : X.env.kindOf y = X.env.scope.names.lookup y := rfl
      rw [e2]
      rcases q2.2 with z | z <;> rw [z] <;> rfl
    | _ => simp at q
end L2
namespace L2
open PySem PySem.Spec PyProof.Rows
section
variable {X : Cx} {pins : List (Addr × Obj)} {σ : St} {H : Hp} {s : Shared} {h' : Heap}
theorem Inv.turnedL {t' : Nat} {ch : List Addr} (I : Inv X pins σ H s) (k : ∀ b u, b ∉ ch → s.heap.get? b = some u → h'.get? b = some u) (hch : ∀ b ∈ ch, FpOk X pins H b) : Inv X pins σ H { s with heap := h', toks := t' } := by
  have nch : ∀ b u, H b = some u → b ∉ ch := fun b u e z => by rw [(hch b z).1] at e; cases e
  refine I.step (g' := s.gens) (d' := s.drawn) (ch := ch) (fun b hb => ⟨(hch b hb).2.2.2.1, (hch b hb).2.1, (hch b hb).2.2.2.2.1, (hch b hb).2.2.2.2.2⟩) (fun b o _ _ hc e _ => k b o hc e) (fun b o _ _ hc e _ => ⟨o.slots, k b o hc e⟩)
    (fun _ _ _ _ n => n) (fun b o hc e => ⟨o, k b o hc e⟩) (fun _ _ e => e) (fun _ _ _ e => e) (fun b ps e => ⟨#[], by rw [e]; simp⟩) (fun m hm => ?_) (fun b u e => ?_) I.bare
  · obtain ⟨ob, es, ep, ho, r⟩ := hm
    exact ⟨ob, es, ep, k _ ob (fun z => (hch _ z).2.1 rfl) ho, r⟩
  · refine (I.hok b u e).stay (fun c v hc q => k c v ?_ q) (fun c q => q) fun c xs q => q
    rcases hc with z | z
    · rw [z]
      exact nch b u e
    · exact nch c _ z
end
def Itz (K : PySem.W.Frag) (a b : Addr) : It :=
  ⟨fun i H => ∃ xs ys x y, SqL K H a xs ∧ SqL K H b ys ∧ xs[i]? = some x ∧ ys[i]? = some y, fun i H x H' => ∃ p u v, x = .ref p ∧ H p = none ∧ H' = upd H p (.tup [u, v]) ∧ (∀ xs, SqL K H a xs → xs[i]? = some u) ∧ ∀ ys, SqL K H b ys → ys[i]? = some v,
    fun i H => ∃ xs ys, SqL K H a xs ∧ SqL K H b ys ∧ (xs.length ≤ i ∨ ys.length ≤ i)⟩
theorem turn_zip {P : Program} {w : World} {K : PySem.W.Frag} {es : List Expr} {kk : Nat} {pt : Pos} {z TI TO i1 i2 a b : Addr} (D : ZipApart z TI TO i1 i2 a b) :
    Turn P w K (.Tuple es kk pt) (Itz K a b) [z, TI, TO, i1, i2] z (fun i h => IsZip h z TI TO .none ∧ IsPair h TI (.ref i1) (.ref i2) ∧ (∃ u v, IsPair h TO u v) ∧ h.IsListIter i1 a i ∧ h.IsListIter i2 b i) where
  mem := by simp
  obj := fun i h st c hc => by
    obtain ⟨hz, hTI, ⟨u, v, hTO⟩, ⟨o1, h1, c1, d1⟩, ⟨o2, h2, c2, d2⟩⟩ := st
    simp only [List.mem_cons, List.not_mem_nil, or_false] at hc
    rcases hc with q | q | q | q | q <;> subst q
    · exact ⟨_, hz, fun v q => by cases q⟩
    · exact ⟨_, hTI, fun v q => by cases q⟩
    · exact ⟨_, hTO, fun v q => by cases q⟩
    · exact ⟨o1, h1, fun v q => by rw [d1] at q; cases q⟩
    · exact ⟨o2, h2, fun v q => by rw [d2] at q; cases q⟩
  keep := fun i h h' st kk => by
    obtain ⟨hz, hTI, ⟨u, v, hTO⟩, ⟨o1, h1, c1⟩, ⟨o2, h2, c2⟩⟩ := st
    exact ⟨kk z (by simp) _ hz, kk TI (by simp) _ hTI, ⟨u, v, kk TO (by simp) _ hTO⟩, ⟨o1, kk i1 (by simp) _ h1, c1⟩, ⟨o2, kk i2 (by simp) _ h2, c2⟩⟩
  item := by
    intro X hP hw hK hc i pins s σ H E I hf st hg
    subst hP hw hK
    obtain ⟨xs, ys, x, y, hqa, hqb, hx, hy⟩ := hg
    obtain ⟨its, rv, p, hz1⟩ := I.list hqa
    obtain ⟨u, hu, ru⟩ := rv.get hx
    obtain ⟨its2, rv2, p2, hz2⟩ := I.list hqb
    obtain ⟨v, hv, rv'⟩ := rv2.get hy
    obtain ⟨hz, hTI, ⟨u0, v0, hTO⟩, hi1, hi2⟩ := st
    refine wpAny_pyNext_zip_item D hz hTI hTO hi1 hi2 p.isList p2.isList (x := u) (y := v) (by simpa using hu) (by simpa using hv) fun h' a1 a2 a3 a4 a5 a6 kp => ⟨_, rfl, ?_⟩
    refine wpAny_letOwnedTupleGo_zip a1 fun g2 hz2' sb => ?_
    have lz : z < s.heap.objs.size := Heap.lt_size hz
    have lTI : TI < s.heap.objs.size := Heap.lt_size hTI
    have lTO : TO < s.heap.objs.size := Heap.lt_size hTO
    have l1 : i1 < s.heap.objs.size := by obtain ⟨o, ho, _⟩ := hi1; exact Heap.lt_size ho
    have l2 : i2 < s.heap.objs.size := by obtain ⟨o, ho, _⟩ := hi2; exact Heap.lt_size ho
    have nT : H s.heap.objs.size = none := I.fresh
    have tt2 : g2.get? s.heap.objs.size = some { cls := .type "tuple", data := .seq #[u, v] } := (sb.2 _ (Nat.ne_of_gt lz)).trans a5
    have I1 : Inv X pins σ (upd H s.heap.objs.size (.tup [x, y])) { s with heap := g2, toks := s.toks } := by
      refine I.turnedNew (t' := s.toks) (ch := [z, TI, TO, i1, i2]) (fun c o hb q => ?_) hf (Nat.le_refl _) ⟨?_, [u, v], .cons ru (.cons rv' .nil), ⟨_, tt2, rfl, 0, rfl⟩⟩
      · simp only [List.mem_cons, List.not_mem_nil, or_false, not_or] at hb
        exact (sb.2 c hb.1).trans (kp c o hb.1 hb.2.2.1 hb.2.2.2.1 hb.2.2.2.2 q)
      · show 2 ≤ sizeLine
        decide
    refine ⟨.ref s.heap.objs.size, _, I1, rfl, ⟨_, x, y, rfl, nT, rfl, fun zs hy' => ?_, fun zs hy' => ?_⟩, ⟨hz2', ?_, ⟨u, v, ?_⟩, ?_, ?_⟩, fun c hb => ?_⟩
    · rw [I.list_inj hy' hqa]
      exact hx
    · rw [I.list_inj hy' hqb]
      exact hy
    · exact (sb.2 TI D.TIz).trans (kp TI _ D.TIz D.TITO D.TIi1 D.TIi2 hTI)
    · exact (sb.2 TO D.TOz).trans a2
    · obtain ⟨o, ho, r⟩ := a3
      exact ⟨o, (sb.2 i1 D.i1z).trans ho, r⟩
    · obtain ⟨o, ho, r⟩ := a4
      exact ⟨o, (sb.2 i2 D.i2z).trans ho, r⟩
    · have hb' := (hf c hb).1
      simp only [List.mem_cons, List.not_mem_nil, or_false] at hb
      rcases hb with q | q | q | q | q <;> subst q
      · rw [upd_ne (Nat.ne_of_lt lz)]; exact hb'
      · rw [upd_ne (Nat.ne_of_lt lTI)]; exact hb'
      · rw [upd_ne (Nat.ne_of_lt lTO)]; exact hb'
      · rw [upd_ne (Nat.ne_of_lt l1)]; exact hb'
      · rw [upd_ne (Nat.ne_of_lt l2)]; exact hb'
  done := by
    intro X hP hw hK hc i pins s σ H E I hf st hg
    subst hP hw hK
    obtain ⟨xs, ys, hqa, hqb, hend⟩ := hg
    obtain ⟨its, rv, p, hz1⟩ := I.list hqa
    obtain ⟨its2, rv2, p2, hz2⟩ := I.list hqb
    obtain ⟨hz, hTI, ⟨u0, v0, hTO⟩, hi1, hi2⟩ := st
    have l1 := rv.length
    have l2 := rv2.length
    refine wpAny_pyNext_zip_end (I.ok.hd hc) D hz hTI hTO hi1 hi2 p.isList p2.isList ?_ fun h' kp => ⟨rfl, I.turnedL (t' := s.toks) (ch := [z, TI, TO, i1, i2]) (fun c o hb q => ?_) hf⟩
    · rcases hend with q | q
      · exact .inl (by simp; omega)
      · exact .inr (by simp; omega)
    · simp only [List.mem_cons, List.not_mem_nil, or_false, not_or] at hb
      exact kp c o hb.1 hb.2.2.1 hb.2.2.2.1 hb.2.2.2.2 q
  self := fun _ _ _ _ _ st h => wpAny_pyIter_zip st.1 h
section
variable {X : Cx} {es : List Expr} {kk : Nat} {pt : Pos}
def iZip (K : PySem.W.Frag) (ta : TA) : TI := fun σ H R => ta σ H fun vs H1 => ∃ a b, vs = [.ref a, .ref b] ∧ (∃ xs, SqL K H1 a xs) ∧ (∃ ys, SqL K H1 b ys) ∧ R (Itz K a b) H1
theorem pi_zip {l m : Expr} {ta : TA} {p pos : Pos} (hg : Gl X "zip") (hm : X.mg "zip" = none) (ha : PA X [l, m] ta) (hs : starEach [l, m] X.env = [(false, eval l X.env), (false, eval m X.env)] := by rfl) (hs2 : starEach [m] X.env = [(false, eval m X.env)] := by rfl) :
    PI X (.Tuple es kk pt) (.Call (.Name "zip" p) [l, m] [] pos) (iZip X.K ta) := by
  intro pins s σ H R I h
  refine Call_ (ld_blt I hg hm PyProof.Rows.boot_zip (PyProof.Rows.callWith_type1 (thn (ha pos pins s σ H _ I h) fun us s1 ⟨vs, H1, I1, r1, q1⟩ => ?_) (by rw [hs, hs2]) (by rw [hs2]; rfl)))
  obtain ⟨a, b, e1, ⟨xs, hqa⟩, ⟨ys, hqb⟩, q⟩ := q1
  subst e1
  obtain ⟨u, v, e1, r3, r4⟩ := vals2 r1
  subst e1
  obtain rfl : u = Value.ref a := r3
  obtain rfl : v = Value.ref b := r4
  obtain ⟨its, rv, pl, hz⟩ := I1.list hqa
  obtain ⟨its2, rv2, pl2, hz2⟩ := I1.list hqb
  have la : a < s1.heap.objs.size := by obtain ⟨o, ho, _⟩ := pl.isList; exact Heap.lt_size ho
  have lb : b < s1.heap.objs.size := by obtain ⟨o, ho, _⟩ := pl2.isList; exact Heap.lt_size ho
  refine call_zip_2 pl.isList pl2.isList fun h' hz hTI hTO hi1 hi2 hsz kp => ?_
  have I3 : Inv X pins σ H1 { s1 with heap := h' } := I1.kept (t' := s1.toks) kp
  refine wpAny_pyIter_zip hz ⟨s1.heap.objs.size + 4, [s1.heap.objs.size + 4, s1.heap.objs.size + 2, s1.heap.objs.size + 3, s1.heap.objs.size, s1.heap.objs.size + 1], _, _, H1, rfl, I3, turn_zip (zipApart_new la lb), ⟨hz, hTI, ⟨_, _, hTO⟩, hi1, hi2⟩, fun c hb => ?_, q⟩
  have ge : s1.heap.objs.size ≤ c := by
    simp only [List.mem_cons, List.not_mem_nil, or_false] at hb
    rcases hb with q | q | q | q | q <;> rw [q]
    · exact Nat.le_add_right _ _
    · exact Nat.le_add_right _ _
    · exact Nat.le_add_right _ _
    · exact Nat.le_refl _
    · exact Nat.le_add_right _ _
  exact I1.fpOk ge (I1.hok.fresh ge)
end
end L2
namespace L2
open PySem PySem.Spec PyProof.Rows
abbrev Cx.i1 (X : Cx) : Cx := { X with A := X.A.in1, xe := fun _ _ => False }
theorem Inv.i1 {X : Cx} {pins : List (Addr × Obj)} {σ : St} {H : Hp} {s : Shared} (I : Inv X pins σ H s) : Inv X.i1 pins σ H s :=
  ⟨⟨I.ok.mod, I.ok.kind, I.ok.glob, I.ok.blt, I.ok.above, I.ok.inj, I.ok.has, I.ok.cab, I.ok.hd, I.ok.frames, I.ok.stk, I.ok.exf, I.ok.bs, I.ok.bsz, I.ok.noex, I.ok.exfs, I.ok.funs, I.ok.frf⟩, I.os, I.bare, I.base, I.loc, I.cell, I.free, I.freeC, I.pin, I.hok, I.len⟩
theorem Inv.o1 {X : Cx} {pins : List (Addr × Obj)} {σ : St} {H : Hp} {s : Shared} (I : Inv X.i1 pins σ H s) (hd : X.calm = true → X.A.handled = none) (hf : X.A.frames = some X.stack) : Inv X pins σ H s :=
  ⟨⟨I.ok.mod, I.ok.kind, I.ok.glob, I.ok.blt, I.ok.above, I.ok.inj, I.ok.has, I.ok.cab, hd, hf, I.ok.stk, I.ok.exf, I.ok.bs, I.ok.bsz, I.ok.noex, I.ok.exfs, I.ok.funs, I.ok.frf⟩, I.os, I.bare, I.base, I.loc, I.cell, I.free, I.freeC, I.pin, I.hok, I.len⟩
section
variable {M : Model} {A : Around} {E : Value → Shared → Prop} {s : Shared} {env : Env}
theorem callWith_bK {pos : Pos} {T : String} {e : Expr} {rest : List Expr} {kws : List Keyword} {Q : Value → Shared → Prop}
    (h : wpAny M A (spliced (backTo pos (starEach (e :: rest) env))) (fun vs s1 => wpAny M A (evalAll ((backToKw pos (keywordEach kws env)).map (·.2)))
      (fun kvs s2 => wpAny M A (call (.builtin T) vs (((backToKw pos (keywordEach kws env)).filterMap (·.1)).zip kvs)) Q E s2) E s1) E s)
    (he : backTo pos (starEach (e :: rest) env) = (false, eval e env) :: backTo pos (starEach rest env) := by rfl) (hpl : (backTo pos (starEach (e :: rest) env)).any (·.1) = false := by rfl)
    (hall : (backToKw pos (keywordEach kws env)).all (·.1.isSome) = true := by rfl) (hkw : (backToKw pos (keywordEach kws env)).any (·.1.isNone) = false := by rfl) :
    wpAny M A (callWith pos (.builtin T) [] (backTo pos (starEach (e :: rest) env)) (backToKw pos (keywordEach kws env))) Q E s := by
  have h2 : wpAny M A (evalArgs (.builtin T) true (backTo pos (starEach (e :: rest) env)) (backToKw pos (keywordEach kws env))) (fun a s1 => wpAny M A (call (.builtin T) ([] ++ a.pos) a.kw) Q E s1) E s := by
    rw [he] at h ⊢
    exact evalArgs_kwB hall h
  unfold callWith
  refine wpAny_bind (wpAny_holding (wpAny_mono h2 (fun a s1 h1 => wpAny_bind (wpAny_standAt ?_)) fun _ _ z => z))
  simp only [hpl, hkw, Bool.or_false]
  exact wpAny_bind (wpAny_pure (wpAny_bind (wpAny_mono h1 (fun r s2 hr => wpAny_bind (wpAny_holding (wpAny_point (wpAny_pure hr)))) fun _ _ z => z)))
end
theorem argBest_T {bt : Nat → Nat → Bool} {k : Nat} (h : bt (k + 1) (argBest bt k) = true) : argBest bt (k + 1) = k + 1 := by simp only [argBest, h, if_true]
theorem argBest_F {bt : Nat → Nat → Bool} {k : Nat} (h : bt (k + 1) (argBest bt k) = false) : argBest bt (k + 1) = argBest bt k := by simp only [argBest, h, Bool.false_eq_true, if_false]
def KeyOk (sp : Sp) (H : Hp) (as : List Addr) (kf : Nat → Int) : Prop := ∀ (i : Nat) (a : Addr) (H' : Hp) (Q : VK), as[i]? = some a → Same H H' → (∀ H'', Same H' H'' → Q (.int (kf i)) H'') → sp [.ref a] H' Q E0
theorem same_none {H H' : Hp} {b : Addr} (s : Same H H') (h : H' b = none) : H b = none := by
  cases e : H b with
  | none => rfl
  | some u => rw [s b u e] at h; cases h
section
variable {X : Cx} {pins : List (Addr × Obj)} {σ : St}
theorem maxK_loop {k : Nat} {f : Addr} {fd : FuncData} {p0 : Str} {sp : Sp} {H : Hp} {l it Z : Addr} {as : List Addr} {kf : Nat → Int} {R : Result → Shared → Prop}
    (G : FnOk X.prog X.w X.K X.mg X.base CX0 k f fd [p0] sp) (hr : Room (k + 1) X.A) (hb : Binds X.K fd [p0] []) (hc : X.calm = true) (hS : SqL X.K H l (as.map V.ref)) (hk : KeyOk sp H as kf) (hne : it ≠ Z) :
    ∀ (m j : Nat) (s : Shared) (H1 : Hp) (vb vk : Value) (c : Nat), as.length - (j + 1) = m → j + 1 ≤ as.length → Inv X pins σ H1 s → Same H H1 → (∀ b ∈ [it, Z], FpOk X pins H1 b) → s.heap.IsListIter it l (j + 1) →
      s.heap.get? Z = some { cls := .type "list", dict := none, data := .seq #[vb, vk] c, slots := #[] } → (∃ a, as[argBest (fun i j => decide (kf i > kf j)) j]? = some a ∧ vb = .ref a) → (∃ t, vk = .int (kf (argBest (fun i j => decide (kf i > kf j)) j)) t) →
      (∀ a s' H', Inv X pins σ H' s' → Same H H' → as[argBest (fun i j => decide (kf i > kf j)) (as.length - 1)]? = some a → R (.ok (.ret (.ref a))) s') → codeAny (model X.prog X.w) X.A (.builtin "max.loop" ⟨[.ref it, .ref f, .ref Z], [("default", .none)]⟩) R s := by
  have nm : (toString "max" ++ toString ".loop" : String) = "max.loop" := by decide
  have T := turn_list (P := X.prog) (w := X.w) (K := X.K) (tg := .Name "" ⟨0, 0, 0, 0⟩) l it
  intro m
  induction m with
  | zero =>
    intro j s H1 vb vk c e1 e2 I s1 fp hit z0 hvb hvk fin
    have en : j + 1 = as.length := by omega
    refine codeAny_builtin PySem.F.entry_max_loop ?_
    rw [Around.under_plainId PySem.F.plain_max_loop _]
    show wpAny _ X.A.in1 (seqItems? (.ref Z) >>= _) _ _ s
    refine wpAny_bind (wpAny_seqItems z0 rfl ?_)
    show wpAny _ X.A.in1 (tryCatch (pyNext (.ref it)) _ >>= _) _ _ s
    obtain ⟨its, rv, pl, hz⟩ := I.list (s1.seq hS)
    have hl := rv.length
    rw [List.length_map] at hl
    refine wpAny_bind (wpAny_tryCatch (wpAny_pyNext_list_end (show X.A.in1.handled = none from I.ok.hd hc) hit pl.isList (by simp; omega) fun h' eb => ?_))
    have I1 : Inv X pins σ H1 { s with heap := h' } := I.turnedL (t' := s.toks) (ch := [it, Z]) (fun b o hb e => eb b o (fun q => hb (by simp [q])) e) fp
    have z1 := eb Z _ (Ne.symm hne) z0
    show wpAny _ X.A.in1 (updateSeq Z (fun _ => #[]) >>= _) _ _ _
    refine wpAny_bind (wpAny_updateSeq z1 rfl (wpAny_bind (wpAny_letGo (wpAny_pure ?_))))
    obtain ⟨a, ha, rfl⟩ := hvb
    refine fin a _ H1 (I1.turnedL (t' := s.toks) (ch := [it, Z]) (fun b o hb e => (Heap.get?_update_other _ _ (fun q => hb (by simp [q]))).trans e) fp) s1 ?_
    have e3 : as.length - 1 = j := by omega
    rw [e3]
    exact ha
  | succ m ih =>
    intro j s H1 vb vk c e1 e2 I s1 fp hit z0 hvb hvk fin
    have lt : j + 1 < as.length := by omega
    refine codeAny_builtin PySem.F.entry_max_loop ?_
    rw [Around.under_plainId PySem.F.plain_max_loop _]
    show wpAny _ X.A.in1 (seqItems? (.ref Z) >>= _) _ _ s
    refine wpAny_bind (wpAny_seqItems z0 rfl ?_)
    show wpAny _ X.A.in1 (tryCatch (pyNext (.ref it)) _ >>= _) _ _ s
    obtain ⟨its, rv, pl, hz⟩ := I.list (s1.seq hS)
    have ha : as[j + 1]? = some as[j + 1] := by simp [lt]
    obtain ⟨u, hu, ru⟩ := rv.get (i := j + 1) (x := V.ref as[j + 1]) (by rw [List.getElem?_map, ha]; rfl)
    obtain rfl : u = Value.ref as[j + 1] := ru
    refine wpAny_bind (wpAny_tryCatch (wpAny_pyNext_list_item hit pl.isList (x := .ref as[j + 1]) (by simpa using hu) fun h' hit' sb => ?_))
    have I1 : Inv X pins σ H1 { s with heap := h' } := I.turnedL (t' := s.toks) (ch := [it, Z]) (fun b o hb e => (sb.2 b (fun q => hb (by simp [q]))).trans e) fp
    have z1 := (sb.2 Z (Ne.symm hne)).trans z0
    show wpAny _ X.A.in1 (tryCatch (holding [.ref as[j + 1]] (call (.ref f) [.ref as[j + 1]])) _ >>= _) _ _ _
    obtain ⟨oi, hoi, ci, di⟩ := id hit'
    have ob : ∀ b ∈ [it, Z], ∃ o, h'.get? b = some o ∧ ∀ v, o.data ≠ .cell v := fun b hb => by
      simp only [List.mem_cons, List.not_mem_nil, or_false] at hb
      rcases hb with q | q <;> subst q
      · exact ⟨oi, hoi, fun v q => by rw [di] at q; cases q⟩
      · exact ⟨_, z1, fun v q => by cases q⟩
    have Ip := I1.pinned fp ob
    refine wpAny_bind (wpAny_tryCatch (wpAny_holding (wpAny_mono (run_fn (X := X.i1) (us := [.ref as[j + 1]]) (vs := [.ref as[j + 1]]) (Q := fun v H2 => v = .int (kf (j + 1)) ∧ Same H1 H2) (E := E0) G hr.in1 hb .nil pass0 Ip.i1 (.cons rfl .nil) (hk (j + 1) _ H1 _ ha s1 fun H2 s2 => ⟨rfl, s2⟩)) (fun v s2 hq => ?_) fun _ _ z => z.elim)))
    obtain ⟨y, H2, I2', ry, ey, s2'⟩ := hq
    subst ey
    obtain ⟨t, rfl⟩ := ry
    have I2 : Inv X (pins ++ pinsAt [it, Z] h') σ H2 s2 := I2'.o1 I.ok.hd I.ok.frames
    have pin : ∀ b o, b ∈ [it, Z] → h'.get? b = some o → s2.heap.get? b = some o ∧ H2 b = none := fun b o hb e => by
      have z := I2.pin (b, o) (List.mem_append_right _ (List.mem_append_right _ (mem_pinsAt hb e)))
      exact ⟨z.1, z.2.1⟩
    have z2 := (pin Z _ (by simp) z1).1
    have hit2 : s2.heap.IsListIter it l (j + 1 + 1) := ⟨oi, (pin it _ (by simp) hoi).1, ci, di⟩
    have fp2 : ∀ b ∈ [it, Z], FpOk X pins H2 b := fun b hb => by
      obtain ⟨o, e, _⟩ := ob b hb
      exact ⟨(pin b o hb e).2, (fp b hb).2⟩
    have I3 : Inv X pins σ H2 s2 := I2.unpinned
    have s3 : Same H H2 := Same.trans s1 s2'
    obtain ⟨tb, rfl⟩ := hvk
    show wpAny _ X.A.in1 (tryCatch (holding [.ref as[j + 1], .int (kf (j + 1)) t] (richCompare .Gt (.int (kf (j + 1)) t) (.int (kf (argBest (fun i j => decide (kf i > kf j)) j)) tb) >>= _)) _ >>= _) _ _ _
    refine wpAny_bind (wpAny_tryCatch (wpAny_holding (wpAny_bind (gt_int ?_))))
    refine wpAny_bind (wpAny_holding (wpAny_truthy_bool (wpAny_bind (wpAny_letGo (wpAny_pure ?_)))))
    cases hbt : decide (kf (j + 1) > kf (argBest (fun i j => decide (kf i > kf j)) j)) with
    | true =>
      simp only [if_true]
      refine wpAny_bind (wpAny_updateSeq z2 rfl (wpAny_bind (wpAny_letGo ?_)))
      rw [nm]
      have ek : argBest (fun i j => decide (kf i > kf j)) (j + 1) = j + 1 := argBest_T hbt
      refine wpAny_pure ⟨plainId_quiet PySem.F.plain_max_loop _, ih (j + 1) _ H2 _ _ _ (by omega) lt (I3.turnedL (t' := s2.toks) (ch := [it, Z]) (fun b o hb e => (Heap.get?_update_other _ _ (fun q => hb (by simp [q]))).trans e) fp2) s3 fp2
        ⟨oi, (Heap.get?_update_other _ _ (Ne.symm hne)).trans (pin it _ (by simp) hoi).1, ci, di⟩ (Heap.get?_update_self _ z2 rfl) ⟨_, by rw [ek]; exact ha, rfl⟩ ⟨t, by rw [ek]⟩ fin⟩
    | false =>
      simp only [Bool.false_eq_true, if_false]
      refine wpAny_bind (wpAny_letGo ?_)
      rw [nm]
      have ek : argBest (fun i j => decide (kf i > kf j)) (j + 1) = argBest (fun i j => decide (kf i > kf j)) j := argBest_F hbt
      refine wpAny_pure ⟨plainId_quiet PySem.F.plain_max_loop _, ih (j + 1) _ H2 _ _ _ (by omega) lt I3 s3 fp2 hit2 z2 (by rw [ek]; exact hvb) ⟨tb, by rw [ek]⟩ fin⟩
def rmaxK (K : PySem.W.Frag) (f : Addr) (sp : Sp) : List V → List V → Hp → VK → Prop := fun xs ws H Q => ∃ (l : Addr) (as : List Addr) (kf : Nat → Int), xs = [.ref l] ∧ ws = [.ref f, .non] ∧ SqL K H l (as.map V.ref) ∧ KeyOk sp H as kf ∧
  (as = [] → ∀ H', Same H H' → Q .non H') ∧ ∀ a H', as[argBest (fun i j => decide (kf i > kf j)) (as.length - 1)]? = some a → Same H H' → Q (.ref a) H'
set_option maxHeartbeats 1000000 in
theorem args_maxK (a b : Value) : argsOk "max" ⟨[a], [(Str.ofString "key", b), (Str.ofString "default", .none)]⟩ := by unfold argsOk; kernel_rfl
set_option maxHeartbeats 1000000 in
theorem call_maxK {k : Nat} {f : Addr} {fd : FuncData} {p0 : Str} {sp : Sp} (G : FnOk X.prog X.w X.K X.mg X.base CX0 k f fd [p0] sp) (hr : Room (k + 1) X.A) (hb : Binds X.K fd [p0] []) (hc : X.calm = true)
    {s : Shared} {H : Hp} {xs ws : List V} {us ks : List Value} {Q : VK} (I : Inv X pins σ H s) (r : Vals xs us) (r2 : Vals ws ks) (h : rmaxK X.K f sp xs ws H Q) :
    wpAny (model X.prog X.w) X.A (call (.builtin "max") us ([Str.ofString "key", Str.ofString "default"].zip ks)) (EP X pins σ Q) X.xe s := by
  obtain ⟨l, as, kf, e1, e2, hS, hk, q0, q1⟩ := h
  subst e1 e2
  obtain ⟨u, rfl, ru⟩ := vals1 r
  obtain rfl : u = Value.ref l := ru
  obtain ⟨v1, v2, rfl, rf, rn⟩ := vals2 r2
  obtain rfl : v1 = Value.ref f := rf
  obtain rfl : v2 = Value.none := rn
  have nm : (toString "max" ++ toString ".loop" : String) = "max.loop" := by decide
  refine PyProof.Rows.kmk_tree PySem.F.kind_max PySem.F.plain_max PySem.F.entry_max (args_maxK _ _) ?_
  show wpAny _ X.A.in1 (Builtin.Builtins.bindParams "max" ["key", "default"] 0 ⟨[], [(Str.ofString "key", .ref f), (Str.ofString "default", .none)]⟩ >>= _) _ _ s
  refine wpAny_bind (wpAny_of_eq (show Builtin.Builtins.bindParams "max" ["key", "default"] 0 ⟨[], [(Str.ofString "key", .ref f), (Str.ofString "default", .none)]⟩ = pure [some (.ref f), some .none] from rfl) ?_)
  refine wpAny_bind (wpAny_pure ?_)
  obtain ⟨its, rv, pl, hz⟩ := I.list hS
  have hlen := rv.length
  rw [List.length_map] at hlen
  have ll : l < s.heap.objs.size := by obtain ⟨o, ho, _⟩ := pl.isList; exact Heap.lt_size ho
  refine wpAny_bind (wpAny_pyIter_list pl.isList ?_)
  refine wpAny_bind (wpAny_newList ?_ (Nat.zero_le _))
  rw [nm]
  generalize hh1 : s.heap.push { cls := .type "list_iterator", data := .fields #[.ref l, .int 0 0] } = h1
  have sz1 : h1.objs.size = s.heap.objs.size + 1 := by rw [← hh1]; exact Heap.size_push ..
  generalize hh2 : h1.push { cls := .type "list", dict := none, data := .seq (([] : List Value).toArray) 0 } = h2
  have k1 : ∀ b o, s.heap.get? b = some o → h2.get? b = some o := fun b o e => by rw [← hh2, ← hh1]; exact Heap.get?_push_of_some _ (Heap.get?_push_of_some _ e)
  have gI : h2.get? s.heap.objs.size = some { cls := .type "list_iterator", data := .fields #[.ref l, .int 0 0] } := by rw [← hh2, ← hh1]; exact Heap.get?_push_of_some _ (Heap.get?_push_size _ rfl)
  have gZ : h2.get? h1.objs.size = some { cls := .type "list", dict := none, data := .seq #[] 0, slots := #[] } := by rw [← hh2]; exact Heap.get?_push_size _ rfl
  have I1 : Inv X pins σ H { s with heap := h2 } := I.kept (t' := s.toks) k1
  have hne : s.heap.objs.size ≠ h1.objs.size := by rw [sz1]; exact Nat.ne_of_lt (Nat.lt_succ_self _)
  have fp : ∀ b ∈ [s.heap.objs.size, h1.objs.size], FpOk X pins H b := fun b hb => by
    have ge : s.heap.objs.size ≤ b := by
      simp only [List.mem_cons, List.not_mem_nil, or_false] at hb
      rcases hb with q | q <;> rw [q]
      · exact Nat.le_refl _
      · rw [sz1]; exact Nat.le_succ _
    exact I.fpOk ge (I.hok.fresh ge)
  refine wpAny_pure ⟨plainId_quiet PySem.F.plain_max_loop _, ?_⟩
  generalize s.heap.objs.size = it at *
  generalize h1.objs.size = Z at *
  have hit : h2.IsListIter it l 0 := ⟨_, gI, rfl, rfl⟩
  refine codeAny_builtin PySem.F.entry_max_loop ?_
  rw [Around.under_plainId PySem.F.plain_max_loop _]
  show wpAny _ X.A.in1 (seqItems? (.ref Z) >>= _) _ _ _
  refine wpAny_bind (wpAny_seqItems gZ rfl ?_)
  show wpAny _ X.A.in1 (tryCatch (pyNext (.ref it)) _ >>= _) _ _ _
  have pl1 : h2.IsList l its.toArray := pl.isList.at fun o e => k1 l o e
  by_cases h0 : as = []
  · subst h0
    have e0 : its = [] := List.length_eq_zero_iff.mp (by simpa using hlen.symm)
    subst e0
    refine wpAny_bind (wpAny_tryCatch (wpAny_pyNext_list_end (show X.A.in1.handled = none from I.ok.hd hc) hit pl1 (by simp) fun h' eb => ?_))
    have I2 : Inv X pins σ H { s with heap := h' } := Inv.turnedL (s := { s with heap := h2 }) (h' := h') (t' := s.toks) (ch := [it, Z]) I1 (fun b o hb e => eb b o (fun q => hb (by simp [q])) e) fp
    refine wpAny_bind (wpAny_rule (wpAny_pure ?_))
    exact ⟨.non, H, I2, rfl, q0 rfl H (Same.refl H)⟩
  · have lt : 0 < as.length := List.length_pos_iff.mpr h0
    have ha : as[0]? = some as[0] := by simp [lt]
    obtain ⟨u, hu, ru⟩ := rv.get (i := 0) (x := V.ref as[0]) (by rw [List.getElem?_map, ha]; rfl)
    obtain rfl : u = Value.ref as[0] := ru
    refine wpAny_bind (wpAny_tryCatch (wpAny_pyNext_list_item hit pl1 (x := .ref as[0]) (by simpa using hu) fun h' hit' sb => ?_))
    have I2 : Inv X pins σ H { s with heap := h' } := Inv.turnedL (s := { s with heap := h2 }) (h' := h') (t' := s.toks) (ch := [it, Z]) I1 (fun b o hb e => (sb.2 b (fun q => hb (by simp [q]))).trans e) fp
    have z1 := (sb.2 Z (Ne.symm hne)).trans gZ
    show wpAny _ X.A.in1 (tryCatch (holding [.ref as[0]] (call (.ref f) [.ref as[0]])) _ >>= _) _ _ _
    obtain ⟨oi, hoi, ci, di⟩ := id hit'
    have ob : ∀ b ∈ [it, Z], ∃ o, h'.get? b = some o ∧ ∀ v, o.data ≠ .cell v := fun b hb => by
      simp only [List.mem_cons, List.not_mem_nil, or_false] at hb
      rcases hb with q | q <;> subst q
      · exact ⟨oi, hoi, fun v q => by rw [di] at q; cases q⟩
      · exact ⟨_, z1, fun v q => by cases q⟩
    have Ip := I2.pinned fp ob
    refine wpAny_bind (wpAny_tryCatch (wpAny_holding (wpAny_mono (run_fn (X := X.i1) (us := [.ref as[0]]) (vs := [.ref as[0]]) (Q := fun v H2 => v = .int (kf 0) ∧ Same H H2) (E := E0) G hr.in1 hb .nil pass0 Ip.i1 (.cons rfl .nil) (hk 0 _ H _ ha (Same.refl H) fun H2 s2 => ⟨rfl, s2⟩)) (fun v s2 hq => ?_) fun _ _ z => z.elim)))
    obtain ⟨y, H2, I2', ry, ey, s2'⟩ := hq
    subst ey
    obtain ⟨t, rfl⟩ := ry
    have I3' : Inv X (pins ++ pinsAt [it, Z] h') σ H2 s2 := I2'.o1 I.ok.hd I.ok.frames
    have pin : ∀ b o, b ∈ [it, Z] → h'.get? b = some o → s2.heap.get? b = some o ∧ H2 b = none := fun b o hb e => by
      have z := I3'.pin (b, o) (List.mem_append_right _ (List.mem_append_right _ (mem_pinsAt hb e)))
      exact ⟨z.1, z.2.1⟩
    have z2 := (pin Z _ (by simp) z1).1
    have fp2 : ∀ b ∈ [it, Z], FpOk X pins H2 b := fun b hb => by
      obtain ⟨o, e, _⟩ := ob b hb
      exact ⟨(pin b o hb e).2, (fp b hb).2⟩
    have I3 : Inv X pins σ H2 s2 := I3'.unpinned
    show wpAny _ X.A.in1 (updateSeq Z (fun _ => #[.ref as[0], .int (kf 0) t]) >>= _) _ _ _
    refine wpAny_bind (wpAny_updateSeq z2 rfl ?_)
    rw [nm]
    refine wpAny_pure ⟨plainId_quiet PySem.F.plain_max_loop _, ?_⟩
    exact maxK_loop (it := it) (Z := Z) (l := l) (as := as) (kf := kf) (H := H) G hr hb hc hS hk hne (as.length - (0 + 1)) 0 _ H2 _ _ _ rfl lt (I3.turnedL (t' := s2.toks) (ch := [it, Z]) (fun b o hb e => (Heap.get?_update_other _ _ (fun q => hb (by simp [q]))).trans e) fp2) s2' fp2
      ⟨oi, (Heap.get?_update_other _ _ (Ne.symm hne)).trans (pin it _ (by simp) hoi).1, ci, di⟩ (Heap.get?_update_self _ z2 rfl) ⟨_, ha, rfl⟩ ⟨t, rfl⟩ fun a s' H' I' s'' e => ⟨.ref a, H', I', rfl, q1 a H' e s''⟩
end
section
variable {X : Cx}
def tmaxK (K : PySem.W.Frag) (f : Addr) (sp : Sp) (ta tk : TA) : TE := fun σ H Q => ta σ H fun vs H1 => tk σ H1 fun ws H2 => rmaxK K f sp vs ws H2 Q
theorem pe_maxK {k : Nat} {f : Addr} {fd : FuncData} {p0 : Str} {sp : Sp} {l : Expr} {kws : List Keyword} {ta tk : TA} {p pos : Pos} (G : FnOk X.prog X.w X.K X.mg X.base CX0 k f fd [p0] sp) (hr : Room (k + 1) X.A) (hb : Binds X.K fd [p0] []) (hc : X.calm = true)
    (hg : Gl X "max") (hm : X.mg "max" = none) (ha : PA X [l] ta) (hk : PK X kws tk) (hks : (backToKw pos (keywordEach kws X.env)).filterMap (·.1) = [Str.ofString "key", Str.ofString "default"] := by rfl)
    (he : backTo pos (starEach [l] X.env) = (false, eval l X.env) :: backTo pos (starEach [] X.env) := by rfl) (hpl : (backTo pos (starEach [l] X.env)).any (·.1) = false := by rfl)
    (hall : (backToKw pos (keywordEach kws X.env)).all (·.1.isSome) = true := by rfl) (hkw : (backToKw pos (keywordEach kws X.env)).any (·.1.isNone) = false := by rfl) :
    PE X (.Call (.Name "max" p) [l] kws pos) (tmaxK X.K f sp ta tk) := by
  intro pins s σ H Q I h
  refine wpAny_Call_Name_kw (ld_blt I hg hm PyProof.Rows.boot_max (callWith_bK (thn (ha pos pins s σ H _ I h) fun us s1 ⟨vs, H1, I1, r1, q1⟩ => thn (hk pos pins s1 σ H1 _ I1 q1) fun ks s2 ⟨ws, H2, I2, r2, q2⟩ => ?_) he hpl hall hkw))
  rw [hks]
  exact call_maxK G hr hb hc I2 r1 r2 q2
end
section
variable {X : Cx} {pins : List (Addr × Obj)} {σ : St}
theorem minK_loop {k : Nat} {f : Addr} {fd : FuncData} {p0 : Str} {sp : Sp} {H : Hp} {l it Z : Addr} {as : List Addr} {kf : Nat → Int} {R : Result → Shared → Prop}
    (G : FnOk X.prog X.w X.K X.mg X.base CX0 k f fd [p0] sp) (hr : Room (k + 1) X.A) (hb : Binds X.K fd [p0] []) (hc : X.calm = true) (hS : SqL X.K H l (as.map V.ref)) (hk : KeyOk sp H as kf) (hne : it ≠ Z) :
    ∀ (m j : Nat) (s : Shared) (H1 : Hp) (vb vk : Value) (c : Nat), as.length - (j + 1) = m → j + 1 ≤ as.length → Inv X pins σ H1 s → Same H H1 → (∀ b ∈ [it, Z], FpOk X pins H1 b) → s.heap.IsListIter it l (j + 1) →
      s.heap.get? Z = some { cls := .type "list", dict := none, data := .seq #[vb, vk] c, slots := #[] } → (∃ a, as[argBest (fun i j => decide (kf i < kf j)) j]? = some a ∧ vb = .ref a) → (∃ t, vk = .int (kf (argBest (fun i j => decide (kf i < kf j)) j)) t) →
      (∀ a s' H', Inv X pins σ H' s' → Same H H' → as[argBest (fun i j => decide (kf i < kf j)) (as.length - 1)]? = some a → R (.ok (.ret (.ref a))) s') → codeAny (model X.prog X.w) X.A (.builtin "min.loop" ⟨[.ref it, .ref f, .ref Z], [("default", .none)]⟩) R s := by
  have nm : (toString "min" ++ toString ".loop" : String) = "min.loop" := by decide
  have T := turn_list (P := X.prog) (w := X.w) (K := X.K) (tg := .Name "" ⟨0, 0, 0, 0⟩) l it
  intro m
  induction m with
  | zero =>
    intro j s H1 vb vk c e1 e2 I s1 fp hit z0 hvb hvk fin
    have en : j + 1 = as.length := by omega
    refine codeAny_builtin PySem.F.entry_min_loop ?_
    rw [Around.under_plainId PySem.F.plain_min_loop _]
    show wpAny _ X.A.in1 (seqItems? (.ref Z) >>= _) _ _ s
    refine wpAny_bind (wpAny_seqItems z0 rfl ?_)
    show wpAny _ X.A.in1 (tryCatch (pyNext (.ref it)) _ >>= _) _ _ s
    obtain ⟨its, rv, pl, hz⟩ := I.list (s1.seq hS)
    have hl := rv.length
    rw [List.length_map] at hl
    refine wpAny_bind (wpAny_tryCatch (wpAny_pyNext_list_end (show X.A.in1.handled = none from I.ok.hd hc) hit pl.isList (by simp; omega) fun h' eb => ?_))
    have I1 : Inv X pins σ H1 { s with heap := h' } := I.turnedL (t' := s.toks) (ch := [it, Z]) (fun b o hb e => eb b o (fun q => hb (by simp [q])) e) fp
    have z1 := eb Z _ (Ne.symm hne) z0
    show wpAny _ X.A.in1 (updateSeq Z (fun _ => #[]) >>= _) _ _ _
    refine wpAny_bind (wpAny_updateSeq z1 rfl (wpAny_bind (wpAny_letGo (wpAny_pure ?_))))
    obtain ⟨a, ha, rfl⟩ := hvb
    refine fin a _ H1 (I1.turnedL (t' := s.toks) (ch := [it, Z]) (fun b o hb e => (Heap.get?_update_other _ _ (fun q => hb (by simp [q]))).trans e) fp) s1 ?_
    have e3 : as.length - 1 = j := by omega
    rw [e3]
    exact ha
  | succ m ih =>
    intro j s H1 vb vk c e1 e2 I s1 fp hit z0 hvb hvk fin
    have lt : j + 1 < as.length := by omega
    refine codeAny_builtin PySem.F.entry_min_loop ?_
    rw [Around.under_plainId PySem.F.plain_min_loop _]
    show wpAny _ X.A.in1 (seqItems? (.ref Z) >>= _) _ _ s
    refine wpAny_bind (wpAny_seqItems z0 rfl ?_)
    show wpAny _ X.A.in1 (tryCatch (pyNext (.ref it)) _ >>= _) _ _ s
    obtain ⟨its, rv, pl, hz⟩ := I.list (s1.seq hS)
    have ha : as[j + 1]? = some as[j + 1] := by simp [lt]
    obtain ⟨u, hu, ru⟩ := rv.get (i := j + 1) (x := V.ref as[j + 1]) (by rw [List.getElem?_map, ha]; rfl)
    obtain rfl : u = Value.ref as[j + 1] := ru
    refine wpAny_bind (wpAny_tryCatch (wpAny_pyNext_list_item hit pl.isList (x := .ref as[j + 1]) (by simpa using hu) fun h' hit' sb => ?_))
    have I1 : Inv X pins σ H1 { s with heap := h' } := I.turnedL (t' := s.toks) (ch := [it, Z]) (fun b o hb e => (sb.2 b (fun q => hb (by simp [q]))).trans e) fp
    have z1 := (sb.2 Z (Ne.symm hne)).trans z0
    show wpAny _ X.A.in1 (tryCatch (holding [.ref as[j + 1]] (call (.ref f) [.ref as[j + 1]])) _ >>= _) _ _ _
    obtain ⟨oi, hoi, ci, di⟩ := id hit'
    have ob : ∀ b ∈ [it, Z], ∃ o, h'.get? b = some o ∧ ∀ v, o.data ≠ .cell v := fun b hb => by
      simp only [List.mem_cons, List.not_mem_nil, or_false] at hb
      rcases hb with q | q <;> subst q
      · exact ⟨oi, hoi, fun v q => by rw [di] at q; cases q⟩
      · exact ⟨_, z1, fun v q => by cases q⟩
    have Ip := I1.pinned fp ob
    refine wpAny_bind (wpAny_tryCatch (wpAny_holding (wpAny_mono (run_fn (X := X.i1) (us := [.ref as[j + 1]]) (vs := [.ref as[j + 1]]) (Q := fun v H2 => v = .int (kf (j + 1)) ∧ Same H1 H2) (E := E0) G hr.in1 hb .nil pass0 Ip.i1 (.cons rfl .nil) (hk (j + 1) _ H1 _ ha s1 fun H2 s2 => ⟨rfl, s2⟩)) (fun v s2 hq => ?_) fun _ _ z => z.elim)))
    obtain ⟨y, H2, I2', ry, ey, s2'⟩ := hq
    subst ey
    obtain ⟨t, rfl⟩ := ry
    have I2 : Inv X (pins ++ pinsAt [it, Z] h') σ H2 s2 := I2'.o1 I.ok.hd I.ok.frames
    have pin : ∀ b o, b ∈ [it, Z] → h'.get? b = some o → s2.heap.get? b = some o ∧ H2 b = none := fun b o hb e => by
      have z := I2.pin (b, o) (List.mem_append_right _ (List.mem_append_right _ (mem_pinsAt hb e)))
      exact ⟨z.1, z.2.1⟩
    have z2 := (pin Z _ (by simp) z1).1
    have hit2 : s2.heap.IsListIter it l (j + 1 + 1) := ⟨oi, (pin it _ (by simp) hoi).1, ci, di⟩
    have fp2 : ∀ b ∈ [it, Z], FpOk X pins H2 b := fun b hb => by
      obtain ⟨o, e, _⟩ := ob b hb
      exact ⟨(pin b o hb e).2, (fp b hb).2⟩
    have I3 : Inv X pins σ H2 s2 := I2.unpinned
    have s3 : Same H H2 := Same.trans s1 s2'
    obtain ⟨tb, rfl⟩ := hvk
    show wpAny _ X.A.in1 (tryCatch (holding [.ref as[j + 1], .int (kf (j + 1)) t] (richCompare .Lt (.int (kf (j + 1)) t) (.int (kf (argBest (fun i j => decide (kf i < kf j)) j)) tb) >>= _)) _ >>= _) _ _ _
    refine wpAny_bind (wpAny_tryCatch (wpAny_holding (wpAny_bind (lt_int ?_))))
    refine wpAny_bind (wpAny_holding (wpAny_truthy_bool (wpAny_bind (wpAny_letGo (wpAny_pure ?_)))))
    cases hbt : decide (kf (j + 1) < kf (argBest (fun i j => decide (kf i < kf j)) j)) with
    | true =>
      simp only [if_true]
      refine wpAny_bind (wpAny_updateSeq z2 rfl (wpAny_bind (wpAny_letGo ?_)))
      rw [nm]
      have ek : argBest (fun i j => decide (kf i < kf j)) (j + 1) = j + 1 := argBest_T hbt
      refine wpAny_pure ⟨plainId_quiet PySem.F.plain_min_loop _, ih (j + 1) _ H2 _ _ _ (by omega) lt (I3.turnedL (t' := s2.toks) (ch := [it, Z]) (fun b o hb e => (Heap.get?_update_other _ _ (fun q => hb (by simp [q]))).trans e) fp2) s3 fp2
        ⟨oi, (Heap.get?_update_other _ _ (Ne.symm hne)).trans (pin it _ (by simp) hoi).1, ci, di⟩ (Heap.get?_update_self _ z2 rfl) ⟨_, by rw [ek]; exact ha, rfl⟩ ⟨t, by rw [ek]⟩ fin⟩
    | false =>
      simp only [Bool.false_eq_true, if_false]
      refine wpAny_bind (wpAny_letGo ?_)
      rw [nm]
      have ek : argBest (fun i j => decide (kf i < kf j)) (j + 1) = argBest (fun i j => decide (kf i < kf j)) j := argBest_F hbt
      refine wpAny_pure ⟨plainId_quiet PySem.F.plain_min_loop _, ih (j + 1) _ H2 _ _ _ (by omega) lt I3 s3 fp2 hit2 z2 (by rw [ek]; exact hvb) ⟨tb, by rw [ek]⟩ fin⟩
def rminK (K : PySem.W.Frag) (f : Addr) (sp : Sp) : List V → List V → Hp → VK → Prop := fun xs ws H Q => ∃ (l : Addr) (as : List Addr) (kf : Nat → Int), xs = [.ref l] ∧ ws = [.ref f, .non] ∧ SqL K H l (as.map V.ref) ∧ KeyOk sp H as kf ∧
  (as = [] → ∀ H', Same H H' → Q .non H') ∧ ∀ a H', as[argBest (fun i j => decide (kf i < kf j)) (as.length - 1)]? = some a → Same H H' → Q (.ref a) H'
set_option maxHeartbeats 1000000 in
theorem args_minK (a b : Value) : argsOk "min" ⟨[a], [(Str.ofString "key", b), (Str.ofString "default", .none)]⟩ := by unfold argsOk; kernel_rfl
set_option maxHeartbeats 1000000 in
theorem call_minK {k : Nat} {f : Addr} {fd : FuncData} {p0 : Str} {sp : Sp} (G : FnOk X.prog X.w X.K X.mg X.base CX0 k f fd [p0] sp) (hr : Room (k + 1) X.A) (hb : Binds X.K fd [p0] []) (hc : X.calm = true)
    {s : Shared} {H : Hp} {xs ws : List V} {us ks : List Value} {Q : VK} (I : Inv X pins σ H s) (r : Vals xs us) (r2 : Vals ws ks) (h : rminK X.K f sp xs ws H Q) :
    wpAny (model X.prog X.w) X.A (call (.builtin "min") us ([Str.ofString "key", Str.ofString "default"].zip ks)) (EP X pins σ Q) X.xe s := by
  obtain ⟨l, as, kf, e1, e2, hS, hk, q0, q1⟩ := h
  subst e1 e2
  obtain ⟨u, rfl, ru⟩ := vals1 r
  obtain rfl : u = Value.ref l := ru
  obtain ⟨v1, v2, rfl, rf, rn⟩ := vals2 r2
  obtain rfl : v1 = Value.ref f := rf
  obtain rfl : v2 = Value.none := rn
  have nm : (toString "min" ++ toString ".loop" : String) = "min.loop" := by decide
  refine PyProof.Rows.kmk_tree PySem.F.kind_min PySem.F.plain_min PySem.F.entry_min (args_minK _ _) ?_
  show wpAny _ X.A.in1 (Builtin.Builtins.bindParams "min" ["key", "default"] 0 ⟨[], [(Str.ofString "key", .ref f), (Str.ofString "default", .none)]⟩ >>= _) _ _ s
  refine wpAny_bind (wpAny_of_eq (show Builtin.Builtins.bindParams "min" ["key", "default"] 0 ⟨[], [(Str.ofString "key", .ref f), (Str.ofString "default", .none)]⟩ = pure [some (.ref f), some .none] from rfl) ?_)
  refine wpAny_bind (wpAny_pure ?_)
  obtain ⟨its, rv, pl, hz⟩ := I.list hS
  have hlen := rv.length
  rw [List.length_map] at hlen
  have ll : l < s.heap.objs.size := by obtain ⟨o, ho, _⟩ := pl.isList; exact Heap.lt_size ho
  refine wpAny_bind (wpAny_pyIter_list pl.isList ?_)
  refine wpAny_bind (wpAny_newList ?_ (Nat.zero_le _))
  rw [nm]
  generalize hh1 : s.heap.push { cls := .type "list_iterator", data := .fields #[.ref l, .int 0 0] } = h1
  have sz1 : h1.objs.size = s.heap.objs.size + 1 := by rw [← hh1]; exact Heap.size_push ..
  generalize hh2 : h1.push { cls := .type "list", dict := none, data := .seq (([] : List Value).toArray) 0 } = h2
  have k1 : ∀ b o, s.heap.get? b = some o → h2.get? b = some o := fun b o e => by rw [← hh2, ← hh1]; exact Heap.get?_push_of_some _ (Heap.get?_push_of_some _ e)
  have gI : h2.get? s.heap.objs.size = some { cls := .type "list_iterator", data := .fields #[.ref l, .int 0 0] } := by rw [← hh2, ← hh1]; exact Heap.get?_push_of_some _ (Heap.get?_push_size _ rfl)
  have gZ : h2.get? h1.objs.size = some { cls := .type "list", dict := none, data := .seq #[] 0, slots := #[] } := by rw [← hh2]; exact Heap.get?_push_size _ rfl
  have I1 : Inv X pins σ H { s with heap := h2 } := I.kept (t' := s.toks) k1
  have hne : s.heap.objs.size ≠ h1.objs.size := by rw [sz1]; exact Nat.ne_of_lt (Nat.lt_succ_self _)
  have fp : ∀ b ∈ [s.heap.objs.size, h1.objs.size], FpOk X pins H b := fun b hb => by
    have ge : s.heap.objs.size ≤ b := by
      simp only [List.mem_cons, List.not_mem_nil, or_false] at hb
      rcases hb with q | q <;> rw [q]
      · exact Nat.le_refl _
      · rw [sz1]; exact Nat.le_succ _
    exact I.fpOk ge (I.hok.fresh ge)
  refine wpAny_pure ⟨plainId_quiet PySem.F.plain_min_loop _, ?_⟩
  generalize s.heap.objs.size = it at *
  generalize h1.objs.size = Z at *
  have hit : h2.IsListIter it l 0 := ⟨_, gI, rfl, rfl⟩
  refine codeAny_builtin PySem.F.entry_min_loop ?_
  rw [Around.under_plainId PySem.F.plain_min_loop _]
  show wpAny _ X.A.in1 (seqItems? (.ref Z) >>= _) _ _ _
  refine wpAny_bind (wpAny_seqItems gZ rfl ?_)
  show wpAny _ X.A.in1 (tryCatch (pyNext (.ref it)) _ >>= _) _ _ _
  have pl1 : h2.IsList l its.toArray := pl.isList.at fun o e => k1 l o e
  by_cases h0 : as = []
  · subst h0
    have e0 : its = [] := List.length_eq_zero_iff.mp (by simpa using hlen.symm)
    subst e0
    refine wpAny_bind (wpAny_tryCatch (wpAny_pyNext_list_end (show X.A.in1.handled = none from I.ok.hd hc) hit pl1 (by simp) fun h' eb => ?_))
    have I2 : Inv X pins σ H { s with heap := h' } := Inv.turnedL (s := { s with heap := h2 }) (h' := h') (t' := s.toks) (ch := [it, Z]) I1 (fun b o hb e => eb b o (fun q => hb (by simp [q])) e) fp
    refine wpAny_bind (wpAny_rule (wpAny_pure ?_))
    exact ⟨.non, H, I2, rfl, q0 rfl H (Same.refl H)⟩
  · have lt : 0 < as.length := List.length_pos_iff.mpr h0
    have ha : as[0]? = some as[0] := by simp [lt]
    obtain ⟨u, hu, ru⟩ := rv.get (i := 0) (x := V.ref as[0]) (by rw [List.getElem?_map, ha]; rfl)
    obtain rfl : u = Value.ref as[0] := ru
    refine wpAny_bind (wpAny_tryCatch (wpAny_pyNext_list_item hit pl1 (x := .ref as[0]) (by simpa using hu) fun h' hit' sb => ?_))
    have I2 : Inv X pins σ H { s with heap := h' } := Inv.turnedL (s := { s with heap := h2 }) (h' := h') (t' := s.toks) (ch := [it, Z]) I1 (fun b o hb e => (sb.2 b (fun q => hb (by simp [q]))).trans e) fp
    have z1 := (sb.2 Z (Ne.symm hne)).trans gZ
    show wpAny _ X.A.in1 (tryCatch (holding [.ref as[0]] (call (.ref f) [.ref as[0]])) _ >>= _) _ _ _
    obtain ⟨oi, hoi, ci, di⟩ := id hit'
    have ob : ∀ b ∈ [it, Z], ∃ o, h'.get? b = some o ∧ ∀ v, o.data ≠ .cell v := fun b hb => by
      simp only [List.mem_cons, List.not_mem_nil, or_false] at hb
      rcases hb with q | q <;> subst q
      · exact ⟨oi, hoi, fun v q => by rw [di] at q; cases q⟩
      · exact ⟨_, z1, fun v q => by cases q⟩
    have Ip := I2.pinned fp ob
    refine wpAny_bind (wpAny_tryCatch (wpAny_holding (wpAny_mono (run_fn (X := X.i1) (us := [.ref as[0]]) (vs := [.ref as[0]]) (Q := fun v H2 => v = .int (kf 0) ∧ Same H H2) (E := E0) G hr.in1 hb .nil pass0 Ip.i1 (.cons rfl .nil) (hk 0 _ H _ ha (Same.refl H) fun H2 s2 => ⟨rfl, s2⟩)) (fun v s2 hq => ?_) fun _ _ z => z.elim)))
    obtain ⟨y, H2, I2', ry, ey, s2'⟩ := hq
    subst ey
    obtain ⟨t, rfl⟩ := ry
    have I3' : Inv X (pins ++ pinsAt [it, Z] h') σ H2 s2 := I2'.o1 I.ok.hd I.ok.frames
    have pin : ∀ b o, b ∈ [it, Z] → h'.get? b = some o → s2.heap.get? b = some o ∧ H2 b = none := fun b o hb e => by
      have z := I3'.pin (b, o) (List.mem_append_right _ (List.mem_append_right _ (mem_pinsAt hb e)))
      exact ⟨z.1, z.2.1⟩
    have z2 := (pin Z _ (by simp) z1).1
    have fp2 : ∀ b ∈ [it, Z], FpOk X pins H2 b := fun b hb => by
      obtain ⟨o, e, _⟩ := ob b hb
      exact ⟨(pin b o hb e).2, (fp b hb).2⟩
    have I3 : Inv X pins σ H2 s2 := I3'.unpinned
    show wpAny _ X.A.in1 (updateSeq Z (fun _ => #[.ref as[0], .int (kf 0) t]) >>= _) _ _ _
    refine wpAny_bind (wpAny_updateSeq z2 rfl ?_)
    rw [nm]
    refine wpAny_pure ⟨plainId_quiet PySem.F.plain_min_loop _, ?_⟩
    exact minK_loop (it := it) (Z := Z) (l := l) (as := as) (kf := kf) (H := H) G hr hb hc hS hk hne (as.length - (0 + 1)) 0 _ H2 _ _ _ rfl lt (I3.turnedL (t' := s2.toks) (ch := [it, Z]) (fun b o hb e => (Heap.get?_update_other _ _ (fun q => hb (by simp [q]))).trans e) fp2) s2' fp2
      ⟨oi, (Heap.get?_update_other _ _ (Ne.symm hne)).trans (pin it _ (by simp) hoi).1, ci, di⟩ (Heap.get?_update_self _ z2 rfl) ⟨_, ha, rfl⟩ ⟨t, rfl⟩ fun a s' H' I' s'' e => ⟨.ref a, H', I', rfl, q1 a H' e s''⟩
end
section
variable {X : Cx}
def tminK (K : PySem.W.Frag) (f : Addr) (sp : Sp) (ta tk : TA) : TE := fun σ H Q => ta σ H fun vs H1 => tk σ H1 fun ws H2 => rminK K f sp vs ws H2 Q
theorem pe_minK {k : Nat} {f : Addr} {fd : FuncData} {p0 : Str} {sp : Sp} {l : Expr} {kws : List Keyword} {ta tk : TA} {p pos : Pos} (G : FnOk X.prog X.w X.K X.mg X.base CX0 k f fd [p0] sp) (hr : Room (k + 1) X.A) (hb : Binds X.K fd [p0] []) (hc : X.calm = true)
    (hg : Gl X "min") (hm : X.mg "min" = none) (ha : PA X [l] ta) (hk : PK X kws tk) (hks : (backToKw pos (keywordEach kws X.env)).filterMap (·.1) = [Str.ofString "key", Str.ofString "default"] := by rfl)
    (he : backTo pos (starEach [l] X.env) = (false, eval l X.env) :: backTo pos (starEach [] X.env) := by rfl) (hpl : (backTo pos (starEach [l] X.env)).any (·.1) = false := by rfl)
    (hall : (backToKw pos (keywordEach kws X.env)).all (·.1.isSome) = true := by rfl) (hkw : (backToKw pos (keywordEach kws X.env)).any (·.1.isNone) = false := by rfl) :
    PE X (.Call (.Name "min" p) [l] kws pos) (tminK X.K f sp ta tk) := by
  intro pins s σ H Q I h
  refine wpAny_Call_Name_kw (ld_blt I hg hm PyProof.Rows.boot_min (callWith_bK (thn (ha pos pins s σ H _ I h) fun us s1 ⟨vs, H1, I1, r1, q1⟩ => thn (hk pos pins s1 σ H1 _ I1 q1) fun ks s2 ⟨ws, H2, I2, r2, q2⟩ => ?_) he hpl hall hkw))
  rw [hks]
  exact call_minK G hr hb hc I2 r1 r2 q2
end
end L2
namespace L2
open PySem PySem.Spec PyProof.Rows
inductive EqD (K : PySem.W.Frag) (H : Hp) : Nat → V → V → Bool → Prop
  | flat {n : Nat} {x y : V} (fx : flatV x = true) (fy : flatV y = true) : EqD K H n x y (eqV x y)
  | same {n : Nat} {a : Addr} : EqD K H n (.ref a) (.ref a) true
  | lst {n : Nat} {a b : Addr} {xs ys : List V} (ne : a ≠ b) (hA : SqL K H a xs) (hB : SqL K H b ys) (hl : xs.length = ys.length) (e : Nat → Bool)
      (he : ∀ (j : Nat) (x y : V), xs[j]? = some x → ys[j]? = some y → EqD K H n x y (e j)) : EqD K H (n + 1) (.ref a) (.ref b) ((List.range xs.length).all e)
  | tup {n : Nat} {a b : Addr} {xs ys : List V} (ne : a ≠ b) (hA : SqT K H a xs) (hB : SqT K H b ys) (hl : xs.length = ys.length) (e : Nat → Bool)
      (he : ∀ (j : Nat) (x y : V), xs[j]? = some x → ys[j]? = some y → EqD K H n x y (e j)) : EqD K H (n + 1) (.ref a) (.ref b) ((List.range xs.length).all e)
theorem all_true_range (n : Nat) : ((List.range n).all fun _ => true) = true := List.all_eq_true.mpr fun _ _ => rfl
theorem EqD.lstT {K : PySem.W.Frag} {H : Hp} {n : Nat} {a b : Addr} {xs ys : List V} (hA : SqL K H a xs) (hB : SqL K H b ys) (hl : xs.length = ys.length) (he : ∀ (j : Nat) (x y : V), xs[j]? = some x → ys[j]? = some y → EqD K H n x y true) : EqD K H (n + 1) (.ref a) (.ref b) true := by
  by_cases ne : a = b
  · subst ne
    exact .same
  · have := EqD.lst ne hA hB hl (fun _ => true) he
    rw [all_true_range] at this
    exact this
theorem eqV_same : ∀ {x : V}, flatV x = true → eqV x x = true
  | .non, _ => rfl
  | .bl b, _ => by show (b == b) = true; simp
  | .int i, _ => by show (i == i) = true; simp
  | .str z, _ => by show (z == z) = true; simp
  | .ref _, h => nomatch (show false = true from h)
theorem EqD.refl {K : PySem.W.Frag} {H : Hp} {n : Nat} {x : V} (h : flatV x = true) : EqD K H n x x true := by
  have := EqD.flat (K := K) (H := H) (n := n) h h
  rw [eqV_same h] at this
  exact this
section
variable {X : Cx}
theorem vals_at {xs : List V} {us : List Value} (r : Vals xs us) (j : Nat) (h1 : j < us.toArray.size) : ∃ x, xs[j]? = some x ∧ RelV x us.toArray[j] := by
  have l1 := r.length
  rw [List.size_toArray] at h1
  have g1 : j < xs.length := by omega
  obtain ⟨w1, q1, p1⟩ := r.get (i := j) (x := xs[j]) (by simp [g1])
  have s1 : us.toArray[j] = w1 := by
    rw [List.getElem?_eq_getElem h1] at q1
    simpa using q1
  exact ⟨xs[j], by simp [g1], by rw [s1]; exact p1⟩
theorem eqD_at {pins : List (Addr × Obj)} {σ : St} {H : Hp} {s : Shared} (I : Inv X pins σ H s) {n : Nat} {x y : V} {b : Bool} (h : EqD X.K H n x y b) :
    ∀ {A : Around} {u v : Value}, A.units + n < cLine → RelV x u → RelV y v → SeqAt.EqAt A s u v b := by
  induction h with
  | flat fx fy => intro A u v _ rx ry; exact eqAt_V rx ry fx fy
  | @same n a =>
    intro A u v _ rx ry
    obtain rfl : u = Value.ref a := rx
    obtain rfl : v = Value.ref a := ry
    exact SeqAt.EqAt.same _
  | @lst n a b xs ys ne hA hB hl e he ih =>
    intro A u v hu rx ry
    obtain rfl : u = Value.ref a := rx
    obtain rfl : v = Value.ref b := ry
    obtain ⟨its, r, pl, hz⟩ := I.list hA
    obtain ⟨its2, r2, pl2, hz2⟩ := I.list hB
    have l1 := r.length
    have l2 := r2.length
    have rc := SeqAt.RcAt.lists (A := A) (s := s) (e := e) pl.isList pl2.isList (by rw [List.size_toArray, List.size_toArray]; omega) (by omega) (fun j h1 h2 => by
      obtain ⟨x, ex, rx⟩ := vals_at r j h1
      obtain ⟨y, ey, ry⟩ := vals_at r2 j h2
      exact ih j x y ex ey (show A.units + 1 + n < cLine by omega) rx ry)
    rw [List.size_toArray, ← l1] at rc
    exact SeqAt.EqAt.of_refs ne rc
  | @tup n a b xs ys ne hA hB hl e he ih =>
    intro A u v hu rx ry
    obtain rfl : u = Value.ref a := rx
    obtain rfl : v = Value.ref b := ry
    obtain ⟨its, r, pl, hz⟩ := I.tuple hA
    obtain ⟨its2, r2, pl2, hz2⟩ := I.tuple hB
    have l1 := r.length
    have l2 := r2.length
    have rc := SeqAt.RcAt.tuples (A := A) (s := s) (e := e) pl pl2 (by omega) (fun j h1 h2 => by
      obtain ⟨x, ex, rx⟩ := vals_at r j h1
      obtain ⟨y, ey, ry⟩ := vals_at r2 j h2
      exact ih j x y ex ey (show A.units + 1 + n < cLine by omega) rx ry)
    have e1 : min its.toArray.size its2.toArray.size = xs.length := by rw [List.size_toArray, List.size_toArray]; omega
    have e2 : (its.toArray.size == its2.toArray.size) = true := by rw [List.size_toArray, List.size_toArray]; exact beq_iff_eq.mpr (by omega)
    rw [e1, e2, Bool.and_true] at rc
    exact SeqAt.EqAt.of_refs ne rc
def rDeep (K : PySem.W.Frag) (neg : Bool) : R2 := fun x y H Q => ∃ (a b : Addr) (xs ys : List V) (e : Nat → Bool), x = .ref a ∧ y = .ref b ∧ ((SqL K H a xs ∧ SqL K H b ys) ∨ (SqT K H a xs ∧ SqT K H b ys)) ∧ xs.length = ys.length ∧
  (∀ (j : Nat) (x y : V), xs[j]? = some x → ys[j]? = some y → EqD K H 8 x y (e j)) ∧ Q (.bl (if neg then !((List.range xs.length).all e) else (List.range xs.length).all e)) H
theorem op_eqDeep (hu : X.A.units + 20 < cLine) : OpR X (compareOp .Eq) (rDeep X.K false) := by
  intro pins s σ H x y v u Q I rx ry h
  obtain ⟨a, b, xs, ys, e, e1, e2, hS, hl, he, q⟩ := h
  subst e1 e2
  obtain rfl : v = Value.ref a := rx
  obtain rfl : u = Value.ref b := ry
  rcases hS with ⟨hA, hB⟩ | ⟨hA, hB⟩
  · obtain ⟨its, r, pl, hz⟩ := I.list hA
    obtain ⟨its2, r2, pl2, hz2⟩ := I.list hB
    have l1 := r.length
    have l2 := r2.length
    refine SeqAt.eq_listAt (e := e) pl.isList pl2.isList (by rw [List.size_toArray, List.size_toArray]; omega) (by omega) (fun j h1 h2 => ?_) ⟨.bl _, H, I, rfl, ?_⟩
    · obtain ⟨x, ex, rx⟩ := vals_at r j h1
      obtain ⟨y, ey, ry⟩ := vals_at r2 j h2
      exact eqD_at I (he j x y ex ey) (show X.A.units + 1 + 8 < cLine by omega) rx ry
    · rw [List.size_toArray, ← l1]
      exact q
  · obtain ⟨its, r, pl, hz⟩ := I.tuple hA
    obtain ⟨its2, r2, pl2, hz2⟩ := I.tuple hB
    have l1 := r.length
    have l2 := r2.length
    refine SeqAt.eq_tupleAt (e := e) pl pl2 (by omega) (fun j h1 h2 => ?_) ⟨.bl _, H, I, rfl, ?_⟩
    · obtain ⟨x, ex, rx⟩ := vals_at r j h1
      obtain ⟨y, ey, ry⟩ := vals_at r2 j h2
      exact eqD_at I (he j x y ex ey) (show X.A.units + 1 + 8 < cLine by omega) rx ry
    · have e1 : min its.toArray.size its2.toArray.size = xs.length := by rw [List.size_toArray, List.size_toArray]; omega
      have e2 : (its.toArray.size == its2.toArray.size) = true := by rw [List.size_toArray, List.size_toArray]; exact beq_iff_eq.mpr (by omega)
      rw [e1, e2, Bool.and_true]
      exact q
theorem op_neDeep (hu : X.A.units + 20 < cLine) : OpR X (compareOp .NotEq) (rDeep X.K true) := by
  intro pins s σ H x y v u Q I rx ry h
  obtain ⟨a, b, xs, ys, e, e1, e2, hS, hl, he, q⟩ := h
  subst e1 e2
  obtain rfl : v = Value.ref a := rx
  obtain rfl : u = Value.ref b := ry
  rcases hS with ⟨hA, hB⟩ | ⟨hA, hB⟩
  · obtain ⟨its, r, pl, hz⟩ := I.list hA
    obtain ⟨its2, r2, pl2, hz2⟩ := I.list hB
    have l1 := r.length
    have l2 := r2.length
    refine SeqAt.RcNeAt.lists (e := e) pl.isList pl2.isList (by rw [List.size_toArray, List.size_toArray]; omega) (by omega) (fun j h1 h2 => ?_) _ _ _ _ ⟨.bl _, H, I, rfl, ?_⟩
    · obtain ⟨x, ex, rx⟩ := vals_at r j h1
      obtain ⟨y, ey, ry⟩ := vals_at r2 j h2
      exact eqD_at I (he j x y ex ey) (show X.A.units + 1 + 8 < cLine by omega) rx ry
    · rw [List.size_toArray, ← l1]
      exact q
  · obtain ⟨its, r, pl, hz⟩ := I.tuple hA
    obtain ⟨its2, r2, pl2, hz2⟩ := I.tuple hB
    have l1 := r.length
    have l2 := r2.length
    refine SeqAt.RcNeAt.tuples (e := e) pl pl2 (by omega) (fun j h1 h2 => ?_) _ _ _ _ ⟨.bl _, H, I, rfl, ?_⟩
    · obtain ⟨x, ex, rx⟩ := vals_at r j h1
      obtain ⟨y, ey, ry⟩ := vals_at r2 j h2
      exact eqD_at I (he j x y ex ey) (show X.A.units + 1 + 8 < cLine by omega) rx ry
    · have e1 : min its.toArray.size its2.toArray.size = xs.length := by rw [List.size_toArray, List.size_toArray]; omega
      have e2 : (its.toArray.size == its2.toArray.size) = true := by rw [List.size_toArray, List.size_toArray]; exact beq_iff_eq.mpr (by omega)
      rw [e1, e2, Bool.and_true]
      exact q
end
end L2
namespace L2
open PySem PySem.Spec PyProof.Rows
abbrev gTwo (K : PySem.W.Frag) : TG := gTup K 2 (gCons (gName 0) (gCons (gName 1) gNil))
theorem Same.put1 {H H2 : Hp} {l : Addr} {o : HO} (s : Same H H2) (hn : H l = none) : Same H (upd H2 l o) := fun b u e => by
  rw [upd_ne (ne_of_none e hn)]
  exact s b u e
theorem range_filter_succ {α : Type} (n : Nat) (c : Nat → Bool) (f : Nat → α) : ((List.range (n + 1)).filter c).map f = ((List.range n).filter c).map f ++ (if c n = true then [f n] else []) := by
  rw [List.range_succ, List.filter_append, List.map_append]
  by_cases h : c n = true
  · rw [if_pos h, List.filter_cons_of_pos h]; rfl
  · rw [if_neg h, List.filter_cons_of_neg h]; rfl
theorem comp_zipP {K : PySem.W.Frag} {a b : Addr} {xs ys : List V} {tt : TT} {te : TE} {σ : St} {H : Hp} {Q : VK} (c : Nat → Bool) (f : Nat → V) (hA : SqL K H a xs) (hB : SqL K H b ys) (hn : min xs.length ys.length < sizeLine)
    (ht : ∀ (i : Nat) (x y : V) (H' : Hp) (Q' : Bool → Hp → Prop), xs[i]? = some x → ys[i]? = some y → Same H H' → (∀ H'', Same H' H'' → Q' (c i) H'') → tt (some x :: some y :: σ) H' Q')
    (he : ∀ (i : Nat) (x y : V) (H' : Hp) (Q' : VK), c i = true → xs[i]? = some x → ys[i]? = some y → Same H H' → (∀ H'', Same H' H'' → Q' (f i) H'') → te (some x :: some y :: σ) H' Q')
    (hd : ∀ D H', H D = none → Same H H' → H' D = some (.lst (((List.range (min xs.length ys.length)).filter c).map f)) → Q (.ref D) H') : CompGoN (Itz K a b) H 2 σ (gTwo K) tt te Q := by
  intro D hD
  refine ⟨fun i m H' => m = min xs.length ys.length - i ∧ i ≤ min xs.length ys.length ∧ Same H H' ∧ H' D = some (.lst (((List.range i).filter c).map f)), ⟨_, rfl, Nat.zero_le _, Same.put1 (Same.refl H) hD, upd_same⟩, ?_⟩
  rintro i m H' ⟨rfl, hi, s1, hl⟩
  have qa := s1.seq hA
  have qb := s1.seq hB
  by_cases hlt : i < min xs.length ys.length
  · have hx : i < xs.length := by omega
    have hy : i < ys.length := by omega
    refine .inr ⟨⟨xs, ys, xs[i], ys[i], qa, qb, by simp [hx], by simp [hy]⟩, fun x H2 ρ lρ y => ?_⟩
    obtain ⟨p, u, v, rfl, hp, rfl, yu, yv⟩ := y
    have eu := yu xs qa
    have ev := yv ys qb
    match ρ, lρ with
    | [r0, r1], _ =>
      have s2 : Same H' (upd H' p (.tup [u, v])) := Same.put1 (Same.refl _) hp
      refine ⟨p, _, rfl, SqT.of upd_same, rfl, _, _, rfl, _, _, rfl, rfl, ⟨[some u, some v], rfl, rfl⟩, ?_⟩
      have s12 := Same.trans s1 s2
      have hl2 := s2 _ _ hl
      refine ht i u v _ _ eu ev s12 fun H3 s3 => ?_
      have hl3 := s3 _ _ hl2
      have s13 := Same.trans s12 s3
      cases hc : c i with
      | true =>
        refine iteT (he i u v _ _ hc eu ev s13 fun H4 s4 => ⟨_, s4 _ _ hl3, ?_, _, Nat.sub_succ_lt_self _ _ hlt, rfl, hlt, Same.put1 (Same.trans s13 s4) hD, ?_⟩)
        · rw [List.length_map]
          exact Nat.lt_of_le_of_lt (Nat.le_trans (List.length_filter_le _ _) (by rw [List.length_range]; omega)) hn
        · rw [upd_same, range_filter_succ, if_pos hc]
      | false =>
        refine iteF ⟨_, Nat.sub_succ_lt_self _ _ hlt, rfl, hlt, s13, ?_⟩
        rw [hl3, range_filter_succ, if_neg (by rw [hc]; exact Bool.false_ne_true), List.append_nil]
  · have e : i = min xs.length ys.length := by omega
    refine .inl ⟨⟨xs, ys, qa, qb, by omega⟩, ?_⟩
    rw [e] at hl
    exact hd D H' hD s1 hl
theorem comp_tupP {K : PySem.W.Frag} {a : Addr} {xs : List V} {tt : TT} {te : TE} {σ : St} {H : Hp} {Q : VK} (c : Nat → Bool) (f : Nat → V) (hA : H a = some (.tup xs)) (hn : xs.length < sizeLine)
    (ht : ∀ (i : Nat) (x : V) (H' : Hp) (Q' : Bool → Hp → Prop), xs[i]? = some x → Same H H' → (∀ H'', Same H' H'' → Q' (c i) H'') → tt (some x :: σ) H' Q')
    (he : ∀ (i : Nat) (x : V) (H' : Hp) (Q' : VK), c i = true → xs[i]? = some x → Same H H' → (∀ H'', Same H' H'' → Q' (f i) H'') → te (some x :: σ) H' Q')
    (hd : ∀ D H', H D = none → Same H H' → H' D = some (.lst (((List.range xs.length).filter c).map f)) → Q (.ref D) H') : CompGo (Itt K a) H σ tt te Q := by
  intro D hD
  refine ⟨fun i m H' => m = xs.length - i ∧ i ≤ xs.length ∧ Same H H' ∧ H' D = some (.lst (((List.range i).filter c).map f)), ⟨_, rfl, Nat.zero_le _, Same.put1 (Same.refl H) hD, upd_same⟩, ?_⟩
  rintro i m H' ⟨rfl, hi, s1, hl⟩
  have qa : SqT K H' a xs := SqT.of (s1 _ _ hA)
  by_cases hlt : i < xs.length
  · refine .inr ⟨⟨xs, xs[i], qa, by simp [hlt]⟩, fun x H2 y => ?_⟩
    obtain ⟨e, y⟩ := y
    subst e
    have eu := y xs qa
    refine ht i x _ _ eu s1 fun H3 s3 => ?_
    have hl3 := s3 _ _ hl
    have s13 := Same.trans s1 s3
    cases hc : c i with
    | true =>
      refine iteT (he i x _ _ hc eu s13 fun H4 s4 => ⟨_, s4 _ _ hl3, ?_, _, Nat.sub_succ_lt_self _ _ hlt, rfl, hlt, Same.put1 (Same.trans s13 s4) hD, ?_⟩)
      · rw [List.length_map]
        exact Nat.lt_of_le_of_lt (Nat.le_trans (List.length_filter_le _ _) (by rw [List.length_range]; omega)) hn
      · rw [upd_same, range_filter_succ, if_pos hc]
    | false =>
      refine iteF ⟨_, Nat.sub_succ_lt_self _ _ hlt, rfl, hlt, s13, ?_⟩
      rw [hl3, range_filter_succ, if_neg (by rw [hc]; exact Bool.false_ne_true), List.append_nil]
  · have e : i = xs.length := by omega
    refine .inl ⟨⟨xs, qa, by omega⟩, ?_⟩
    rw [e] at hl
    exact hd D H' hD s1 hl
end L2
namespace S2
open PySem L2
def RowsOf (H : Hp) (as : List Addr) (rows : List (List V)) : Prop := as.length = rows.length ∧ ∀ (i : Nat) (p : Addr) (r : List V), as[i]? = some p → rows[i]? = some r → H p = some (.tup r)
theorem RowsOf.same {H H2 : Hp} {as : List Addr} {rows : List (List V)} (h : RowsOf H as rows) (s : Same H H2) : RowsOf H2 as rows := ⟨h.1, fun i p r e1 e2 => s _ _ (h.2 i p r e1 e2)⟩
theorem RowsOf.nil {H : Hp} : RowsOf H [] [] := ⟨rfl, fun i p r e => by simp at e⟩
theorem RowsOf.snoc {H H2 : Hp} {as : List Addr} {rows : List (List V)} {p : Addr} {r : List V} (h : RowsOf H as rows) (s : Same H H2) (hp : H2 p = some (.tup r)) : RowsOf H2 (as ++ [p]) (rows ++ [r]) := by
  refine ⟨by rw [List.length_append, List.length_append, h.1]; rfl, fun i q x e1 e2 => ?_⟩
  by_cases hi : i < as.length
  · rw [List.getElem?_append_left hi] at e1
    rw [List.getElem?_append_left (by rw [← h.1]; exact hi)] at e2
    exact s _ _ (h.2 i q x e1 e2)
  · rw [List.getElem?_append_right (by omega)] at e1
    rw [List.getElem?_append_right (by rw [← h.1]; omega), ← h.1] at e2
    cases e : i - as.length with
    | zero =>
      rw [e] at e1 e2
      cases e1
      cases e2
      exact hp
    | succ d => rw [e] at e1; simp at e1
theorem RowsOf.get {H : Hp} {as : List Addr} {rows : List (List V)} (h : RowsOf H as rows) {i : Nat} {x : V} (e : (as.map V.ref)[i]? = some x) : ∃ p r, x = .ref p ∧ as[i]? = some p ∧ rows[i]? = some r ∧ H p = some (.tup r) := by
  rw [List.getElem?_map] at e
  cases e1 : as[i]? with
  | none => rw [e1] at e; cases e
  | some p =>
    rw [e1] at e
    have hi : i < rows.length := by rw [← h.1]; exact get_lt e1
    exact ⟨p, rows[i], (Option.some.inj e).symm, rfl, by simp [hi], h.2 i p rows[i] e1 (by simp [hi])⟩
structure Fl where
  nm : Str
  lf : Bool
  w : Int
  h : Int
structure Pl where
  nm : Str
  x : Int
  y : Int
  w : Int
  h : Int
def fl0 : Fl := ⟨"", true, 0, 0⟩
def pl0 : Pl := ⟨"", 0, 0, 0, 0⟩
def sideOf (b : Bool) : Str := if b = true then "left" else "right"
def flRow (f : Fl) : List V := [.str f.nm, .str (sideOf f.lf), .int f.w, .int f.h]
def plRow (p : Pl) : List V := [.str p.nm, .int p.x, .int p.y, .int p.w, .int p.h]
theorem side_eq (b c : Bool) : (sideOf b = sideOf c) ↔ b = c := by
  cases b <;> cases c <;> simp [sideOf] <;> decide +kernel
def gF (fls : List Fl) (i : Nat) : Fl := fls.getD i fl0
def gP (pls : List Pl) (i : Nat) : Pl := pls.getD i pl0
theorem gF_of {fls : List Fl} {i : Nat} {f : Fl} (h : fls[i]? = some f) : gF fls i = f := by unfold gF; rw [List.getD_eq_getElem?_getD, h]; rfl
theorem gP_of {pls : List Pl} {i : Nat} {p : Pl} (h : pls[i]? = some p) : gP pls i = p := by unfold gP; rw [List.getD_eq_getElem?_getD, h]; rfl
def touB (p : Pl) (row high : Int) : Bool := decide ((if row > p.y then row else p.y) < (if row + high < p.y + p.h then row + high else p.y + p.h))
theorem touB_iff {p : Pl} {row high : Int} : touB p row high = true ↔ p.y < p.y + p.h ∧ p.y < row + high ∧ row < p.y + p.h ∧ row < row + high := by
  unfold touB
  rw [decide_eq_true_iff]
  constructor
  · intro h
    split at h <;> split at h <;> omega
  · intro h
    split <;> split <;> omega
def tIdx (fls : List Fl) (pls : List Pl) (sd : Bool) (row high : Int) : List Nat := (List.range (min fls.length pls.length)).filter fun i => decide (sideOf (gF fls i).lf = sideOf sd) && touB (gP pls i) row high
def bestR (pls : List Pl) (ix : List Nat) : Option Nat := ix[argBest (fun i j => decide ((gP pls (ix.getD i 0)).x + (gP pls (ix.getD i 0)).w > (gP pls (ix.getD j 0)).x + (gP pls (ix.getD j 0)).w)) (ix.length - 1)]?
def bestL (pls : List Pl) (ix : List Nat) : Option Nat := ix[argBest (fun i j => decide ((gP pls (ix.getD i 0)).x < (gP pls (ix.getD j 0)).x)) (ix.length - 1)]?
def nrL (fls : List Fl) (pls : List Pl) (row high : Int) : Option Nat := bestR pls (tIdx fls pls true row high)
def nrR (fls : List Fl) (pls : List Pl) (row high : Int) : Option Nat := bestL pls (tIdx fls pls false row high)
def edL (fls : List Fl) (pls : List Pl) (row high : Int) : Int := match nrL fls pls row high with
  | none => 0
  | some i => (gP pls i).x + (gP pls i).w
def edR (W : Int) (fls : List Fl) (pls : List Pl) (row high : Int) : Int := match nrR fls pls row high with
  | none => W
  | some i => (gP pls i).x
def optV (as : List Addr) : Option Nat → V
  | none => .non
  | some i => .ref (as.getD i 0)
theorem mem_tIdx {fls : List Fl} {pls : List Pl} {sd : Bool} {row high : Int} {i : Nat} : i ∈ tIdx fls pls sd row high ↔ i < fls.length ∧ i < pls.length ∧ (gF fls i).lf = sd ∧ touB (gP pls i) row high = true := by
  unfold tIdx
  rw [List.mem_filter, List.mem_range, Bool.and_eq_true, decide_eq_true_iff, side_eq]
  constructor
  · intro ⟨h1, h2, h3⟩; exact ⟨by omega, by omega, h2, h3⟩
  · intro ⟨h1, h2, h3, h4⟩; exact ⟨by omega, h3, h4⟩
theorem best_none {ix : List Nat} {bt : Nat → Nat → Bool} : ix[argBest bt (ix.length - 1)]? = none → (∀ k, argBest bt k ≤ k) → ix = [] := fun h hb => by
  rw [List.getElem?_eq_none_iff] at h
  have := hb (ix.length - 1)
  cases ix with
  | nil => rfl
  | cons x r => rw [List.length_cons] at h this; omega
theorem arg_le (bt : Nat → Nat → Bool) : ∀ k, argBest bt k ≤ k
  | 0 => Nat.le_refl _
  | k + 1 => by
    have := arg_le bt k
    unfold argBest
    split <;> omega
theorem getD_of {ix : List Nat} {k i : Nat} (h : ix[k]? = some i) : ix.getD k 0 = i := by rw [List.getD_eq_getElem?_getD, h]; rfl
theorem bestR_some {pls : List Pl} {ix : List Nat} {i : Nat} (h : bestR pls ix = some i) : i ∈ ix ∧ ∀ j ∈ ix, (gP pls j).x + (gP pls j).w ≤ (gP pls i).x + (gP pls i).w := by
  unfold bestR at h
  have e := getD_of h
  refine ⟨List.mem_of_getElem? h, fun j hj => ?_⟩
  obtain ⟨k, hk⟩ := List.getElem?_of_mem hj
  have g := (argBest_gt (fun i => (gP pls (ix.getD i 0)).x + (gP pls (ix.getD i 0)).w) (ix.length - 1)).2 k (by have := get_lt hk; omega)
  simp only [getD_of hk] at g
  rw [e] at g
  exact g
theorem bestL_some {pls : List Pl} {ix : List Nat} {i : Nat} (h : bestL pls ix = some i) : i ∈ ix ∧ ∀ j ∈ ix, (gP pls i).x ≤ (gP pls j).x := by
  unfold bestL at h
  have e := getD_of h
  refine ⟨List.mem_of_getElem? h, fun j hj => ?_⟩
  obtain ⟨k, hk⟩ := List.getElem?_of_mem hj
  have g := (argBest_lt (fun i => (gP pls (ix.getD i 0)).x) (ix.length - 1)).2 k (by have := get_lt hk; omega)
  simp only [getD_of hk] at g
  rw [e] at g
  exact g
theorem bestR_none {pls : List Pl} {ix : List Nat} (h : bestR pls ix = none) : ix = [] := best_none h (arg_le _)
theorem bestL_none {pls : List Pl} {ix : List Nat} (h : bestL pls ix = none) : ix = [] := best_none h (arg_le _)
end S2
namespace S2
open PySem L2
def endOf (p : Pl) : Int := p.y + p.h
def triRow (pls : List Pl) : Option Nat → Option Nat → Int
  | some i, some j => if endOf (gP pls j) < endOf (gP pls i) then endOf (gP pls j) else endOf (gP pls i)
  | some i, none => endOf (gP pls i)
  | none, some j => endOf (gP pls j)
  | none, none => 0
def nmOf (pls : List Pl) : Option Nat → Str
  | none => ""
  | some i => (gP pls i).nm
abbrev Tri := Int × Str × Str
def triV (t : Tri) : List V := [.int t.1, .str t.2.1, .str t.2.2]
def papF (W : Int) (fls : List Fl) (pls : List Pl) (w h : Int) : Nat → Int → List Tri × Int
  | 0, row => ([], row)
  | n + 1, row => if edR W fls pls row h - edL fls pls row h < w then
      ((triRow pls (nrL fls pls row h) (nrR fls pls row h), nmOf pls (nrL fls pls row h), nmOf pls (nrR fls pls row h)) :: (papF W fls pls w h n (triRow pls (nrL fls pls row h) (nrR fls pls row h))).1,
        (papF W fls pls w h n (triRow pls (nrL fls pls row h) (nrR fls pls row h))).2) else ([], row)
def cntF (row : Int) : List Pl → Nat
  | [] => 0
  | p :: r => (if row < endOf p then 1 else 0) + cntF row r
theorem cntF_le (row : Int) : ∀ pls : List Pl, cntF row pls ≤ pls.length
  | [] => Nat.le_refl _
  | p :: r => by
    have := cntF_le row r
    unfold cntF
    rw [List.length_cons]
    split <;> omega
theorem cntF_mono {row row' : Int} (h : row ≤ row') : ∀ pls : List Pl, cntF row' pls ≤ cntF row pls
  | [] => Nat.le_refl _
  | p :: r => by
    have := cntF_mono h r
    unfold cntF
    split <;> split <;> omega
theorem cntF_lt {row row' : Int} (h : row ≤ row') : ∀ {pls : List Pl} {p : Pl}, p ∈ pls → row < endOf p → endOf p ≤ row' → cntF row' pls < cntF row pls
  | [], _, hp, _, _ => by simp at hp
  | q :: r, p, hp, h1, h2 => by
    have m := cntF_mono h r
    unfold cntF
    rcases List.mem_cons.mp hp with e | e
    · subst e
      rw [if_neg (by omega), if_pos h1]
      omega
    · have := cntF_lt h e h1 h2
      split <;> split <;> omega
theorem gP_mem {pls : List Pl} {i : Nat} (h : i < pls.length) : gP pls i ∈ pls := by
  rw [gP_of (List.getElem?_eq_getElem h)]
  exact List.getElem_mem h
theorem noFit {W : Int} {fls : List Fl} {pls : List Pl} {w h row : Int} (hw : w ≤ W) (hf : edR W fls pls row h - edL fls pls row h < w) :
    (nrL fls pls row h ≠ none ∨ nrR fls pls row h ≠ none) ∧ row < triRow pls (nrL fls pls row h) (nrR fls pls row h) ∧ cntF (triRow pls (nrL fls pls row h) (nrR fls pls row h)) pls < cntF row pls := by
  have tl : ∀ i, nrL fls pls row h = some i → row < endOf (gP pls i) ∧ gP pls i ∈ pls := fun i e => by
    have m := mem_tIdx.mp (bestR_some e).1
    exact ⟨(touB_iff.mp m.2.2.2).2.2.1, gP_mem m.2.1⟩
  have tr : ∀ i, nrR fls pls row h = some i → row < endOf (gP pls i) ∧ gP pls i ∈ pls := fun i e => by
    have m := mem_tIdx.mp (bestL_some e).1
    exact ⟨(touB_iff.mp m.2.2.2).2.2.1, gP_mem m.2.1⟩
  unfold edL edR at hf
  cases e1 : nrL fls pls row h with
  | none =>
    cases e2 : nrR fls pls row h with
    | none =>
      rw [e1, e2] at hf
      dsimp only at hf
      omega
    | some j =>
      have q := tr j e2
      exact ⟨.inr (by simp), q.1, cntF_lt (Int.le_of_lt q.1) q.2 q.1 (Int.le_refl _)⟩
  | some i =>
    have p := tl i e1
    cases e2 : nrR fls pls row h with
    | none => exact ⟨.inl (by simp), p.1, cntF_lt (Int.le_of_lt p.1) p.2 p.1 (Int.le_refl _)⟩
    | some j =>
      have q := tr j e2
      show (_ ∨ _) ∧ row < (if endOf (gP pls j) < endOf (gP pls i) then endOf (gP pls j) else endOf (gP pls i)) ∧ cntF (if endOf (gP pls j) < endOf (gP pls i) then endOf (gP pls j) else endOf (gP pls i)) pls < cntF row pls
      split
      · exact ⟨.inl (by simp), q.1, cntF_lt (Int.le_of_lt q.1) q.2 q.1 (Int.le_refl _)⟩
      · exact ⟨.inl (by simp), p.1, cntF_lt (Int.le_of_lt p.1) p.2 p.1 (Int.le_refl _)⟩
def standF (W : Int) (fls : List Fl) (pls : List Pl) (row : Int) : Pl × List Tri :=
  (⟨(gF fls pls.length).nm, if (gF fls pls.length).lf = true then edL fls pls (papF W fls pls (gF fls pls.length).w (gF fls pls.length).h (cntF row pls) row).2 (gF fls pls.length).h
      else edR W fls pls (papF W fls pls (gF fls pls.length).w (gF fls pls.length).h (cntF row pls) row).2 (gF fls pls.length).h - (gF fls pls.length).w,
    (papF W fls pls (gF fls pls.length).w (gF fls pls.length).h (cntF row pls) row).2, (gF fls pls.length).w, (gF fls pls.length).h⟩,
    (papF W fls pls (gF fls pls.length).w (gF fls pls.length).h (cntF row pls) row).1)
def lastRow (pls : List Pl) : Int := match pls.getLast? with
  | none => 0
  | some p => p.y
def allF (W : Int) (fls : List Fl) : Nat → List Pl × List (List Tri)
  | 0 => ([], [])
  | n + 1 => ((allF W fls n).1 ++ [(standF W fls (allF W fls n).1 (lastRow (allF W fls n).1)).1], (allF W fls n).2 ++ [(standF W fls (allF W fls n).1 (lastRow (allF W fls n).1)).2])
theorem allF_len (W : Int) (fls : List Fl) : ∀ n, (allF W fls n).1.length = n ∧ (allF W fls n).2.length = n
  | 0 => ⟨rfl, rfl⟩
  | n + 1 => by
    have := allF_len W fls n
    unfold allF
    rw [List.length_append, List.length_append, this.1, this.2]
    exact ⟨rfl, rfl⟩
theorem lastRow_snoc (pls : List Pl) (p : Pl) : lastRow (pls ++ [p]) = p.y := by
  unfold lastRow
  rw [List.getLast?_append]
  rfl
def PapsAt (H : Hp) (qa : List Addr) (pps : List (List Tri)) : Prop := qa.length = pps.length ∧ ∀ (i : Nat) (q : Addr) (ts : List Tri), qa[i]? = some q → pps[i]? = some ts → ∃ ta : List Addr, H q = some (.lst (ta.map V.ref)) ∧ RowsOf H ta (ts.map triV)
theorem PapsAt.same {H H2 : Hp} {qa : List Addr} {pps : List (List Tri)} (h : PapsAt H qa pps) (s : Same H H2) : PapsAt H2 qa pps := ⟨h.1, fun i q ts e1 e2 => by
  obtain ⟨ta, h1, h2⟩ := h.2 i q ts e1 e2
  exact ⟨ta, s _ _ h1, h2.same s⟩⟩
theorem RowsOf.updL {H : Hp} {as : List Addr} {rows : List (List V)} {l : Addr} {xs : List V} {o : HO} (h : RowsOf H as rows) (hl : H l = some (.lst xs)) : RowsOf (upd H l o) as rows := ⟨h.1, fun i p r e1 e2 => by
  have hp := h.2 i p r e1 e2
  rw [upd_ne (ne_of hp hl (by intro z; cases z))]
  exact hp⟩
theorem PapsAt.updL {H : Hp} {qa : List Addr} {pps : List (List Tri)} {l : Addr} {xs : List V} {o : HO} (h : PapsAt H qa pps) (hl : H l = some (.lst xs)) (hn : ∀ q ∈ qa, q ≠ l) : PapsAt (upd H l o) qa pps := ⟨h.1, fun i q ts e1 e2 => by
  obtain ⟨ta, h1, h2⟩ := h.2 i q ts e1 e2
  exact ⟨ta, by rw [upd_ne (hn q (List.mem_of_getElem? e1))]; exact h1, h2.updL hl⟩⟩
theorem PapsAt.snoc {H : Hp} {qa : List Addr} {pps : List (List Tri)} {q : Addr} {ts : List Tri} {ta : List Addr} (h : PapsAt H qa pps) (hq : H q = some (.lst (ta.map V.ref))) (ht : RowsOf H ta (ts.map triV)) : PapsAt H (qa ++ [q]) (pps ++ [ts]) := by
  refine ⟨by rw [List.length_append, List.length_append, h.1]; rfl, fun i p x e1 e2 => ?_⟩
  by_cases hi : i < qa.length
  · rw [List.getElem?_append_left hi] at e1
    rw [List.getElem?_append_left (by rw [← h.1]; exact hi)] at e2
    exact h.2 i p x e1 e2
  · rw [List.getElem?_append_right (by omega)] at e1
    rw [List.getElem?_append_right (by rw [← h.1]; omega), ← h.1] at e2
    cases e : i - qa.length with
    | zero =>
      rw [e] at e1 e2
      cases e1
      cases e2
      exact ⟨ta, hq, ht⟩
    | succ d => rw [e] at e1; simp at e1
end S2
namespace S2
open PySem L2
structure InW (W row : Int) (p : Pl) : Prop where
  x0 : 0 ≤ p.x
  xw : p.x + p.w ≤ W
  w0 : 0 < p.w
  h0 : 0 < p.h
  y : p.y ≤ row
theorem edL_ge {fls : List Fl} {pls : List Pl} {row h : Int} {i : Nat} (m : i ∈ tIdx fls pls true row h) : (gP pls i).x + (gP pls i).w ≤ edL fls pls row h := by
  unfold edL
  cases e : nrL fls pls row h with
  | none =>
    have := bestR_none e
    rw [this] at m
    cases m
  | some j => exact (bestR_some e).2 i m
theorem edR_le {W : Int} {fls : List Fl} {pls : List Pl} {row h : Int} {i : Nat} (m : i ∈ tIdx fls pls false row h) : edR W fls pls row h ≤ (gP pls i).x := by
  unfold edR
  cases e : nrR fls pls row h with
  | none =>
    have := bestL_none e
    rw [this] at m
    cases m
  | some j => exact (bestL_some e).2 i m
theorem edL_is (fls : List Fl) (pls : List Pl) (row h : Int) : edL fls pls row h = 0 ∨ ∃ i ∈ tIdx fls pls true row h, edL fls pls row h = (gP pls i).x + (gP pls i).w := by
  unfold edL
  cases e : nrL fls pls row h with
  | none => exact .inl rfl
  | some j => exact .inr ⟨j, (bestR_some e).1, rfl⟩
theorem edR_is (W : Int) (fls : List Fl) (pls : List Pl) (row h : Int) : edR W fls pls row h = W ∨ ∃ i ∈ tIdx fls pls false row h, edR W fls pls row h = (gP pls i).x := by
  unfold edR
  cases e : nrR fls pls row h with
  | none => exact .inl rfl
  | some j => exact .inr ⟨j, (bestL_some e).1, rfl⟩
theorem edL_0 {W row0 : Int} {fls : List Fl} {pls : List Pl} (hp : ∀ p ∈ pls, InW W row0 p) (row h : Int) : 0 ≤ edL fls pls row h := by
  rcases edL_is fls pls row h with e | ⟨i, m, e⟩
  · omega
  · have q := hp _ (gP_mem (mem_tIdx.mp m).2.1)
    have := q.x0
    have := q.w0
    omega
theorem edR_W {W row0 : Int} {fls : List Fl} {pls : List Pl} (hp : ∀ p ∈ pls, InW W row0 p) (row h : Int) : edR W fls pls row h ≤ W := by
  rcases edR_is W fls pls row h with e | ⟨i, m, e⟩
  · omega
  · have q := hp _ (gP_mem (mem_tIdx.mp m).2.1)
    have := q.xw
    have := q.w0
    omega
theorem tou_on {W row r h : Int} {p : Pl} (q : InW W row p) (hr : row ≤ r) (hh : 0 < h) (he : r < endOf p) : touB p r h = true := by
  have := q.y
  have := q.h0
  unfold endOf at he
  exact touB_iff.mpr ⟨by omega, by omega, he, by omega⟩
theorem tight {W : Int} {fls : List Fl} {pls : List Pl} {w h row r : Int} (hp : ∀ p ∈ pls, InW W row p) (hw : w ≤ W) (hh : 0 < h) (hf : edR W fls pls row h - edL fls pls row h < w) (h1 : row ≤ r) (h2 : r < triRow pls (nrL fls pls row h) (nrR fls pls row h)) :
    edR W fls pls r h - edL fls pls r h < w := by
  have L : edL fls pls row h ≤ edL fls pls r h := by
    have z0 := edL_0 (fls := fls) hp r h
    cases e : nrL fls pls row h with
    | none =>
      have : edL fls pls row h = 0 := by unfold edL; rw [e]
      omega
    | some i =>
      have m := mem_tIdx.mp (bestR_some e).1
      have ee : edL fls pls row h = (gP pls i).x + (gP pls i).w := by unfold edL; rw [e]
      have he : r < endOf (gP pls i) := by
        rw [e] at h2
        cases e2 : nrR fls pls row h with
        | none => rw [e2] at h2; exact h2
        | some j =>
          rw [e2] at h2
          have h3 : r < (if endOf (gP pls j) < endOf (gP pls i) then endOf (gP pls j) else endOf (gP pls i)) := h2
          split at h3 <;> omega
      have := edL_ge (mem_tIdx.mpr ⟨m.1, m.2.1, m.2.2.1, tou_on (hp _ (gP_mem m.2.1)) h1 hh he⟩)
      omega
  have R : edR W fls pls r h ≤ edR W fls pls row h := by
    have z0 := edR_W (fls := fls) hp r h
    cases e : nrR fls pls row h with
    | none =>
      have : edR W fls pls row h = W := by unfold edR; rw [e]
      omega
    | some i =>
      have m := mem_tIdx.mp (bestL_some e).1
      have ee : edR W fls pls row h = (gP pls i).x := by unfold edR; rw [e]
      have he : r < endOf (gP pls i) := by
        rw [e] at h2
        cases e2 : nrL fls pls row h with
        | none => rw [e2] at h2; exact h2
        | some j =>
          rw [e2] at h2
          have h3 : r < (if endOf (gP pls i) < endOf (gP pls j) then endOf (gP pls i) else endOf (gP pls j)) := h2
          split at h3 <;> omega
      have := edR_le (W := W) (mem_tIdx.mpr ⟨m.1, m.2.1, m.2.2.1, tou_on (hp _ (gP_mem m.2.1)) h1 hh he⟩)
      omega
  omega
theorem InW.mono {W row row' : Int} {p : Pl} (q : InW W row p) (h : row ≤ row') : InW W row' p := ⟨q.x0, q.xw, q.w0, q.h0, Int.le_trans q.y h⟩
theorem first_fit {W : Int} {fls : List Fl} {pls : List Pl} {w h : Int} (hw : w ≤ W) (hh : 0 < h) : ∀ (n : Nat) (row : Int), (∀ p ∈ pls, InW W row p) → cntF row pls ≤ n →
    row ≤ (papF W fls pls w h n row).2 ∧ w ≤ edR W fls pls (papF W fls pls w h n row).2 h - edL fls pls (papF W fls pls w h n row).2 h ∧ ∀ r, row ≤ r → r < (papF W fls pls w h n row).2 → edR W fls pls r h - edL fls pls r h < w := by
  intro n
  induction n with
  | zero =>
    intro row hp hc
    refine ⟨Int.le_refl _, ?_, fun r h1 h2 => absurd h1 (by have : r < row := h2; omega)⟩
    show w ≤ edR W fls pls row h - edL fls pls row h
    by_cases hf : edR W fls pls row h - edL fls pls row h < w
    · have := (noFit hw hf).2.2
      omega
    · omega
  | succ n ih =>
    intro row hp hc
    by_cases hf : edR W fls pls row h - edL fls pls row h < w
    · obtain ⟨_, n2, n3⟩ := noFit hw hf
      have q := ih (triRow pls (nrL fls pls row h) (nrR fls pls row h)) (fun p hm => (hp p hm).mono (by omega)) (by omega)
      have e : (papF W fls pls w h (n + 1) row).2 = (papF W fls pls w h n (triRow pls (nrL fls pls row h) (nrR fls pls row h))).2 := by rw [papF, if_pos hf]
      rw [e]
      refine ⟨by omega, q.2.1, fun r h1 h2 => ?_⟩
      by_cases hr : r < triRow pls (nrL fls pls row h) (nrR fls pls row h)
      · exact tight hp hw hh hf h1 hr
      · exact q.2.2 r (by omega) h2
    · have e : (papF W fls pls w h (n + 1) row).2 = row := by rw [papF, if_neg hf]
      rw [e]
      exact ⟨Int.le_refl _, by omega, fun r h1 h2 => by omega⟩
def FlsOk (W : Int) (fls : List Fl) : Prop := ∀ f ∈ fls, 0 < f.w ∧ f.w ≤ W ∧ 0 < f.h
theorem gF_mem' {fls : List Fl} {i : Nat} (h : i < fls.length) : gF fls i ∈ fls := by
  rw [gF_of (List.getElem?_eq_getElem h)]
  exact List.getElem_mem h
structure StandOk (W : Int) (fls : List Fl) (pls : List Pl) (row : Int) (st : Pl) : Prop where
  nm : st.nm = (gF fls pls.length).nm
  w : st.w = (gF fls pls.length).w
  h : st.h = (gF fls pls.length).h
  ge : row ≤ st.y
  x : st.x = if (gF fls pls.length).lf = true then edL fls pls st.y (gF fls pls.length).h else edR W fls pls st.y (gF fls pls.length).h - (gF fls pls.length).w
  fit : (gF fls pls.length).w ≤ edR W fls pls st.y (gF fls pls.length).h - edL fls pls st.y (gF fls pls.length).h
  first : ∀ r, row ≤ r → r < st.y → edR W fls pls r (gF fls pls.length).h - edL fls pls r (gF fls pls.length).h < (gF fls pls.length).w
theorem standF_ok {W : Int} {fls : List Fl} {pls : List Pl} {row : Int} (hF : FlsOk W fls) (hl : pls.length < fls.length) (hp : ∀ p ∈ pls, InW W row p) : StandOk W fls pls row (standF W fls pls row).1 := by
  obtain ⟨f1, f2, f3⟩ := hF _ (gF_mem' hl)
  obtain ⟨q1, q2, q3⟩ := first_fit (fls := fls) (pls := pls) f2 f3 (cntF row pls) row hp (Nat.le_refl _)
  exact ⟨rfl, rfl, rfl, q1, rfl, q2, q3⟩
theorem allF_ok {W : Int} {fls : List Fl} (hF : FlsOk W fls) : ∀ n, n ≤ fls.length → 0 ≤ lastRow (allF W fls n).1 ∧ ∀ p ∈ (allF W fls n).1, InW W (lastRow (allF W fls n).1) p
  | 0, _ => ⟨Int.le_refl _, fun p hp => by cases hp⟩
  | n + 1, hn => by
    obtain ⟨q0, q1⟩ := allF_ok hF n (by omega)
    have ln := (allF_len W fls n).1
    have st := standF_ok (row := lastRow (allF W fls n).1) hF (by rw [ln]; omega) q1
    have e : (allF W fls (n + 1)).1 = (allF W fls n).1 ++ [(standF W fls (allF W fls n).1 (lastRow (allF W fls n).1)).1] := rfl
    rw [e, lastRow_snoc]
    generalize (standF W fls (allF W fls n).1 (lastRow (allF W fls n).1)).1 = s at *
    obtain ⟨f1, f2, f3⟩ := hF _ (gF_mem' (fls := fls) (i := (allF W fls n).1.length) (by rw [ln]; omega))
    have z0 := edL_0 (fls := fls) q1 s.y (gF fls (allF W fls n).1.length).h
    have z1 := edR_W (fls := fls) q1 s.y (gF fls (allF W fls n).1.length).h
    have hfit := st.fit
    have hx := st.x
    have hw := st.w
    have hh := st.h
    have hge := st.ge
    refine ⟨by omega, fun p hp => ?_⟩
    rcases List.mem_append.mp hp with z | z
    · exact (q1 p z).mono hge
    · rw [List.mem_singleton.mp z]
      refine ⟨?_, ?_, by omega, by omega, Int.le_refl _⟩
      · rw [hx]; split <;> omega
      · rw [hx, hw]; split <;> omega
end S2
namespace S2
open PySem L2
def lawTou (row high : Int) (p : Pl) : Bool := decide (p.y < row + high) && decide (row < p.y + p.h)
def stepL (row high : Int) (m : Int) (p : Pl) : Int := if lawTou row high p = true then (if p.x + p.w > m then p.x + p.w else m) else m
def stepR (row high : Int) (m : Int) (p : Pl) : Int := if lawTou row high p = true then (if p.x < m then p.x else m) else m
theorem foldL_props (row high : Int) : ∀ (l : List Pl) (m : Int), m ≤ l.foldl (stepL row high) m ∧ (∀ p ∈ l, lawTou row high p = true → p.x + p.w ≤ l.foldl (stepL row high) m) ∧ (l.foldl (stepL row high) m = m ∨ ∃ p ∈ l, lawTou row high p = true ∧ l.foldl (stepL row high) m = p.x + p.w)
  | [], m => ⟨Int.le_refl _, fun p hp => (by cases hp), .inl rfl⟩
  | q :: l, m => by
    obtain ⟨h1, h2, h3⟩ := foldL_props row high l (stepL row high m q)
    rw [List.foldl_cons]
    generalize l.foldl (stepL row high) (stepL row high m q) = R at *
    have hs : m ≤ stepL row high m q ∧ (lawTou row high q = true → q.x + q.w ≤ stepL row high m q) ∧ (stepL row high m q = m ∨ (lawTou row high q = true ∧ stepL row high m q = q.x + q.w)) := by
      unfold stepL
      by_cases ht : lawTou row high q = true
      · rw [if_pos ht]
        split
        · exact ⟨by omega, fun _ => by omega, .inr ⟨ht, rfl⟩⟩
        · exact ⟨by omega, fun _ => by omega, .inl rfl⟩
      · rw [if_neg ht]
        exact ⟨by omega, fun z => absurd z ht, .inl rfl⟩
    refine ⟨by omega, fun p hp ht => ?_, ?_⟩
    · rcases List.mem_cons.mp hp with z | z
      · subst z; have := hs.2.1 ht; omega
      · exact h2 p z ht
    · rcases h3 with e | ⟨p, hp, ht, e⟩
      · rcases hs.2.2 with e2 | ⟨ht, e2⟩
        · exact .inl (by omega)
        · exact .inr ⟨q, List.mem_cons_self .., ht, by omega⟩
      · exact .inr ⟨p, List.mem_cons_of_mem _ hp, ht, e⟩
theorem foldR_props (row high : Int) : ∀ (l : List Pl) (m : Int), l.foldl (stepR row high) m ≤ m ∧ (∀ p ∈ l, lawTou row high p = true → l.foldl (stepR row high) m ≤ p.x) ∧ (l.foldl (stepR row high) m = m ∨ ∃ p ∈ l, lawTou row high p = true ∧ l.foldl (stepR row high) m = p.x)
  | [], m => ⟨Int.le_refl _, fun p hp => (by cases hp), .inl rfl⟩
  | q :: l, m => by
    obtain ⟨h1, h2, h3⟩ := foldR_props row high l (stepR row high m q)
    rw [List.foldl_cons]
    generalize l.foldl (stepR row high) (stepR row high m q) = R at *
    have hs : stepR row high m q ≤ m ∧ (lawTou row high q = true → stepR row high m q ≤ q.x) ∧ (stepR row high m q = m ∨ (lawTou row high q = true ∧ stepR row high m q = q.x)) := by
      unfold stepR
      by_cases ht : lawTou row high q = true
      · rw [if_pos ht]
        split
        · exact ⟨by omega, fun _ => by omega, .inr ⟨ht, rfl⟩⟩
        · exact ⟨by omega, fun _ => by omega, .inl rfl⟩
      · rw [if_neg ht]
        exact ⟨by omega, fun z => absurd z ht, .inl rfl⟩
    refine ⟨by omega, fun p hp ht => ?_, ?_⟩
    · rcases List.mem_cons.mp hp with z | z
      · subst z; have := hs.2.1 ht; omega
      · exact h2 p z ht
    · rcases h3 with e | ⟨p, hp, ht, e⟩
      · rcases hs.2.2 with e2 | ⟨ht, e2⟩
        · exact .inl (by omega)
        · exact .inr ⟨q, List.mem_cons_self .., ht, by omega⟩
      · exact .inr ⟨p, List.mem_cons_of_mem _ hp, ht, e⟩
def sideF (fls : List Fl) (sd : Bool) (pls : List Pl) : List Pl := ((List.range pls.length).filter fun i => decide ((gF fls i).lf = sd)).map (gP pls)
theorem mem_sideF {fls : List Fl} {sd : Bool} {pls : List Pl} {p : Pl} : p ∈ sideF fls sd pls ↔ ∃ i, i < pls.length ∧ (gF fls i).lf = sd ∧ p = gP pls i := by
  unfold sideF
  rw [List.mem_map]
  constructor
  · intro ⟨i, hi, e⟩
    rw [List.mem_filter, List.mem_range, decide_eq_true_iff] at hi
    exact ⟨i, hi.1, hi.2, e.symm⟩
  · intro ⟨i, h1, h2, e⟩
    exact ⟨i, by rw [List.mem_filter, List.mem_range, decide_eq_true_iff]; exact ⟨h1, h2⟩, e.symm⟩
theorem gP_snoc_lt {pls : List Pl} {s : Pl} {i : Nat} (h : i < pls.length) : gP (pls ++ [s]) i = gP pls i := by
  rw [gP_of (List.getElem?_eq_getElem h), gP_of (p := pls[i]) (by rw [List.getElem?_append_left h, List.getElem?_eq_getElem h])]
theorem gP_snoc_eq {pls : List Pl} {s : Pl} : gP (pls ++ [s]) pls.length = s := gP_of (by rw [List.getElem?_append_right (Nat.le_refl _), Nat.sub_self]; rfl)
theorem sideF_snoc (fls : List Fl) (sd : Bool) (pls : List Pl) (s : Pl) : sideF fls sd (pls ++ [s]) = sideF fls sd pls ++ (if (gF fls pls.length).lf = sd then [s] else []) := by
  unfold sideF
  rw [List.length_append, List.length_singleton, List.range_succ, List.filter_append, List.map_append]
  congr 1
  · refine List.map_congr_left fun i hi => ?_
    rw [List.mem_filter, List.mem_range] at hi
    exact gP_snoc_lt hi.1
  · by_cases h : (gF fls pls.length).lf = sd
    · rw [if_pos h, List.filter_cons_of_pos (by rw [decide_eq_true_iff]; exact h)]
      show [gP (pls ++ [s]) pls.length] = [s]
      rw [gP_snoc_eq]
    · rw [if_neg h, List.filter_cons_of_neg (by rw [decide_eq_true_iff]; exact h)]
      rfl
theorem lawTou_eq {W row0 row high : Int} {p : Pl} (q : InW W row0 p) (hh : 0 < high) : lawTou row high p = touB p row high := by
  have := q.h0
  rw [Bool.eq_iff_iff, touB_iff]
  unfold lawTou
  rw [Bool.and_eq_true, decide_eq_true_iff, decide_eq_true_iff]
  constructor
  · intro ⟨a, b⟩; exact ⟨by omega, a, b, by omega⟩
  · intro ⟨a, b, c, d⟩; exact ⟨b, c⟩
theorem foldL_ed {W row0 : Int} {fls : List Fl} {pls : List Pl} (hp : ∀ p ∈ pls, InW W row0 p) (hl : pls.length ≤ fls.length) {row high : Int} (hh : 0 < high) : (sideF fls true pls).foldl (stepL row high) 0 = edL fls pls row high := by
  obtain ⟨h1, h2, h3⟩ := foldL_props row high (sideF fls true pls) 0
  have z0 := edL_0 (fls := fls) hp row high
  have le1 : edL fls pls row high ≤ (sideF fls true pls).foldl (stepL row high) 0 := by
    rcases edL_is fls pls row high with e | ⟨i, m, e⟩
    · omega
    · have q := mem_tIdx.mp m
      have := h2 (gP pls i) (mem_sideF.mpr ⟨i, q.2.1, q.2.2.1, rfl⟩) (by rw [lawTou_eq (hp _ (gP_mem q.2.1)) hh]; exact q.2.2.2)
      omega
  have le2 : (sideF fls true pls).foldl (stepL row high) 0 ≤ edL fls pls row high := by
    rcases h3 with e | ⟨p, hm, ht, e⟩
    · omega
    · obtain ⟨i, i1, i2, rfl⟩ := mem_sideF.mp hm
      rw [lawTou_eq (hp _ (gP_mem i1)) hh] at ht
      have := edL_ge (mem_tIdx.mpr ⟨by omega, i1, i2, ht⟩)
      omega
  omega
theorem foldR_ed {W row0 : Int} {fls : List Fl} {pls : List Pl} (hp : ∀ p ∈ pls, InW W row0 p) (hl : pls.length ≤ fls.length) {row high : Int} (hh : 0 < high) : (sideF fls false pls).foldl (stepR row high) W = edR W fls pls row high := by
  obtain ⟨h1, h2, h3⟩ := foldR_props row high (sideF fls false pls) W
  have z0 := edR_W (fls := fls) hp row high
  have le1 : (sideF fls false pls).foldl (stepR row high) W ≤ edR W fls pls row high := by
    rcases edR_is W fls pls row high with e | ⟨i, m, e⟩
    · omega
    · have q := mem_tIdx.mp m
      have := h2 (gP pls i) (mem_sideF.mpr ⟨i, q.2.1, q.2.2.1, rfl⟩) (by rw [lawTou_eq (hp _ (gP_mem q.2.1)) hh]; exact q.2.2.2)
      omega
  have le2 : edR W fls pls row high ≤ (sideF fls false pls).foldl (stepR row high) W := by
    rcases h3 with e | ⟨p, hm, ht, e⟩
    · omega
    · obtain ⟨i, i1, i2, rfl⟩ := mem_sideF.mp hm
      rw [lawTou_eq (hp _ (gP_mem i1)) hh] at ht
      have := edR_le (W := W) (mem_tIdx.mpr ⟨by omega, i1, i2, ht⟩)
      omega
  omega
theorem fold_take {α β : Type} {f : β → α → β} {m : β} {l : List α} {i : Nat} {x : α} (h : l[i]? = some x) : (l.take (i + 1)).foldl f m = f ((l.take i).foldl f m) x := by
  rw [List.take_add_one, h, List.foldl_append]
  rfl
end S2
namespace L2
open PySem PySem.Spec PyProof.Rows
section
variable {X : Cx} {tg : Expr}
end
end L2
namespace B71
open PySem L2 S2
def top (i : Nat) : Stmt := PySem.Challenge.pw_boxgalley_k71_whole_stretches.main.body.getD i (.Pass ⟨0, 0, 0, 0⟩)
abbrev sTou : Stmt := top 4
abbrev sTouching : Stmt := top 5
abbrev sLEnd : Stmt := top 6
abbrev sREnd : Stmt := top 7
abbrev sNear : Stmt := top 8
abbrev sEdges : Stmt := top 9
abbrev sAcross : Stmt := top 10
abbrev sTriple : Stmt := top 11
abbrev sStand : Stmt := top 12
abbrev sStandAll : Stmt := top 13
abbrev sStretches : Stmt := top 14
abbrev sWidths : Stmt := top 15
abbrev sCell : Stmt := top 17
abbrev sNumbers : Stmt := top 18
abbrev sLNames : Stmt := top 19
abbrev sLRowDue : Stmt := top 20
abbrev sLFree : Stmt := top 21
abbrev sLInOrder : Stmt := top 22
abbrev sLaw : Stmt := top 23
structure Names (mg : Str → Option Value) : Prop where
  len : mg "len" = none
  max : mg "max" = none
  min : mg "min" = none
  zip : mg "zip" = none
  list : mg "list" = none
  tuple : mg "tuple" = none
  int : mg "int" = none
  inst : mg "isinstance" = none
  enum : mg "enumerate" = none
  range : mg "range" = none
  sorted : mg "sorted" = none
  set : mg "set" = none
theorem asg_join {te : TE} {g : TG} {D : Ends} {σ : St} {H : Hp} (v : V) (ht : ∀ Q', (∀ H', Same H H' → Q' v H') → te σ H Q') (h : ∀ H', Same H H' → g v σ H' D.nx) : tAsg te g D σ H := ht _ h
theorem rmaxK_of {K : PySem.W.Frag} {f : Addr} {sp : Sp} {H : Hp} {Q : VK} {l : Addr} {as : List Addr} {kf : Nat → Int} (hS : SqL K H l (as.map V.ref)) (hk : KeyOk sp H as kf)
    (v : V) (hv : v = match as[argBest (fun i j => decide (kf i > kf j)) (as.length - 1)]? with | none => .non | some a => .ref a) (h : ∀ H', Same H H' → Q v H') : rmaxK K f sp [.ref l] [.ref f, .non] H Q := by
  subst hv
  refine ⟨l, as, kf, rfl, rfl, hS, hk, fun e H' s' => ?_, fun a H' e s' => ?_⟩
  · subst e
    exact h H' s'
  · have := h H' s'
    rw [e] at this
    exact this
theorem rminK_of {K : PySem.W.Frag} {f : Addr} {sp : Sp} {H : Hp} {Q : VK} {l : Addr} {as : List Addr} {kf : Nat → Int} (hS : SqL K H l (as.map V.ref)) (hk : KeyOk sp H as kf)
    (v : V) (hv : v = match as[argBest (fun i j => decide (kf i < kf j)) (as.length - 1)]? with | none => .non | some a => .ref a) (h : ∀ H', Same H H' → Q v H') : rminK K f sp [.ref l] [.ref f, .non] H Q := by
  subst hv
  refine ⟨l, as, kf, rfl, rfl, hS, hk, fun e H' s' => ?_, fun a H' e s' => ?_⟩
  · subst e
    exact h H' s'
  · have := h H' s'
    rw [e] at this
    exact this
theorem pg_twoK {X : Cx} {K : PySem.W.Frag} (hK : X.K = K) {x y : Str} {px py pt : Pos} {kk : Nat} (hc : X.calm = true) (hN : X.N.Nodup) (h0 : X.N[0]? = some x) (h1 : X.N[1]? = some y) (hx : X.env.scope.names.lookup x = some .local) (hy : X.env.scope.names.lookup y = some .local)
    (ha : (assignEach [.Name x px, .Name y py] X.env).map (·.2) = [assign (.Name x px) X.env, assign (.Name y py) X.env] := by rfl) (hb : (assignEach [.Name y py] X.env).map (·.2) = [assign (.Name y py) X.env] := by rfl)
    (hn : (assignEach [.Name x px, .Name y py] X.env).length = 2 := by rfl) (hst : (assignEach [.Name x px, .Name y py] X.env).findIdx? (·.1) = none := by rfl) : PG X (.Tuple [.Name x px, .Name y py] kk pt) (gTwo K) := by
  subst hK
  exact pg_tup hc (pgs_cons (pg_name hN h0 (.inl hx) (.inr hx)) (pgs_cons (pg_name hN h1 (.inl hy) (.inr hy)) pgs_nil (by rw [hb]; rfl)) (by rw [ha, hb])) hn hst
def FlAt (H : Hp) (a : Addr) (fa : List Addr) (fls : List Fl) : Prop := H a = some (.lst (fa.map V.ref)) ∧ RowsOf H fa (fls.map flRow) ∧ fls.length ≤ 100
def PlAt (H : Hp) (b : Addr) (pa : List Addr) (pls : List Pl) : Prop := H b = some (.lst (pa.map V.ref)) ∧ RowsOf H pa (pls.map plRow) ∧ pls.length ≤ 100
theorem FlAt.same {H H2 : Hp} {a : Addr} {fa : List Addr} {fls : List Fl} (h : FlAt H a fa fls) (s : Same H H2) : FlAt H2 a fa fls := ⟨s _ _ h.1, h.2.1.same s, h.2.2⟩
theorem PlAt.same {H H2 : Hp} {a : Addr} {fa : List Addr} {fls : List Pl} (h : PlAt H a fa fls) (s : Same H H2) : PlAt H2 a fa fls := ⟨s _ _ h.1, h.2.1.same s, h.2.2⟩
theorem row_map {α : Type} {f : α → List V} {xs : List α} {i : Nat} {r : List V} (h : (xs.map f)[i]? = some r) : ∃ x, xs[i]? = some x ∧ r = f x := by
  rw [List.getElem?_map] at h
  cases e : xs[i]? with
  | none => rw [e] at h; cases h
  | some x => rw [e] at h; exact ⟨x, rfl, (Option.some.inj h).symm⟩
theorem PlAt.get {H : Hp} {b : Addr} {pa : List Addr} {pls : List Pl} (h : PlAt H b pa pls) {i : Nat} (hi : i < pls.length) : pa[i]? = some (pa.getD i 0) ∧ H (pa.getD i 0) = some (.tup (plRow (gP pls i))) := by
  have hl : pa.length = pls.length := by rw [h.2.1.1, List.length_map]
  have e1 : pa[i]? = some (pa.getD i 0) := by
    rw [List.getD_eq_getElem?_getD, List.getElem?_eq_getElem (by omega)]
    rfl
  refine ⟨e1, h.2.1.2 i _ _ e1 ?_⟩
  rw [List.getElem?_map, List.getElem?_eq_getElem hi]
  rw [gP_of (List.getElem?_eq_getElem hi)]
  rfl
def spTou : Sp := fun vs H Q _ => ∃ (a : Addr) (p : Pl) (row high : Int), vs = [.ref a, .int row, .int high] ∧ H a = some (.tup (plRow p)) ∧ Q (.bl (touB p row high)) H
def spTouching : Sp := fun vs H Q _ => ∃ (a b : Addr) (fa pa : List Addr) (fls : List Fl) (pls : List Pl) (sd : Bool) (row high : Int), vs = [.ref a, .ref b, .str (sideOf sd), .int row, .int high] ∧ FlAt H a fa fls ∧ PlAt H b pa pls ∧
  ∀ D H', H D = none → Same H H' → H' D = some (.lst ((tIdx fls pls sd row high).map fun i => V.ref (pa.getD i 0))) → Q (.ref D) H'
def spLEnd : Sp := fun vs H Q _ => ∃ (a : Addr) (p : Pl), vs = [.ref a] ∧ H a = some (.tup (plRow p)) ∧ Q (.int p.x) H
def spREnd : Sp := fun vs H Q _ => ∃ (a : Addr) (p : Pl), vs = [.ref a] ∧ H a = some (.tup (plRow p)) ∧ Q (.int (p.x + p.w)) H
def spNear : Sp := fun vs H Q _ => ∃ (a b : Addr) (fa pa : List Addr) (fls : List Fl) (pls : List Pl) (row high : Int), vs = [.ref a, .ref b, .int row, .int high] ∧ FlAt H a fa fls ∧ PlAt H b pa pls ∧
  ∀ t H', H t = none → Same H H' → H' t = some (.tup [optV pa (nrL fls pls row high), optV pa (nrR fls pls row high)]) → Q (.ref t) H'
def spEdges : Sp := fun vs H Q _ => ∃ (a b : Addr) (fa pa : List Addr) (fls : List Fl) (pls : List Pl) (W row high : Int), vs = [.int W, .ref a, .ref b, .int row, .int high] ∧ FlAt H a fa fls ∧ PlAt H b pa pls ∧
  ∀ t H', H t = none → Same H H' → H' t = some (.tup [.int (edL fls pls row high), .int (edR W fls pls row high)]) → Q (.ref t) H'
section
variable {P : Program} {w : World} {K : PySem.W.Frag} {mg : Str → Option Value} {base : Heap}
theorem scTou : FnScope ["placed", "row", "high"] ["placed", "row", "high"] (defScope sTou) := ⟨rfl, rfl, rfl, by decide +kernel, rfl, by decide +kernel, by decide +kernel⟩
theorem ok_tou {f : Addr} {fd : FuncData} (F : Fun K "touches" "touches" sTou f fd) (N : Names mg) : FnOk P w K mg base CX0 1 f fd ["placed", "row", "high"] spTou := by
  refine F.ok scTou (fun vs H Q E h => ?_) (fun cdv A outer s H vs Q E hr h => ?_)
  · obtain ⟨a, p, row, high, e, _⟩ := h
    rw [e]
    rfl
  · obtain ⟨a, p, row, high, e, ha, k⟩ := h
    subst e
    refine ⟨_, pss_one (ps_ret (pe_cmpR op_lt (pe_callB (call_max2 rfl) (by rfl) N.max PyProof.Rows.boot_max (pa_cons (pe_ix ix_tup (pv 0) pe_int (fun _ _ => rfl)) (pa_cons (pv 1) pa_nil)))
      (pe_callB (call_min2 rfl) (by rfl) N.min PyProof.Rows.boot_min (pa_cons (pe_op op_add (pe_ix ix_tup (pv 0) pe_int (fun _ _ => rfl)) (pe_ix ix_tup (pv 0) pe_int (fun _ _ => rfl))) (pa_cons (pe_op op_add (pv 1) (pv 2)) pa_nil))) (nomark _))), ?_⟩
    refine ⟨_, rfl, a, _, _, _, rfl, rfl, SqT.of ha, atI_nat (j := 2) rfl, _, rfl, _, _, rfl, ?_⟩
    refine ⟨_, rfl, a, _, _, _, rfl, rfl, SqT.of ha, atI_nat (j := 2) rfl, _, rfl, a, _, _, _, rfl, rfl, SqT.of ha, atI_nat (j := 4) rfl, _, _, rfl, rfl, _, rfl, _, rfl, _, _, rfl, rfl, _, _, rfl, _, _, rfl, rfl, ?_⟩
    exact k
theorem scLEnd : FnScope ["placed"] ["placed"] (defScope sLEnd) := ⟨rfl, rfl, rfl, by decide +kernel, rfl, by decide +kernel, by decide +kernel⟩
theorem ok_lend {f : Addr} {fd : FuncData} (F : Fun K "left_end" "left_end" sLEnd f fd) : FnOk P w K mg base CX0 1 f fd ["placed"] spLEnd := by
  refine F.ok scLEnd (fun vs H Q E h => ?_) (fun cdv A outer s H vs Q E hr h => ?_)
  · obtain ⟨a, p, e, _⟩ := h
    rw [e]
    rfl
  · obtain ⟨a, p, e, ha, k⟩ := h
    subst e
    refine ⟨_, pss_one (ps_ret (pe_ix ix_tup (pv 0) pe_int (fun _ _ => rfl))), ?_⟩
    exact ⟨_, rfl, a, _, _, _, rfl, rfl, SqT.of ha, atI_nat (j := 1) rfl, k⟩
theorem scREnd : FnScope ["placed"] ["placed"] (defScope sREnd) := ⟨rfl, rfl, rfl, by decide +kernel, rfl, by decide +kernel, by decide +kernel⟩
theorem ok_rend {f : Addr} {fd : FuncData} (F : Fun K "right_end" "right_end" sREnd f fd) : FnOk P w K mg base CX0 1 f fd ["placed"] spREnd := by
  refine F.ok scREnd (fun vs H Q E h => ?_) (fun cdv A outer s H vs Q E hr h => ?_)
  · obtain ⟨a, p, e, _⟩ := h
    rw [e]
    rfl
  · obtain ⟨a, p, e, ha, k⟩ := h
    subst e
    refine ⟨_, pss_one (ps_ret (pe_op op_add (pe_ix ix_tup (pv 0) pe_int (fun _ _ => rfl)) (pe_ix ix_tup (pv 0) pe_int (fun _ _ => rfl)))), ?_⟩
    exact ⟨_, rfl, a, _, _, _, rfl, rfl, SqT.of ha, atI_nat (j := 1) rfl, _, rfl, a, _, _, _, rfl, rfl, SqT.of ha, atI_nat (j := 3) rfl, _, _, rfl, rfl, k⟩
abbrev nTouching : List Str := ["floats", "standing", "side", "row", "high"]
theorem scTouching : FnScope nTouching nTouching (defScope sTouching) := ⟨rfl, rfl, rfl, by decide +kernel, rfl, by decide +kernel, by decide +kernel⟩
theorem ndTouching : (["thing", "placed", "floats", "standing", "side", "row", "high"] : List Str).Nodup := by decide +kernel
set_option maxHeartbeats 2000000 in
theorem ok_touching {f f1 : Addr} {fd d1 : FuncData} (F : Fun K "touching" "touching" sTouching f fd) (N : Names mg) (G1 : FnOk P w K mg base CX0 1 f1 d1 ["placed", "row", "high"] spTou) (b1 : Binds K d1 ["placed", "row", "high"] []) (m1 : mg "touches" = some (.ref f1)) (k1 : PySem.W.keepIn K (.ref f1) = true) :
    FnOk P w K mg base CX0 2 f fd nTouching spTouching := by
  refine F.ok scTouching (fun vs H Q E h => ?_) (fun cdv A outer s H vs Q E hr h => ?_)
  · obtain ⟨a, b, fa, pa, fls, pls, sd, row, high, e, _⟩ := h
    rw [e]
    rfl
  · obtain ⟨a, b, fa, pa, fls, pls, sd, row, high, e, hF, hP, k⟩ := h
    subst e
    refine ⟨_, pss_one (ps_ret (pe_compN (k := 2) (N' := ["thing", "placed", "floats", "standing", "side", "row", "high"]) (compScN_mk (fs := defScope sTouching) (N := nTouching) rfl rfl (by decide +kernel)) rfl
      (pi_zip rfl N.zip (pa_cons (pv 0) (pa_cons (pv 1) pa_nil))) (fun _ _ _ _ _ => pg_twoK (K := K) rfl rfl ndTouching rfl rfl rfl rfl)
      (fun _ _ _ _ _ => pts_one (pw_and (pt_cmpR op_eq (pe_ix (r := rIxT K) ix_tup (pv 0) pe_int (fun _ _ => rfl)) (pv 4) (nomark _)) (pw_and1 (pt_val (pe_call G1 hr (by rfl) m1 k1 b1 .nil pass0 (pa_cons (pv 1) (pa_cons (pv 5) (pa_cons (pv 6) pa_nil))))))).pt)
      (fun _ _ _ _ _ => pv 1))), ?_⟩
    have lf : fa.length = fls.length := by rw [hF.2.1.1, List.length_map]
    have lp : pa.length = pls.length := by rw [hP.2.1.1, List.length_map]
    refine ⟨_, rfl, _, rfl, a, b, rfl, ⟨_, SqL.of hF.1⟩, ⟨_, SqL.of hP.1⟩, ?_⟩
    refine comp_zipP (K := K) (a := a) (b := b) (fun i => decide (sideOf (gF fls i).lf = sideOf sd) && touB (gP pls i) row high) (fun i => V.ref (pa.getD i 0)) (SqL.of hF.1) (SqL.of hP.1) (small (by rw [List.length_map, List.length_map]; have := hF.2.2; omega)) ?_ ?_ ?_
    · intro i x y H' Q' hx hy s1 hq
      obtain ⟨p, r, rfl, ep, er, hp⟩ := hF.2.1.get hx
      obtain ⟨p2, r2, rfl, ep2, er2, hp2⟩ := hP.2.1.get hy
      obtain ⟨fl, efl, rfl⟩ := row_map er
      obtain ⟨pl, epl, rfl⟩ := row_map er2
      refine ⟨_, rfl, p, _, _, _, rfl, rfl, SqT.of (s1 _ _ hp), atI_nat (j := 1) rfl, _, rfl, rfl, _, rfl, ?_⟩
      have hq0 := hq H' (Same.refl _)
      rw [gF_of efl, gP_of epl] at hq0
      refine ite2 (fun hc => ?_) (fun hc => ?_)
      · refine ⟨_, rfl, _, rfl, _, rfl, p2, pl, row, high, rfl, s1 _ _ hp2, _, rfl, ?_⟩
        have e1 : (sideOf fl.lf = sideOf sd) := by simpa using of_decide_eq_true hc
        rw [decide_eq_true e1, Bool.true_and] at hq0
        exact hq0
      · have e1 : ¬ (sideOf fl.lf = sideOf sd) := fun z => hc (decide_eq_true (by rw [z]))
        rw [decide_eq_false e1, Bool.false_and] at hq0
        exact hq0
    · intro i x y H' Q' hc hx hy s1 hq
      obtain ⟨p2, r2, rfl, ep2, er2, hp2⟩ := hP.2.1.get hy
      have e3 : pa.getD i 0 = p2 := by rw [List.getD_eq_getElem?_getD, ep2]; rfl
      refine ⟨_, rfl, ?_⟩
      rw [← e3]
      exact hq H' (Same.refl _)
    · intro D H' hD s1 hl
      refine k D H' hD s1 ?_
      rw [hl]
      unfold tIdx
      rw [List.length_map, List.length_map, lf, lp]
end
section
variable {P : Program} {w : World} {K : PySem.W.Frag} {mg : Str → Option Value} {base : Heap}
theorem scNear : FnScope ["floats", "standing", "row", "high", "lefts", "rights"] ["floats", "standing", "row", "high"] (defScope sNear) := ⟨rfl, rfl, rfl, by decide +kernel, rfl, by decide +kernel, by decide +kernel⟩
theorem idx_map (pa : List Addr) (ix : List Nat) : (ix.map fun i => V.ref (pa.getD i 0)) = (ix.map fun i => pa.getD i 0).map V.ref := by rw [List.map_map]; rfl
theorem keyR {H : Hp} {b : Addr} {pa : List Addr} {pls : List Pl} {ix : List Nat} (hP : PlAt H b pa pls) (hix : ∀ i ∈ ix, i < pls.length) : KeyOk spREnd H (ix.map fun i => pa.getD i 0) (fun i => (gP pls (ix.getD i 0)).x + (gP pls (ix.getD i 0)).w) := by
  intro i a H' Q e s1 hq
  rw [List.getElem?_map] at e
  cases e1 : ix[i]? with
  | none => rw [e1] at e; cases e
  | some j =>
    rw [e1] at e
    have ea : pa.getD j 0 = a := Option.some.inj e
    subst ea
    refine ⟨_, gP pls j, rfl, s1 _ _ (hP.get (hix j (List.mem_of_getElem? e1))).2, ?_⟩
    have := hq H' (Same.refl _)
    dsimp only at this
    rw [getD_of e1] at this
    exact this
theorem keyL {H : Hp} {b : Addr} {pa : List Addr} {pls : List Pl} {ix : List Nat} (hP : PlAt H b pa pls) (hix : ∀ i ∈ ix, i < pls.length) : KeyOk spLEnd H (ix.map fun i => pa.getD i 0) (fun i => (gP pls (ix.getD i 0)).x) := by
  intro i a H' Q e s1 hq
  rw [List.getElem?_map] at e
  cases e1 : ix[i]? with
  | none => rw [e1] at e; cases e
  | some j =>
    rw [e1] at e
    have ea : pa.getD j 0 = a := Option.some.inj e
    subst ea
    refine ⟨_, gP pls j, rfl, s1 _ _ (hP.get (hix j (List.mem_of_getElem? e1))).2, ?_⟩
    have := hq H' (Same.refl _)
    dsimp only at this
    rw [getD_of e1] at this
    exact this
theorem optV_eq (pa : List Addr) (ix : List Nat) (k : Nat) : optV pa ix[k]? = (match (ix.map fun i => pa.getD i 0)[k]? with | none => V.non | some a => .ref a) := by
  rw [List.getElem?_map]
  cases ix[k]? with
  | none => rfl
  | some j => rfl
set_option maxHeartbeats 2000000 in
theorem ok_near {f f1 f2 f3 : Addr} {fd d1 d2 d3 : FuncData} (F : Fun K "nearest" "nearest" sNear f fd) (N : Names mg) (G1 : FnOk P w K mg base CX0 2 f1 d1 nTouching spTouching) (b1 : Binds K d1 nTouching []) (m1 : mg "touching" = some (.ref f1)) (k1 : PySem.W.keepIn K (.ref f1) = true)
    (G2 : FnOk P w K mg base CX0 1 f2 d2 ["placed"] spREnd) (b2 : Binds K d2 ["placed"] []) (m2 : mg "right_end" = some (.ref f2)) (G3 : FnOk P w K mg base CX0 1 f3 d3 ["placed"] spLEnd) (b3 : Binds K d3 ["placed"] []) (m3 : mg "left_end" = some (.ref f3)) :
    FnOk P w K mg base CX0 3 f fd ["floats", "standing", "row", "high"] spNear := by
  refine F.ok scNear (fun vs H Q E h => ?_) (fun cdv A outer s H vs Q E hr h => ?_)
  · obtain ⟨a, b, fa, pa, fls, pls, row, high, e, _⟩ := h
    rw [e]
    rfl
  · obtain ⟨a, b, fa, pa, fls, pls, row, high, e, hF, hP, k⟩ := h
    subst e
    refine ⟨_, pss_cons (ps_set (i := 4) scNear.nd rfl (Or.inl rfl) (pe_call G1 hr rfl m1 k1 b1 .nil pass0 (pa_cons (pv 0) (pa_cons (pv 1) (pa_cons pe_str (pa_cons (pv 2) (pa_cons (pv 3) pa_nil)))))))
      (pss_cons (ps_set (i := 5) scNear.nd rfl (Or.inl rfl) (pe_call G1 hr rfl m1 k1 b1 .nil pass0 (pa_cons (pv 0) (pa_cons (pv 1) (pa_cons pe_str (pa_cons (pv 2) (pa_cons (pv 3) pa_nil)))))))
      (pss_one (ps_ret (pe_tup (pa_cons (pe_maxK G2 hr b2 rfl rfl N.max (pa_cons (pv 4) pa_nil) (pk_cons (pe_glob (v := .ref f2) rfl m2 rfl) (pk_cons pe_non pk_nil))) (pa_cons (pe_minK G3 hr b3 rfl rfl N.min (pa_cons (pv 5) pa_nil) (pk_cons (pe_glob (v := .ref f3) rfl m3 rfl) (pk_cons pe_non pk_nil))) pa_nil)))))), ?_⟩
    refine ⟨_, rfl, _, rfl, _, rfl, _, rfl, a, b, fa, pa, fls, pls, true, row, high, rfl, hF, hP, fun l1 H1 hl1 s1 h1 => ?_⟩
    refine ⟨_, rfl, _, rfl, _, rfl, _, rfl, a, b, fa, pa, fls, pls, false, row, high, rfl, hF.same s1, hP.same s1, fun l2 H2 hl2 s2 h2 => ?_⟩
    have s12 := Same.trans s1 s2
    have h1' := s2 _ _ h1
    rw [idx_map] at h1' h2
    refine ⟨_, rfl, ?_⟩
    dsimp only [tNil, tCons, tC]
    refine rmaxK_of (SqL.of h1') (keyR (hP.same s12) fun i hi => (mem_tIdx.mp hi).2.1) (optV pa (nrL fls pls row high)) (by rw [List.length_map]; exact optV_eq _ _ _) fun H3 s3 => ?_
    have s13 := Same.trans s12 s3
    refine ⟨_, rfl, ?_⟩
    dsimp only [tNil, tCons, tC]
    refine rminK_of (SqL.of (s3 _ _ h2)) (keyL (hP.same s13) fun i hi => (mem_tIdx.mp hi).2.1) (optV pa (nrR fls pls row high)) (by rw [List.length_map]; exact optV_eq _ _ _) fun H4 s4 => ?_
    have s14 := Same.trans s13 s4
    refine ⟨by show 2 ≤ sizeLine; decide, fun t ht => ?_⟩
    have ft : H t = none := same_none s14 ht
    exact k t _ ft (Same.put s14 ft) upd_same
theorem scEdges : FnScope ["W", "floats", "standing", "row", "high", "near", "left", "right"] ["W", "floats", "standing", "row", "high"] (defScope sEdges) := ⟨rfl, rfl, rfl, by decide +kernel, rfl, by decide +kernel, by decide +kernel⟩
theorem nrL_lt {fls : List Fl} {pls : List Pl} {row high : Int} {i : Nat} (h : nrL fls pls row high = some i) : i < pls.length := (mem_tIdx.mp (bestR_some h).1).2.1
theorem nrR_lt {fls : List Fl} {pls : List Pl} {row high : Int} {i : Nat} (h : nrR fls pls row high = some i) : i < pls.length := (mem_tIdx.mp (bestL_some h).1).2.1
set_option maxHeartbeats 2000000 in
theorem ok_edges {f f1 f2 f3 : Addr} {fd d1 d2 d3 : FuncData} (F : Fun K "edges_at" "edges_at" sEdges f fd) (G1 : FnOk P w K mg base CX0 3 f1 d1 ["floats", "standing", "row", "high"] spNear) (b1 : Binds K d1 ["floats", "standing", "row", "high"] []) (m1 : mg "nearest" = some (.ref f1)) (k1 : PySem.W.keepIn K (.ref f1) = true)
    (G2 : FnOk P w K mg base CX0 1 f2 d2 ["placed"] spREnd) (b2 : Binds K d2 ["placed"] []) (m2 : mg "right_end" = some (.ref f2)) (k2 : PySem.W.keepIn K (.ref f2) = true) (G3 : FnOk P w K mg base CX0 1 f3 d3 ["placed"] spLEnd) (b3 : Binds K d3 ["placed"] []) (m3 : mg "left_end" = some (.ref f3)) (k3 : PySem.W.keepIn K (.ref f3) = true) :
    FnOk P w K mg base CX0 4 f fd ["W", "floats", "standing", "row", "high"] spEdges := by
  refine F.ok scEdges (fun vs H Q E h => ?_) (fun cdv A outer s H vs Q E hr h => ?_)
  · obtain ⟨a, b, fa, pa, fls, pls, W, row, high, e, _⟩ := h
    rw [e]
    rfl
  · obtain ⟨a, b, fa, pa, fls, pls, W, row, high, e, hF, hP, k⟩ := h
    subst e
    have hr1 := hr.mono (j := 1) (by decide)
    refine ⟨_, pss_cons (ps_set (i := 5) scEdges.nd rfl (Or.inl rfl) (pe_call G1 hr rfl m1 k1 b1 .nil pass0 (pa_cons (pv 1) (pa_cons (pv 2) (pa_cons (pv 3) (pa_cons (pv 4) pa_nil))))))
      (pss_cons (ps_set (i := 6) scEdges.nd rfl (Or.inl rfl) (pe_ifExp (pt_cmp (pc_isN (pe_ix ix_tup (pv 5) pe_int (fun _ _ => rfl)))) pe_int (pe_call G2 hr1 rfl m2 k2 b2 .nil pass0 (pa_cons (pe_ix ix_tup (pv 5) pe_int (fun _ _ => rfl)) pa_nil))))
      (pss_cons (ps_set (i := 7) scEdges.nd rfl (Or.inl rfl) (pe_ifExp (pt_cmp (pc_isN (pe_ix ix_tup (pv 5) pe_int (fun _ _ => rfl)))) (pv 0) (pe_call G3 hr1 rfl m3 k3 b3 .nil pass0 (pa_cons (pe_ix ix_tup (pv 5) pe_int (fun _ _ => rfl)) pa_nil))))
      (pss_one (ps_ret (pe_tup (pa_cons (pv 6) (pa_cons (pv 7) pa_nil))))))), ?_⟩
    refine ⟨_, rfl, _, rfl, _, rfl, _, rfl, a, b, fa, pa, fls, pls, row, high, rfl, hF, hP, fun n H1 hn s1 h1 => ?_⟩
    have hP1 := hP.same s1
    dsimp only [gName, tSeq]
    refine asg_join (.int (edL fls pls row high)) (fun Q' hq => ?_) (fun H2 s2 => ?_)
    · refine ⟨_, rfl, n, _, _, _, rfl, rfl, SqT.of h1, atI_nat (j := 0) rfl, _, rfl, ?_⟩
      cases e : nrL fls pls row high with
      | none =>
        have := hq H1 (Same.refl _)
        unfold edL at this
        rw [e] at this
        exact this
      | some i =>
        have hp := (hP1.get (nrL_lt e)).2
        have := hq H1 (Same.refl _)
        unfold edL at this
        rw [e] at this h1
        exact ⟨_, rfl, n, _, _, _, rfl, rfl, SqT.of h1, atI_nat (j := 0) rfl, _, gP pls i, rfl, hp, this⟩
    have h2 := s2 _ _ h1
    have hP2 := hP1.same s2
    dsimp only [gName, tSeq]
    refine asg_join (.int (edR W fls pls row high)) (fun Q' hq => ?_) (fun H3 s3 => ?_)
    · refine ⟨_, rfl, n, _, _, _, rfl, rfl, SqT.of h2, atI_nat (j := 1) rfl, _, rfl, ?_⟩
      cases e : nrR fls pls row high with
      | none =>
        have := hq H2 (Same.refl _)
        unfold edR at this
        rw [e] at this
        exact ⟨_, rfl, this⟩
      | some i =>
        have hp := (hP2.get (nrR_lt e)).2
        have := hq H2 (Same.refl _)
        unfold edR at this
        rw [e] at this h2
        exact ⟨_, rfl, n, _, _, _, rfl, rfl, SqT.of h2, atI_nat (j := 1) rfl, _, gP pls i, rfl, hp, this⟩
    refine ⟨_, rfl, _, rfl, by show 2 ≤ sizeLine; decide, fun t ht => ?_⟩
    have s13 := Same.trans s1 (Same.trans s2 s3)
    have ft : H t = none := same_none s13 ht
    exact k t _ ft (Same.put s13 ft) upd_same
end
def spAcross : Sp := fun vs H Q _ => ∃ (e : Addr) (b : Bool) (w l r : Int), vs = [.str (sideOf b), .int w, .ref e] ∧ H e = some (.tup [.int l, .int r]) ∧ Q (.int (if b = true then l else r - w)) H
def spTriple : Sp := fun vs H Q _ => ∃ (n b : Addr) (pa : List Addr) (pls : List Pl) (i j : Option Nat), vs = [.ref n] ∧ PlAt H b pa pls ∧ H n = some (.tup [optV pa i, optV pa j]) ∧ (∀ k, i = some k → k < pls.length) ∧ (∀ k, j = some k → k < pls.length) ∧ (i ≠ none ∨ j ≠ none) ∧
  ∀ t H', H t = none → Same H H' → H' t = some (.tup (triV (triRow pls i j, nmOf pls i, nmOf pls j))) → Q (.ref t) H'
def spStand : Sp := fun vs H Q _ => ∃ (a b : Addr) (fa pa : List Addr) (fls : List Fl) (pls : List Pl) (W row : Int), vs = [.int W, .ref a, .ref b, .int row] ∧ FlAt H a fa fls ∧ PlAt H b pa pls ∧ pls.length < fls.length ∧ (gF fls pls.length).w ≤ W ∧
  ∀ (t tp l : Addr) (ta : List Addr) (H' : Hp), H l = none → Same H H' → H' t = some (.tup [.ref tp, .ref l]) → H' tp = some (.tup (plRow (standF W fls pls row).1)) → H' l = some (.lst (ta.map V.ref)) → RowsOf H' ta ((standF W fls pls row).2.map triV) → Q (.ref t) H'
section
variable {P : Program} {w : World} {K : PySem.W.Frag} {mg : Str → Option Value} {base : Heap}
theorem scAcross : FnScope ["side", "wide", "edges"] ["side", "wide", "edges"] (defScope sAcross) := ⟨rfl, rfl, rfl, by decide +kernel, rfl, by decide +kernel, by decide +kernel⟩
theorem ok_across {f : Addr} {fd : FuncData} (F : Fun K "place_across" "place_across" sAcross f fd) : FnOk P w K mg base CX0 1 f fd ["side", "wide", "edges"] spAcross := by
  refine F.ok scAcross (fun vs H Q E h => ?_) (fun cdv A outer s H vs Q E hr h => ?_)
  · obtain ⟨e, b, w, l, r, e1, _⟩ := h
    rw [e1]
    rfl
  · obtain ⟨e, b, w, l, r, e1, he, k⟩ := h
    subst e1
    refine ⟨_, pss_one (ps_ret (pe_ifExp (pt_cmpR op_eq (pv 0) pe_str (nomark _)) (pe_ix ix_tup (pv 2) pe_int (fun _ _ => rfl)) (pe_op op_sub (pe_ix ix_tup (pv 2) pe_int (fun _ _ => rfl)) (pv 1)))), ?_⟩
    refine ⟨_, rfl, rfl, _, rfl, ?_⟩
    cases b with
    | true => exact iteT ⟨_, rfl, e, _, _, _, rfl, rfl, SqT.of he, atI_nat (j := 0) rfl, k⟩
    | false => exact iteF ⟨_, rfl, e, _, _, _, rfl, rfl, SqT.of he, atI_nat (j := 1) rfl, _, rfl, _, _, rfl, rfl, k⟩
theorem scTriple : FnScope ["near", "ends", "names"] ["near"] (defScope sTriple) := ⟨rfl, rfl, rfl, by decide +kernel, rfl, by decide +kernel, by decide +kernel⟩
abbrev nTriple : List Str := ["near", "ends", "names"]
theorem optV_non {pa : List Addr} {i : Option Nat} : decide (optV pa i = .non) = i.isNone := by
  cases i with
  | none => rfl
  | some k => rfl
set_option maxHeartbeats 4000000 in
theorem ok_triple {f : Addr} {fd : FuncData} (F : Fun K "triple_of" "triple_of" sTriple f fd) (N : Names mg) : FnOk P w K mg base CX0 1 f fd ["near"] spTriple := by
  refine F.ok scTriple (fun vs H Q E h => ?_) (fun cdv A outer s H vs Q E hr h => ?_)
  · obtain ⟨n, b, pa, pls, i, j, e, _⟩ := h
    rw [e]
    rfl
  · obtain ⟨n, b, pa, pls, i, j, e, hP, hn, hi, hj, hij, k⟩ := h
    subst e
    refine ⟨_, pss_cons (ps_setComp (i := 1) (compSc_mk (fs := defScope sTriple) (N := nTriple) rfl rfl (by decide +kernel)) rfl scTriple.nd rfl (Or.inl rfl) (pi_tup (pv 0)) (fun _ _ _ _ _ => pts_one (pt_cmp (pc_notN (pv 0))))
        (fun _ _ _ _ _ => pe_op op_add (pe_ix (r := rIxT K) ix_tup (pv 0) pe_int (fun _ _ => rfl)) (pe_ix (r := rIxT K) ix_tup (pv 0) pe_int (fun _ _ => rfl))) rfl)
      (pss_cons (ps_setComp (i := 2) (compSc_mk (fs := defScope sTriple) (N := nTriple) rfl rfl (by decide +kernel)) rfl scTriple.nd rfl (Or.inl rfl) (pi_tup (pv 0)) (fun _ _ _ _ _ => pts_nil)
        (fun _ _ _ _ _ => pe_ifExp (pt_cmp (pc_isN (pv 0))) pe_str (pe_ix (r := rIxT K) ix_tup (pv 0) pe_int (fun _ _ => rfl))) rfl)
      (pss_one (ps_ret (pe_tup (pa_cons (pe_callB (call_minL rfl) (by rfl) N.min PyProof.Rows.boot_min (pa_cons (pv 1) pa_nil)) (pa_cons (pe_ix ix_list (pv 2) pe_int (fun _ _ => rfl)) (pa_cons (pe_ix ix_list (pv 2) pe_int (fun _ _ => rfl)) pa_nil))))))), ?_⟩
    have op : ∀ m : Nat, m < 2 → [optV pa i, optV pa j][m]? = some (optV pa (if m = 0 then i else j)) := fun m hm => by
      match m, hm with
      | 0, _ => rfl
      | 1, _ => rfl
    have vd : ∀ m : Nat, ∀ q, (if m = 0 then i else j) = some q → q < pls.length := fun m q e => by
      split at e
      · exact hi q e
      · exact hj q e
    have x2 : ∀ {m : Nat} {x : V}, [optV pa i, optV pa j][m]? = some x → m < 2 ∧ x = optV pa (if m = 0 then i else j) := fun {m x} hx => by
      have hm : m < 2 := get_lt hx
      rw [op m hm] at hx
      exact ⟨hm, (Option.some.inj hx).symm⟩
    refine ⟨_, rfl, n, rfl, ⟨_, SqT.of hn⟩, ?_⟩
    refine comp_tupP (K := K) (a := n) (fun m => (if m = 0 then i else j).isSome) (fun m => match (if m = 0 then i else j) with | none => .int 0 | some q => .int (endOf (gP pls q))) hn (by show 2 < sizeLine; decide) ?_ ?_ ?_
    · intro m x H' Q' hx s1 hq
      obtain ⟨hm, rfl⟩ := x2 hx
      refine ⟨_, rfl, _, rfl, ?_⟩
      have := hq H' (Same.refl _)
      rw [optV_non]
      cases e : (if m = 0 then i else j) with
      | none => rw [e] at this; exact this
      | some q => rw [e] at this; exact this
    · intro m x H' Q' hc hx s1 hq
      obtain ⟨hm, rfl⟩ := x2 hx
      have := hq H' (Same.refl _)
      cases e : (if m = 0 then i else j) with
      | none => rw [e] at hc; cases hc
      | some q =>
        have hp := s1 _ _ (hP.get (vd m q e)).2
        rw [e] at this
        exact ⟨_, rfl, _, _, _, _, rfl, rfl, SqT.of hp, atI_nat (j := 2) rfl, _, rfl, _, _, _, _, rfl, rfl, SqT.of hp, atI_nat (j := 4) rfl, _, _, rfl, rfl, this⟩
    intro le H1 hle s1 h1
    have hn1 := s1 _ _ hn
    refine ⟨_, rfl, n, rfl, ⟨_, SqT.of hn1⟩, ?_⟩
    refine comp_tupP (K := K) (a := n) (fun m => true) (fun m => V.str (nmOf pls (if m = 0 then i else j))) hn1 (by show 2 < sizeLine; decide) (fun m x H' Q' hx s2 hq => hq H' (Same.refl _)) ?_ ?_
    · intro m x H' Q' hc hx s2 hq
      obtain ⟨hm, rfl⟩ := x2 hx
      have := hq H' (Same.refl _)
      refine ⟨_, rfl, _, rfl, ?_⟩
      rw [optV_non]
      cases e : (if m = 0 then i else j) with
      | none => rw [e] at this; exact this
      | some q =>
        have hp := s2 _ _ (s1 _ _ (hP.get (vd m q e)).2)
        rw [e] at this
        exact ⟨_, rfl, _, _, _, _, rfl, rfl, SqT.of hp, atI_nat (j := 0) rfl, this⟩
    intro ln H2 hln s2 h2
    have h1' := s2 _ _ h1
    have s12 := Same.trans s1 s2
    obtain ⟨ns, ens, hne, hall⟩ : ∃ ns : List Int, (((List.range [optV pa i, optV pa j].length).filter fun m => (if m = 0 then i else j).isSome).map fun m => (match (if m = 0 then i else j) with | none => V.int 0 | some q => V.int (endOf (gP pls q)))) = ns.map V.int ∧ 0 < ns.length ∧
        ∀ M, M ∈ ns → (∀ c ∈ ns, M ≤ c) → M = triRow pls i j := by
      cases i with
      | none =>
        cases j with
        | none => exact absurd rfl (hij.elim (fun z => z) fun z => z)
        | some q => exact ⟨[endOf (gP pls q)], rfl, by show 0 < 1; decide, fun M hM _ => List.mem_singleton.mp hM⟩
      | some p =>
        cases j with
        | none => exact ⟨[endOf (gP pls p)], rfl, by show 0 < 1; decide, fun M hM _ => List.mem_singleton.mp hM⟩
        | some q =>
          refine ⟨[endOf (gP pls p), endOf (gP pls q)], rfl, by show 0 < 2; decide, fun M hM hb => ?_⟩
          have b1 := hb _ (List.mem_cons_self ..)
          have b2 := hb (endOf (gP pls q)) (by simp)
          show M = (if endOf (gP pls q) < endOf (gP pls p) then endOf (gP pls q) else endOf (gP pls p))
          rcases List.mem_cons.mp hM with z | z
          · subst z
            split <;> omega
          · have z : M = endOf (gP pls q) := by simpa using z
            subst z
            split <;> omega
    rw [ens] at h1'
    refine ⟨_, rfl, le, ns, rfl, SqL.of h1', hne, fun M hM hb => ?_⟩
    have eM := hall M hM hb
    subst eM
    refine ⟨_, rfl, ln, _, _, _, rfl, rfl, SqL.of h2, atI_nat (j := 0) rfl, _, rfl, ln, _, _, _, rfl, rfl, SqL.of h2, atI_nat (j := 1) rfl, (by show 3 ≤ sizeLine; decide), fun t ht => ?_⟩
    have ft : H t = none := same_none s12 ht
    exact k t _ ft (Same.put s12 ft) upd_same
end
end B71
namespace B71
open PySem L2 S2
theorem scStand : FnScope ["W", "floats", "standing", "row", "thing", "wide", "high", "paper", "edges"] ["W", "floats", "standing", "row"] (defScope sStand) := ⟨rfl, rfl, rfl, by decide +kernel, rfl, by decide +kernel, by decide +kernel⟩
theorem FlAt.get {H : Hp} {b : Addr} {fa : List Addr} {fls : List Fl} (h : FlAt H b fa fls) {i : Nat} (hi : i < fls.length) : fa[i]? = some (fa.getD i 0) ∧ H (fa.getD i 0) = some (.tup (flRow (gF fls i))) := by
  have hl : fa.length = fls.length := by rw [h.2.1.1, List.length_map]
  have e1 : fa[i]? = some (fa.getD i 0) := by
    rw [List.getD_eq_getElem?_getD, List.getElem?_eq_getElem (by omega)]
    rfl
  refine ⟨e1, h.2.1.2 i _ _ e1 ?_⟩
  rw [List.getElem?_map, List.getElem?_eq_getElem hi, gF_of (List.getElem?_eq_getElem hi)]
  rfl
theorem papF_fit {W : Int} {fls : List Fl} {pls : List Pl} {w h : Int} {n : Nat} {row : Int} (hf : ¬ (edR W fls pls row h - edL fls pls row h < w)) : papF W fls pls w h n row = ([], row) := by
  cases n with
  | zero => rfl
  | succ n => unfold papF; rw [if_neg hf]
theorem papF_no {W : Int} {fls : List Fl} {pls : List Pl} {w h : Int} {n : Nat} {row : Int} (hf : edR W fls pls row h - edL fls pls row h < w) :
    papF W fls pls w h (n + 1) row = ((triRow pls (nrL fls pls row h) (nrR fls pls row h), nmOf pls (nrL fls pls row h), nmOf pls (nrR fls pls row h)) :: (papF W fls pls w h n (triRow pls (nrL fls pls row h) (nrR fls pls row h))).1,
        (papF W fls pls w h n (triRow pls (nrL fls pls row h) (nrR fls pls row h))).2) := by
  rw [papF, if_pos hf]
section
variable {P : Program} {w : World} {K : PySem.W.Frag} {mg : Str → Option Value} {base : Heap}
set_option maxHeartbeats 4000000 in
theorem ok_stand {f f1 f2 f3 f4 : Addr} {fd d1 d2 d3 d4 : FuncData} (F : Fun K "stand_float" "stand_float" sStand f fd) (N : Names mg)
    (G1 : FnOk P w K mg base CX0 4 f1 d1 ["W", "floats", "standing", "row", "high"] spEdges) (b1 : Binds K d1 ["W", "floats", "standing", "row", "high"] []) (m1 : mg "edges_at" = some (.ref f1)) (k1 : PySem.W.keepIn K (.ref f1) = true)
    (G2 : FnOk P w K mg base CX0 3 f2 d2 ["floats", "standing", "row", "high"] spNear) (b2 : Binds K d2 ["floats", "standing", "row", "high"] []) (m2 : mg "nearest" = some (.ref f2)) (k2 : PySem.W.keepIn K (.ref f2) = true)
    (G3 : FnOk P w K mg base CX0 1 f3 d3 ["near"] spTriple) (b3 : Binds K d3 ["near"] []) (m3 : mg "triple_of" = some (.ref f3)) (k3 : PySem.W.keepIn K (.ref f3) = true)
    (G4 : FnOk P w K mg base CX0 1 f4 d4 ["side", "wide", "edges"] spAcross) (b4 : Binds K d4 ["side", "wide", "edges"] []) (m4 : mg "place_across" = some (.ref f4)) (k4 : PySem.W.keepIn K (.ref f4) = true) :
    FnOk P w K mg base CX0 5 f fd ["W", "floats", "standing", "row"] spStand := by
  refine F.ok scStand (fun vs H Q E h => ?_) (fun cdv A outer s H vs Q E hr h => ?_)
  · obtain ⟨a, b, fa, pa, fls, pls, W, row, e, _⟩ := h
    rw [e]
    rfl
  · obtain ⟨a, b, fa, pa, fls, pls, W, row, e, hF, hP, hlt, hw, k⟩ := h
    subst e
    have hr3 := hr.mono (j := 3) (by decide)
    have hr1 := hr.mono (j := 1) (by decide)
    have lp : pa.length = pls.length := by rw [hP.2.1.1, List.length_map]
    refine ⟨_, pss_cons (ps_set (i := 4) scStand.nd rfl (Or.inl rfl) (pe_ix ix_list (pv 1) (pe_callB call_len_seq (by rfl) N.len PySem.boot_len (pa_cons (pv 2) pa_nil)) (fun _ _ => rfl)))
      (pss_cons (ps_set (i := 5) scStand.nd rfl (Or.inl rfl) (pe_ix ix_tup (pv 4) pe_int (fun _ _ => rfl)))
      (pss_cons (ps_set (i := 6) scStand.nd rfl (Or.inl rfl) (pe_ix ix_tup (pv 4) pe_int (fun _ _ => rfl)))
      (pss_cons (ps_set (i := 7) scStand.nd rfl (Or.inl rfl) (pe_lst pa_nil))
      (pss_cons (ps_set (i := 8) scStand.nd rfl (Or.inl rfl) (pe_call G1 hr rfl m1 k1 b1 .nil pass0 (pa_cons (pv 0) (pa_cons (pv 1) (pa_cons (pv 2) (pa_cons (pv 3) (pa_cons (pv 6) pa_nil)))))))
      (pss_cons (ps_while PassesOwn.never (pt_cmpR op_lt (pe_op op_sub (pe_ix ix_tup (pv 8) pe_int (fun _ _ => rfl)) (pe_ix ix_tup (pv 8) pe_int (fun _ _ => rfl))) (pv 5) (nomark _))
        (pss_cons (ps_expr (pe_bm PySem.F.plainAttrs_list PySem.F.slot_list_append PySem.F.type_list_append mt_append (pv 7) (pa_cons (pe_call G3 hr1 rfl m3 k3 b3 .nil pass0 (pa_cons (pe_call G2 hr3 rfl m2 k2 b2 .nil pass0 (pa_cons (pv 1) (pa_cons (pv 2) (pa_cons (pv 3) (pa_cons (pv 6) pa_nil))))) pa_nil)) pa_nil)))
        (pss_cons (ps_set (i := 3) scStand.nd rfl (Or.inl rfl) (pe_ix ix_tup (pe_ix ix_list (pv 7) (pe_un un_neg pe_int) (fun _ _ => rfl)) pe_int (fun _ _ => rfl)))
        (pss_one (ps_set (i := 8) scStand.nd rfl (Or.inl rfl) (pe_call G1 hr rfl m1 k1 b1 .nil pass0 (pa_cons (pv 0) (pa_cons (pv 1) (pa_cons (pv 2) (pa_cons (pv 3) (pa_cons (pv 6) pa_nil)))))))))))
      (pss_one (ps_ret (pe_tup (pa_cons (pe_tup (pa_cons (pe_ix ix_tup (pv 4) pe_int (fun _ _ => rfl)) (pa_cons (pe_call G4 hr1 rfl m4 k4 b4 .nil pass0 (pa_cons (pe_ix ix_tup (pv 4) pe_int (fun _ _ => rfl)) (pa_cons (pv 5) (pa_cons (pv 8) pa_nil)))) (pa_cons (pv 3) (pa_cons (pv 5) (pa_cons (pv 6) pa_nil)))))) (pa_cons (pv 7) pa_nil)))))))))), ?_⟩
    obtain ⟨ef, hft⟩ := hF.get hlt
    refine ⟨_, rfl, _, rfl, b, _, rfl, .inl (SqL.of hP.1), a, _, _, _, rfl, rfl, SqL.of hF.1, atI_of (j := pls.length) (by rw [List.length_map, lp]) (by rw [List.getElem?_map, ef]; rfl), ?_⟩
    generalize hfl : gF fls pls.length = fl at *
    generalize fa.getD pls.length 0 = g at *
    refine ⟨_, rfl, g, _, _, _, rfl, rfl, SqT.of hft, atI_nat (j := 2) rfl, ?_⟩
    refine ⟨_, rfl, g, _, _, _, rfl, rfl, SqT.of hft, atI_nat (j := 3) rfl, ?_⟩
    refine ⟨smallE (by simp), fun l hl => ?_⟩
    have s1 : Same H (upd H l (.lst [])) := Same.put (Same.refl H) hl
    have h1 : (upd H l (.lst [])) l = some (.lst []) := upd_same
    generalize upd H l (.lst []) = H1 at *
    refine ⟨_, rfl, _, rfl, _, rfl, _, rfl, _, rfl, a, b, fa, pa, fls, pls, W, row, fl.h, rfl, hF.same s1, hP.same s1, fun e0 H2 he0 s2 h2 => ?_⟩
    have s12 := Same.trans s1 s2
    have hl2 := s2 _ _ h1
    generalize hq0 : papF W fls pls fl.w fl.h (cntF row pls) row = q0 at *
    have eS1 : (standF W fls pls row).1 = ⟨fl.nm, if fl.lf = true then edL fls pls q0.2 fl.h else edR W fls pls q0.2 fl.h - fl.w, q0.2, fl.w, fl.h⟩ := by
      unfold standF
      rw [hfl, hq0]
    have eS2 : (standF W fls pls row).2 = q0.1 := by
      unfold standF
      rw [hfl, hq0]
    refine ⟨fun m' σ H3 => ∃ (r : Int) (e : Addr) (ts : List Tri) (ta : List Addr), σ = [some (.int W), some (.ref a), some (.ref b), some (.int r), some (.ref g), some (.int fl.w), some (.int fl.h), some (.ref l), some (.ref e)] ∧ Same H H3 ∧ H3 e = some (.tup [.int (edL fls pls r fl.h), .int (edR W fls pls r fl.h)]) ∧
      H3 l = some (.lst (ta.map V.ref)) ∧ RowsOf H3 ta (ts.map triV) ∧ cntF r pls ≤ m' ∧ ts ++ (papF W fls pls fl.w fl.h m' r).1 = q0.1 ∧ (papF W fls pls fl.w fl.h m' r).2 = q0.2 ∧ ts.length + m' ≤ cntF row pls,
      ⟨cntF row pls, row, e0, [], [], rfl, s12, h2, hl2, RowsOf.nil, Nat.le_refl _, by rw [hq0]; rfl, by rw [hq0], by simp⟩, ?_⟩
    rintro m' σ H3 ⟨r, e, ts, ta, rfl, s3, he, hl3, hta, hbot, hts, hfin, hlen⟩
    refine ⟨_, rfl, e, _, _, _, rfl, rfl, SqT.of he, atI_nat (j := 1) rfl, _, rfl, e, _, _, _, rfl, rfl, SqT.of he, atI_nat (j := 0) rfl, _, _, rfl, rfl, _, rfl, _, _, rfl, rfl, _, rfl, ?_⟩
    have lta : ta.length = ts.length := by rw [hta.1, List.length_map]
    refine ite2 (fun hc => ?_) (fun hc => ?_)
    · have hc' : edR W fls pls r fl.h - edL fls pls r fl.h < fl.w := of_decide_eq_true hc
      obtain ⟨nn, rlt, rbot⟩ := noFit hw hc'
      have cl := cntF_le row pls
      have pl100 := hP.2.2
      cases m' with
      | zero => exact absurd hbot (by omega)
      | succ n =>
        rw [papF_no hc'] at hts hfin
        refine ⟨fun σ' H' => ∃ (e : Addr) (ta' : List Addr), σ' = [some (.int W), some (.ref a), some (.ref b), some (.int (triRow pls (nrL fls pls r fl.h) (nrR fls pls r fl.h))), some (.ref g), some (.int fl.w), some (.int fl.h), some (.ref l), some (.ref e)] ∧ Same H H' ∧
            H' e = some (.tup [.int (edL fls pls (triRow pls (nrL fls pls r fl.h) (nrR fls pls r fl.h)) fl.h), .int (edR W fls pls (triRow pls (nrL fls pls r fl.h) (nrR fls pls r fl.h)) fl.h)]) ∧
            H' l = some (.lst (ta'.map V.ref)) ∧ RowsOf H' ta' ((ts ++ [(triRow pls (nrL fls pls r fl.h) (nrR fls pls r fl.h), nmOf pls (nrL fls pls r fl.h), nmOf pls (nrR fls pls r fl.h))]).map triV),
          fun σ' H' ⟨e, ta', z1, z2, z3, z4, z5⟩ => ⟨n, Nat.lt_succ_self n, _, e, _, ta', z1, z2, z3, z4, z5, by omega, by rw [List.append_assoc]; exact hts, hfin, by rw [List.length_append, List.length_singleton]; omega⟩, ?_⟩
        refine ⟨_, rfl, .inl ⟨rfl, _, SqL.of hl3⟩, _, rfl, _, rfl, _, rfl, _, rfl, a, b, fa, pa, fls, pls, r, fl.h, rfl, hF.same s3, hP.same s3, fun n1 H4 hn1 s4 h4 => ?_⟩
        have s34 := Same.trans s3 s4
        refine ⟨n1, b, pa, pls, _, _, rfl, hP.same s34, h4, fun k e => nrL_lt e, fun k e => nrR_lt e, nn, fun t H5 ht s5 h5 => ?_⟩
        have s35 := Same.trans s34 s5
        have hl5 := s5 _ _ (s4 _ _ hl3)
        have hta5 := hta.same (Same.trans s4 s5)
        refine ⟨l, _, _, rfl, rfl, hl5, small (by rw [List.length_map, lta]; omega), ?_⟩
        have ep : (ta.map V.ref) ++ [V.ref t] = (ta ++ [t]).map V.ref := by rw [List.map_append]; rfl
        rw [ep]
        have nlt : t ≠ l := ne_of h5 hl5 (by intro z; cases z)
        have s6 : Same H (upd H5 l (.lst ((ta ++ [t]).map V.ref))) := Same.put s35 hl
        have l6 : (upd H5 l (.lst ((ta ++ [t]).map V.ref))) l = some (.lst ((ta ++ [t]).map V.ref)) := upd_same
        have t6 : (upd H5 l (.lst ((ta ++ [t]).map V.ref))) t = some (.tup (triV (triRow pls (nrL fls pls r fl.h) (nrR fls pls r fl.h), nmOf pls (nrL fls pls r fl.h), nmOf pls (nrR fls pls r fl.h)))) := by rw [upd_ne nlt]; exact h5
        have r6 : RowsOf (upd H5 l (.lst ((ta ++ [t]).map V.ref))) (ta ++ [t]) ((ts ++ [(triRow pls (nrL fls pls r fl.h) (nrR fls pls r fl.h), nmOf pls (nrL fls pls r fl.h), nmOf pls (nrR fls pls r fl.h))]).map triV) := by
          have em : ∀ x : Tri, (ts ++ [x]).map triV = ts.map triV ++ [triV x] := fun x => by rw [List.map_append]; rfl
          rw [em]
          exact RowsOf.snoc (hta5.updL hl5) (Same.refl _) t6
        generalize upd H5 l (.lst ((ta ++ [t]).map V.ref)) = H6 at *
        refine ⟨_, rfl, _, rfl, l, _, _, _, rfl, rfl, SqL.of l6, ?_, t, _, _, _, rfl, rfl, SqT.of t6, atI_nat (j := 0) rfl, ?_⟩
        · rw [← ep]
          exact atI_last _ _
        refine ⟨_, rfl, _, rfl, _, rfl, _, rfl, _, rfl, a, b, fa, pa, fls, pls, W, _, fl.h, rfl, hF.same s6, hP.same s6, fun e7 H7 he7 s7 h7 => ?_⟩
        exact ⟨e7, ta ++ [t], rfl, Same.trans s6 s7, h7, s7 _ _ l6, r6.same s7⟩
    · have hc' : ¬ (edR W fls pls r fl.h - edL fls pls r fl.h < fl.w) := fun z => hc (decide_eq_true z)
      rw [papF_fit hc'] at hts hfin
      dsimp only at hts hfin
      rw [List.append_nil] at hts
      have hft3 := s3 _ _ hft
      refine ⟨_, rfl, g, _, _, _, rfl, rfl, SqT.of hft3, atI_nat (j := 0) rfl, _, rfl, g, _, _, _, rfl, rfl, SqT.of hft3, atI_nat (j := 1) rfl, _, rfl, _, rfl, e, fl.lf, fl.w, _, _, rfl, he, _, rfl, _, rfl, _, rfl, (by show 5 ≤ sizeLine; decide), fun tp htp => ?_⟩
      have s4 : Same H3 (upd H3 tp (.tup [.str fl.nm, .int (if fl.lf = true then edL fls pls r fl.h else edR W fls pls r fl.h - fl.w), .int r, .int fl.w, .int fl.h])) := Same.put (Same.refl _) htp
      have h4 : (upd H3 tp (.tup [.str fl.nm, .int (if fl.lf = true then edL fls pls r fl.h else edR W fls pls r fl.h - fl.w), .int r, .int fl.w, .int fl.h])) tp = some (.tup [.str fl.nm, .int (if fl.lf = true then edL fls pls r fl.h else edR W fls pls r fl.h - fl.w), .int r, .int fl.w, .int fl.h]) := upd_same
      refine ⟨_, rfl, (by show 2 ≤ sizeLine; decide), fun t ht => ?_⟩
      generalize upd H3 tp (.tup [.str fl.nm, .int (if fl.lf = true then edL fls pls r fl.h else edR W fls pls r fl.h - fl.w), .int r, .int fl.w, .int fl.h]) = H4 at *
      have s5 : Same H4 (upd H4 t (.tup [.ref tp, .ref l])) := Same.put (Same.refl _) ht
      have s45 := Same.trans s4 s5
      refine k t tp l ta _ hl (Same.trans s3 s45) upd_same ?_ (s45 _ _ hl3) ?_
      · rw [eS1, ← hfin]
        exact s5 _ _ h4
      · rw [eS2, ← hts]
        exact hta.same s45
end
def spStandAll : Sp := fun vs H Q _ => ∃ (a : Addr) (fa : List Addr) (fls : List Fl) (W : Int), vs = [.int W, .ref a] ∧ FlAt H a fa fls ∧ (∀ f ∈ fls, f.w ≤ W) ∧
  ∀ (t ls lp : Addr) (pa qa : List Addr) (H' : Hp), H ls = none → H lp = none → ls ≠ lp → Same H H' → H' t = some (.tup [.ref ls, .ref lp]) → PlAt H' ls pa (allF W fls fls.length).1 → H' lp = some (.lst (qa.map V.ref)) → PapsAt H' qa (allF W fls fls.length).2 → (∀ q ∈ qa, q ≠ ls ∧ q ≠ lp) → Q (.ref t) H'
theorem scStandAll : FnScope ["W", "floats", "name", "side", "wide", "high", "standing", "papers", "row", "told"] ["W", "floats"] (defScope sStandAll) := ⟨rfl, rfl, rfl, by decide +kernel, rfl, by decide +kernel, by decide +kernel⟩
theorem gF_mem {fls : List Fl} {i : Nat} (h : i < fls.length) : gF fls i ∈ fls := by
  rw [gF_of (List.getElem?_eq_getElem h)]
  exact List.getElem_mem h
theorem map_snoc {α β : Type} (f : α → β) (xs : List α) (x : α) : (xs ++ [x]).map f = xs.map f ++ [f x] := by rw [List.map_append]; rfl
section
variable {P : Program} {w : World} {K : PySem.W.Frag} {mg : Str → Option Value} {base : Heap}
set_option maxHeartbeats 4000000 in
theorem ok_standAll {f f1 : Addr} {fd d1 : FuncData} (F : Fun K "stand_floats" "stand_floats" sStandAll f fd) (N : Names mg)
    (G1 : FnOk P w K mg base CX0 5 f1 d1 ["W", "floats", "standing", "row"] spStand) (b1 : Binds K d1 ["W", "floats", "standing", "row"] []) (m1 : mg "stand_float" = some (.ref f1)) (k1 : PySem.W.keepIn K (.ref f1) = true) :
    FnOk P w K mg base CX0 6 f fd ["W", "floats"] spStandAll := by
  refine F.ok scStandAll (fun vs H Q E h => ?_) (fun cdv A outer s H vs Q E hr h => ?_)
  · obtain ⟨a, fa, fls, W, e, _⟩ := h
    rw [e]
    rfl
  · obtain ⟨a, fa, fls, W, e, hF, hW, k⟩ := h
    subst e
    have lf : fa.length = fls.length := by rw [hF.2.1.1, List.length_map]
    have f100 := hF.2.2
    refine ⟨_, pss_cons (ps_for PassesOwn.never rfl (pi_list (pv 1)) (pg_tup rfl (pgs_cons (pg_name (i := 2) scStandAll.nd rfl (Or.inl rfl)) (pgs_cons (pg_name (i := 3) scStandAll.nd rfl (Or.inl rfl)) (pgs_cons (pg_name (i := 4) scStandAll.nd rfl (Or.inl rfl)) (pgs_cons (pg_name (i := 5) scStandAll.nd rfl (Or.inl rfl)) pgs_nil)))))
        (pss_one (ps_if (pt_cmpR op_gt (pv 4) (pv 0) (nomark _)) (pss_one ps_never) pss_nil)))
      (pss_cons (ps_set (i := 6) scStandAll.nd rfl (Or.inl rfl) (pe_lst pa_nil))
      (pss_cons (ps_set (i := 7) scStandAll.nd rfl (Or.inl rfl) (pe_lst pa_nil))
      (pss_cons (ps_set (i := 8) scStandAll.nd rfl (Or.inl rfl) pe_int)
      (pss_cons (ps_while PassesOwn.never (pt_cmpR op_lt (pe_callB call_len_seq (by rfl) N.len PySem.boot_len (pa_cons (pv 6) pa_nil)) (pe_callB call_len_seq (by rfl) N.len PySem.boot_len (pa_cons (pv 1) pa_nil)) (nomark _))
        (pss_cons (ps_set (i := 9) scStandAll.nd rfl (Or.inl rfl) (pe_call G1 hr rfl m1 k1 b1 .nil pass0 (pa_cons (pv 0) (pa_cons (pv 1) (pa_cons (pv 6) (pa_cons (pv 8) pa_nil))))))
        (pss_cons (ps_expr (pe_bm PySem.F.plainAttrs_list PySem.F.slot_list_append PySem.F.type_list_append mt_append (pv 6) (pa_cons (pe_ix ix_tup (pv 9) pe_int (fun _ _ => rfl)) pa_nil)))
        (pss_cons (ps_expr (pe_bm PySem.F.plainAttrs_list PySem.F.slot_list_append PySem.F.type_list_append mt_append (pv 7) (pa_cons (pe_ix ix_tup (pv 9) pe_int (fun _ _ => rfl)) pa_nil)))
        (pss_one (ps_set (i := 8) scStandAll.nd rfl (Or.inl rfl) (pe_ix ix_tup (pe_ix ix_tup (pv 9) pe_int (fun _ _ => rfl)) pe_int (fun _ _ => rfl))))))))
      (pss_one (ps_ret (pe_tup (pa_cons (pv 6) (pa_cons (pv 7) pa_nil))))))))), ?_⟩
    refine ⟨_, rfl, a, rfl, ⟨_, SqL.of hF.1⟩, for_list (K := K) (a := a) (xs := fa.map V.ref) (fun i σ H9 => (∃ u2 u3 u4 u5, σ = [some (.int W), some (.ref a), u2, u3, u4, u5, none, none, none, none]) ∧ H9 = H) ⟨⟨_, _, _, _, rfl⟩, rfl⟩ (fun i σ H9 _ h9 => by rw [h9.2]; exact SqL.of hF.1) ?_ ?_⟩
    · rintro i y σ H9 hy ⟨⟨u2, u3, u4, u5, rfl⟩, rfl⟩
      obtain ⟨p, r, rfl, ep, er, hp⟩ := hF.2.1.get hy
      obtain ⟨fl, efl, rfl⟩ := row_map er
      refine ⟨p, _, rfl, SqT.of hp, rfl, _, _, rfl, _, _, rfl, _, _, rfl, _, _, rfl, rfl, ?_⟩
      have hwf := hW fl (List.mem_of_getElem? efl)
      refine ⟨_, rfl, _, rfl, _, _, rfl, rfl, _, rfl, iteC (decide_eq_false (by omega)) ?_⟩
      exact ⟨⟨_, _, _, _, rfl⟩, rfl⟩
    rintro σ H9 ⟨⟨u2, u3, u4, u5, rfl⟩, rfl⟩
    refine ⟨smallE (by simp), fun ls hls => ?_⟩
    have s1 : Same H9 (upd H9 ls (.lst [])) := Same.put (Same.refl H9) hls
    have h1 : (upd H9 ls (.lst [])) ls = some (.lst []) := upd_same
    generalize upd H9 ls (.lst []) = H1 at *
    refine ⟨smallE (by simp), fun lp hlp => ?_⟩
    have hlp9 : H9 lp = none := same_none s1 hlp
    have nsp : ls ≠ lp := ne_of_none h1 hlp
    have s2 : Same H9 (upd H1 lp (.lst [])) := Same.put s1 hlp9
    have h2 : (upd H1 lp (.lst [])) lp = some (.lst []) := upd_same
    have h1' : (upd H1 lp (.lst [])) ls = some (.lst []) := by rw [upd_ne nsp]; exact h1
    generalize upd H1 lp (.lst []) = H2 at *
    refine ⟨fun m' σ H3 => ∃ (n : Nat) (pa qa : List Addr) (v2 v3 v4 v5 v9 : Option V), σ = [some (.int W), some (.ref a), v2, v3, v4, v5, some (.ref ls), some (.ref lp), some (.int (lastRow (allF W fls n).1)), v9] ∧ Same H9 H3 ∧ PlAt H3 ls pa (allF W fls n).1 ∧ H3 lp = some (.lst (qa.map V.ref)) ∧ PapsAt H3 qa (allF W fls n).2 ∧ (∀ q ∈ qa, q ≠ ls ∧ q ≠ lp) ∧ n ≤ fls.length ∧ m' = fls.length - n,
      ⟨fls.length, 0, [], [], u2, u3, u4, u5, none, rfl, s2, ⟨h1', RowsOf.nil, by show 0 ≤ 100; decide⟩, h2, ⟨rfl, fun i q ts e => by simp at e⟩, fun q hq => by simp at hq, Nat.zero_le _, rfl⟩, ?_⟩
    rintro m' σ H3 ⟨n, pa, qa, v2, v3, v4, v5, v9, rfl, s3, hPl, hlp3, hPp, hqn, hn, rfl⟩
    have ln := allF_len W fls n
    have lpa : pa.length = n := by rw [hPl.2.1.1, List.length_map, ln.1]
    have lqa : qa.length = n := by rw [hPp.1, ln.2]
    have hF3 := hF.same s3
    refine ⟨_, rfl, ls, _, rfl, .inl (SqL.of hPl.1), _, rfl, a, _, rfl, .inl (SqL.of hF3.1), _, _, rfl, rfl, _, rfl, ?_⟩
    refine ite2 (fun hc => ?_) (fun hc => ?_)
    · have hlt : n < fls.length := by
        have := of_decide_eq_true hc
        rw [List.length_map, List.length_map, lpa, lf] at this
        omega
      refine ⟨fun σ' H' => ∃ (pa qa : List Addr) (v2 v3 v4 v5 v9 : Option V), σ' = [some (.int W), some (.ref a), v2, v3, v4, v5, some (.ref ls), some (.ref lp), some (.int (lastRow (allF W fls (n + 1)).1)), v9] ∧ Same H9 H' ∧ PlAt H' ls pa (allF W fls (n + 1)).1 ∧ H' lp = some (.lst (qa.map V.ref)) ∧ PapsAt H' qa (allF W fls (n + 1)).2 ∧ (∀ q ∈ qa, q ≠ ls ∧ q ≠ lp),
        fun σ' H' ⟨pa, qa, v2, v3, v4, v5, v9, z1, z2, z3, z4, z5, z6⟩ => ⟨fls.length - (n + 1), by omega, n + 1, pa, qa, v2, v3, v4, v5, v9, z1, z2, z3, z4, z5, z6, hlt, rfl⟩, ?_⟩
      refine ⟨_, rfl, _, rfl, _, rfl, _, rfl, a, ls, fa, pa, fls, (allF W fls n).1, W, _, rfl, hF3, hPl, by rw [ln.1]; exact hlt, hW _ (gF_mem (by rw [ln.1]; exact hlt)), fun t tp l ta H4 hl s4 ht htp hl4 hta => ?_⟩
      have e1 : (allF W fls (n + 1)).1 = (allF W fls n).1 ++ [(standF W fls (allF W fls n).1 (lastRow (allF W fls n).1)).1] := rfl
      have e2 : (allF W fls (n + 1)).2 = (allF W fls n).2 ++ [(standF W fls (allF W fls n).1 (lastRow (allF W fls n).1)).2] := rfl
      generalize standF W fls (allF W fls n).1 (lastRow (allF W fls n).1) = st at *
      have s34 := Same.trans s3 s4
      have nls : l ≠ ls := fun z => by rw [z, hPl.1] at hl; cases hl
      have nlp : l ≠ lp := fun z => by rw [z, hlp3] at hl; cases hl
      have hPl4 := hPl.same s4
      have hlp4 := s4 _ _ hlp3
      have hPp4 := hPp.same s4
      refine ⟨_, rfl, .inl ⟨rfl, _, SqL.of hPl4.1⟩, _, rfl, t, _, _, _, rfl, rfl, SqT.of ht, atI_nat (j := 0) rfl, ls, _, _, rfl, rfl, hPl4.1, small (by rw [List.length_map]; omega), ?_⟩
      rw [show (pa.map V.ref) ++ [V.ref tp] = (pa ++ [tp]).map V.ref from (map_snoc _ _ _).symm]
      have s5 : Same H9 (upd H4 ls (.lst ((pa ++ [tp]).map V.ref))) := Same.put s34 hls
      have tp5 : (upd H4 ls (.lst ((pa ++ [tp]).map V.ref))) tp = some (.tup (plRow st.1)) := by rw [upd_ne (ne_of htp hPl4.1 (by intro z; cases z))]; exact htp
      have p5 : PlAt (upd H4 ls (.lst ((pa ++ [tp]).map V.ref))) ls (pa ++ [tp]) (allF W fls (n + 1)).1 := by
        refine ⟨upd_same, ?_, by rw [(allF_len W fls (n + 1)).1]; omega⟩
        rw [e1, map_snoc plRow]
        exact RowsOf.snoc (hPl4.2.1.updL (o := .lst ((pa ++ [tp]).map V.ref)) hPl4.1) (Same.refl _) tp5
      have lp5 : (upd H4 ls (.lst ((pa ++ [tp]).map V.ref))) lp = some (.lst (qa.map V.ref)) := by rw [upd_ne (Ne.symm nsp)]; exact hlp4
      have q5 := hPp4.updL (o := .lst ((pa ++ [tp]).map V.ref)) hPl4.1 fun q hq => (hqn q hq).1
      have t5 : (upd H4 ls (.lst ((pa ++ [tp]).map V.ref))) t = some (.tup [.ref tp, .ref l]) := by rw [upd_ne (ne_of ht hPl4.1 (by intro z; cases z))]; exact ht
      have l5 : (upd H4 ls (.lst ((pa ++ [tp]).map V.ref))) l = some (.lst (ta.map V.ref)) := by rw [upd_ne nls]; exact hl4
      have ta5 := hta.updL (o := .lst ((pa ++ [tp]).map V.ref)) hPl4.1
      generalize upd H4 ls (.lst ((pa ++ [tp]).map V.ref)) = H5 at *
      refine ⟨_, rfl, .inl ⟨rfl, _, SqL.of lp5⟩, _, rfl, t, _, _, _, rfl, rfl, SqT.of t5, atI_nat (j := 1) rfl, lp, _, _, rfl, rfl, lp5, small (by rw [List.length_map]; omega), ?_⟩
      rw [show (qa.map V.ref) ++ [V.ref l] = (qa ++ [l]).map V.ref from (map_snoc _ _ _).symm]
      have s6 : Same H9 (upd H5 lp (.lst ((qa ++ [l]).map V.ref))) := Same.put s5 hlp9
      have p6 : PlAt (upd H5 lp (.lst ((qa ++ [l]).map V.ref))) ls (pa ++ [tp]) (allF W fls (n + 1)).1 := ⟨by rw [upd_ne nsp]; exact p5.1, p5.2.1.updL lp5, p5.2.2⟩
      have q6 : PapsAt (upd H5 lp (.lst ((qa ++ [l]).map V.ref))) (qa ++ [l]) (allF W fls (n + 1)).2 := by
        rw [e2]
        exact PapsAt.snoc (q5.updL lp5 fun q hq => (hqn q hq).2) (by rw [upd_ne nlp]; exact l5) (ta5.updL lp5)
      have t6 : (upd H5 lp (.lst ((qa ++ [l]).map V.ref))) t = some (.tup [.ref tp, .ref l]) := by rw [upd_ne (ne_of t5 lp5 (by intro z; cases z))]; exact t5
      have tp6 : (upd H5 lp (.lst ((qa ++ [l]).map V.ref))) tp = some (.tup (plRow st.1)) := by rw [upd_ne (ne_of tp5 lp5 (by intro z; cases z))]; exact tp5
      have lp6 : (upd H5 lp (.lst ((qa ++ [l]).map V.ref))) lp = some (.lst ((qa ++ [l]).map V.ref)) := upd_same
      generalize upd H5 lp (.lst ((qa ++ [l]).map V.ref)) = H6 at *
      refine ⟨_, rfl, t, _, _, _, rfl, rfl, SqT.of t6, atI_nat (j := 0) rfl, tp, _, _, _, rfl, rfl, SqT.of tp6, atI_nat (j := 2) rfl, ?_⟩
      refine ⟨pa ++ [tp], qa ++ [l], v2, v3, v4, v5, some (.ref t), ?_, s6, p6, lp6, q6, fun q hq => ?_⟩
      · rw [e1, lastRow_snoc]
        rfl
      · rcases List.mem_append.mp hq with z | z
        · exact hqn q z
        · rw [List.mem_singleton.mp z]
          exact ⟨nls, nlp⟩
    · have en : n = fls.length := by
        by_cases e : n < fls.length
        · refine absurd (decide_eq_true ?_) hc
          rw [List.length_map, List.length_map, lpa, lf]
          omega
        · omega
      subst en
      refine ⟨_, rfl, _, rfl, (by show 2 ≤ sizeLine; decide), fun t ht => ?_⟩
      have s4 : Same H3 (upd H3 t (.tup [.ref ls, .ref lp])) := Same.put (Same.refl _) ht
      exact k t ls lp pa qa _ hls hlp9 nsp (Same.trans s3 s4) upd_same (hPl.same s4) (s4 _ _ hlp3) (hPp.same s4) hqn
end
section
variable {P : Program} {w : World} {K : PySem.W.Frag} {mg : Str → Option Value} {base : Heap}
theorem scCell : FnScope ["_law_script", "_law_k"] ["_law_script", "_law_k"] (defScope sCell) := ⟨rfl, rfl, rfl, by decide +kernel, rfl, by decide +kernel, by decide +kernel⟩
theorem ok_cell {f : Addr} {fd : FuncData} (F : Fun K "_law_cell_at" "_law_cell_at" sCell f fd) (N : Names mg) : FnOk P w K mg base CX0 1 f fd ["_law_script", "_law_k"] (spCell K) := by
  refine F.ok scCell (fun vs H Q E h => ?_) (fun cdv A outer s H vs Q E hr h => ?_)
  · obtain ⟨a, k, ns, e, _⟩ := h
    rw [e]
    rfl
  · obtain ⟨a, k, ns, e, hS, hn, q⟩ := h
    subst e
    refine ⟨_, pss_cons (ps_if (pt_cmpR op_lt (pv 1) (pe_callB call_len_seq (by rfl) N.len PySem.boot_len (pa_cons (pv 0) pa_nil)) (nomark _)) (pss_one (ps_ret (pe_ix ix_list (pv 0) (pv 1) (fun _ _ => rfl)))) pss_nil) (pss_one (ps_ret pe_int)), ?_⟩
    refine ⟨_, rfl, _, rfl, a, _, rfl, .inl hS, _, _, rfl, rfl, _, rfl, ?_⟩
    refine ite2 (fun hc => ?_) (fun hc => q 0)
    have hk : k < ns.length := by
      have z := of_decide_eq_true hc
      rw [List.length_map] at z
      omega
    exact ⟨_, rfl, _, rfl, a, _, _, _, rfl, rfl, hS, atI_nat (by rw [List.getElem?_map, List.getElem?_eq_getElem hk]; rfl), q _⟩
theorem scNumbers : FnScope ["_law_cell", "_law_many", "_law_found", "_law_number"] ["_law_cell", "_law_many"] (defScope sNumbers) := ⟨rfl, rfl, rfl, by decide +kernel, rfl, by decide +kernel, by decide +kernel⟩
theorem ok_numbers {f : Addr} {fd : FuncData} (F : Fun K "_law_numbers" "_law_numbers" sNumbers f fd) (N : Names mg) : FnOk P w K mg base CX0 1 f fd ["_law_cell", "_law_many"] spNumbers := by
  refine F.ok scNumbers (fun vs H Q E h => ?_) (fun cdv A outer s H vs Q E hr h => ?_)
  · obtain ⟨c, m, e, _⟩ := h
    rw [e]
    rfl
  · obtain ⟨c, m, e, hm, q⟩ := h
    subst e
    refine ⟨_, pss_cons (ps_set (i := 2) scNumbers.nd rfl (Or.inl rfl) (pe_lst pa_nil))
      (pss_cons (ps_set (i := 3) scNumbers.nd rfl (Or.inl rfl) (pe_op op_fdiv (pv 0) pe_int))
      (pss_cons (ps_while PassesOwn.never (pw_and (pt_cmpR op_eq (pe_op op_mod (pv 0) pe_int) pe_int (nomark _)) (pw_and (pt_cmpR op_gt (pv 3) pe_int (nomark _)) (pw_and1 (pt_cmpR op_lt (pe_callB call_len_seq (by rfl) N.len PySem.boot_len (pa_cons (pv 2) pa_nil)) (pv 1) (nomark _))))).pt
        (pss_cons (ps_expr (pe_bm PySem.F.plainAttrs_list PySem.F.slot_list_append PySem.F.type_list_append mt_append (pv 2) (pa_cons (pe_op op_mod (pv 3) pe_int) pa_nil)))
          (pss_one (ps_set (i := 3) scNumbers.nd rfl (Or.inl rfl) (pe_op op_fdiv (pv 3) pe_int)))))
      (pss_cons (ps_set (i := 3) scNumbers.nd rfl (Or.inl rfl) (pe_op op_mod (pv 0) pe_int))
      (pss_cons (ps_while PassesOwn.never (pt_cmpR op_lt (pe_callB call_len_seq (by rfl) N.len PySem.boot_len (pa_cons (pv 2) pa_nil)) (pv 1) (nomark _))
        (pss_cons (ps_set (i := 3) scNumbers.nd rfl (Or.inl rfl) (pe_op op_mod (pe_op op_mul (pe_op op_add (pe_op op_add (pv 3) (pe_callB call_len_seq (by rfl) N.len PySem.boot_len (pa_cons (pv 2) pa_nil))) pe_int) pe_int) pe_int))
          (pss_one (ps_expr (pe_bm PySem.F.plainAttrs_list PySem.F.slot_list_append PySem.F.type_list_append mt_append (pv 2) (pa_cons (pe_op op_mod (pe_op op_mul (pv 3) pe_int) pe_int) pa_nil))))))
      (pss_one (ps_ret (pv 2))))))), ?_⟩
    refine ⟨smallE (by simp), fun l hl => ?_⟩
    refine ⟨_, rfl, _, _, rfl, rfl, ⟨by decide, by decide⟩, ?_⟩
    have s0 : Same H (upd H l (.lst [])) := Same.put (Same.refl H) hl
    refine while_out (fun m' σ H2 => ∃ (z : Int) (ns : List Int), σ = [some (.int c), some (.int m), some (.ref l), some (.int z)] ∧ Same H H2 ∧ H2 l = some (.lst (ns.map V.int)) ∧ ns.length ≤ m ∧ m' = m - ns.length) (m0 := m) ⟨_, [], rfl, s0, upd_same, Nat.zero_le _, rfl⟩ ?_ ?_
    · rintro m' σ H2 ⟨z, ns, rfl, s2, h2, hlen, rfl⟩
      refine ⟨_, rfl, _, _, rfl, rfl, (by show (0 : Int) < 2147483647; decide), ?_⟩
      refine ⟨fun m' σ H2 => ∃ (z : Int) (ns : List Int), σ = [some (.int c), some (.int m), some (.ref l), some (.int z)] ∧ Same H H2 ∧ H2 l = some (.lst (ns.map V.int)) ∧ ns.length ≤ m ∧ m' = m - ns.length, ⟨_, _, ns, rfl, s2, h2, hlen, rfl⟩, ?_⟩
      rintro m' σ H3 ⟨z, ns, rfl, s3, h3, hlen, rfl⟩
      refine ⟨_, rfl, l, _, rfl, .inl (SqL.of h3), _, rfl, _, _, rfl, rfl, _, rfl, ite2 (fun hc => ?_) (fun hc => ?_)⟩
      · have hc' := of_decide_eq_true hc
        rw [List.length_map] at hc'
        refine ⟨fun σ' H' => ∃ (z : Int) (ns' : List Int), σ' = [some (.int c), some (.int m), some (.ref l), some (.int z)] ∧ Same H H' ∧ H' l = some (.lst (ns'.map V.int)) ∧ ns'.length = ns.length + 1, fun σ' H' ⟨z', ns', e1, e2, e3, e4⟩ => ⟨m - ns'.length, by omega, z', ns', e1, e2, e3, by omega, rfl⟩, ?_⟩
        refine ⟨_, rfl, _, rfl, l, _, rfl, .inl (SqL.of h3), _, _, rfl, rfl, _, _, rfl, rfl, _, _, rfl, rfl, .inr ⟨by decide, by decide⟩, _, _, rfl, rfl, (by show (0 : Int) < 2147483647; decide), ?_⟩
        refine ⟨_, rfl, .inl ⟨rfl, _, SqL.of h3⟩, _, rfl, _, _, rfl, rfl, .inr ⟨by decide, by decide⟩, _, _, rfl, rfl, (by show (0 : Int) < 2147483629; decide), l, _, _, rfl, rfl, h3, small (by rw [List.length_map]; omega), ?_⟩
        exact ⟨_, _, rfl, Same.put s3 hl, snoc_at, snoc_len⟩
      · have hc' : ¬ ((ns.length : Int) < (m : Int)) := fun z => hc (decide_eq_true (by rw [List.length_map]; exact z))
        exact ⟨_, rfl, q l ns H3 hl s3 h3 (by omega)⟩
    · rintro R out m' σ H2 ⟨z, ns, rfl, s2, h2, hlen, rfl⟩
      have go : R [some (.int c), some (.int m), some (.ref l), some (.int z)] H2 := out _ _ _ ⟨z, ns, rfl, s2, h2, hlen, rfl⟩
      refine ⟨_, rfl, _, _, rfl, rfl, (by show (0 : Int) < 2; decide), rfl, _, rfl, ite2 (fun _ => ?_) (fun _ => iteF go)⟩
      refine ⟨_, rfl, _, _, rfl, rfl, _, rfl, ite2 (fun _ => ?_) (fun _ => iteF go)⟩
      refine ⟨_, rfl, l, _, rfl, .inl (SqL.of h2), _, rfl, _, _, rfl, rfl, _, rfl, ite2 (fun hc => ?_) (fun _ => go)⟩
      have hc' := of_decide_eq_true hc
      rw [List.length_map] at hc'
      refine ⟨fun σ' H' => ∃ (z : Int) (ns' : List Int), σ' = [some (.int c), some (.int m), some (.ref l), some (.int z)] ∧ Same H H' ∧ H' l = some (.lst (ns'.map V.int)) ∧ ns'.length = ns.length + 1, fun σ' H' ⟨z', ns', e1, e2, e3, e4⟩ => ⟨m - ns'.length, by omega, z', ns', e1, e2, e3, by omega, rfl⟩, ?_⟩
      refine ⟨_, rfl, .inl ⟨rfl, _, SqL.of h2⟩, _, rfl,  _, _, rfl, rfl, (by show (0 : Int) < 5040; decide), l, _, _, rfl, rfl, h2, small (by rw [List.length_map]; omega), ?_⟩
      refine ⟨_, rfl,  _, _, rfl, rfl, ⟨by decide, by decide⟩, ?_⟩
      exact ⟨_, _, rfl, Same.put s2 hl, snoc_at, snoc_len⟩
end
def spLNames : Sp := fun vs H Q _ => ∃ (c : Int) (m : Nat), vs = [.int c, .int m] ∧ m ≤ 100 ∧ ∀ (l : Addr) (nms : List Str) (H' : Hp), H l = none → Same H H' → H' l = some (.lst (nms.map V.str)) → nms.length = m → Q (.ref l) H'
section
variable {P : Program} {w : World} {K : PySem.W.Frag} {mg : Str → Option Value} {base : Heap}
theorem scLNames : FnScope ["_law_cell", "_law_many", "_law_some", "_law_size", "_law_at", "_law_names_here", "_law_turn", "_law_name", "_law_k", "_law_more"] ["_law_cell", "_law_many"] (defScope sLNames) := ⟨rfl, rfl, rfl, by decide +kernel, rfl, by decide +kernel, by decide +kernel⟩
theorem alpha_len : ("abcdefghijklmnopqrstuvwxyz" : Str).length = 26 := by decide +kernel
theorem one_len (c : Nat) : (⟨#[c]⟩ : Str).length = 1 := rfl
theorem len_nil : ("" : Str).length = 0 := by decide +kernel
set_option maxHeartbeats 4000000 in
theorem ok_lnames {f f1 : Addr} {fd d1 : FuncData} (F : Fun K "_law_names" "_law_names" sLNames f fd) (N : Names mg) (G1 : FnOk P w K mg base CX0 1 f1 d1 ["_law_cell", "_law_many"] spNumbers) (b1 : Binds K d1 ["_law_cell", "_law_many"] []) (m1 : mg "_law_numbers" = some (.ref f1)) (k1 : PySem.W.keepIn K (.ref f1) = true) :
    FnOk P w K mg base CX0 2 f fd ["_law_cell", "_law_many"] spLNames := by
  refine F.ok scLNames (fun vs H Q E h => ?_) (fun cdv A outer s H vs Q E hr h => ?_)
  · obtain ⟨c, m, e, _⟩ := h
    rw [e]
    rfl
  · obtain ⟨c, m, e, hm, k⟩ := h
    subst e
    refine ⟨_, pss_cons (ps_set (i := 2) scLNames.nd rfl (Or.inl rfl) (pe_call G1 hr rfl m1 k1 b1 .nil pass0 (pa_cons (pv 0) (pa_cons pe_int pa_nil))))
      (pss_cons (ps_set (i := 3) scLNames.nd rfl (Or.inl rfl) (pe_op op_add pe_int (pe_op op_mod (pe_ix ix_list (pv 2) pe_int (fun _ _ => rfl)) pe_int)))
      (pss_cons (ps_set (i := 4) scLNames.nd rfl (Or.inl rfl) (pe_op op_mod (pe_ix ix_list (pv 2) pe_int (fun _ _ => rfl)) (pv 3)))
      (pss_cons (ps_set (i := 5) scLNames.nd rfl (Or.inl rfl) (pe_lst pa_nil))
      (pss_cons (ps_for PassesOwn.never rfl (pi_range1 rfl N.range (pa_cons (pv 1) pa_nil)) (pg_name (i := 6) scLNames.nd rfl (Or.inl rfl))
        (pss_cons (ps_set (i := 7) scLNames.nd rfl (Or.inl rfl) pe_str)
        (pss_cons (ps_for PassesOwn.never rfl (pi_range1 rfl N.range (pa_cons (pv 3) pa_nil)) (pg_name (i := 8) scLNames.nd rfl (Or.inl rfl))
          (pss_cons (ps_set (i := 9) scLNames.nd rfl (Or.inl rfl) (pe_op op_mul (pv 6) (pe_callTy call_int1 (by rfl) N.int PyProof.Rows.boot_int (pa_cons (pe_cmpR op_eq (pv 8) (pv 4) (nomark _)) pa_nil))))
          (pss_one (ps_set (i := 7) scLNames.nd rfl (Or.inl rfl) (pe_op op_add_str (pv 7) (pe_ix ix_str pe_str (pe_op op_mod (pe_op op_add (pe_ix ix_list (pv 2) (pv 8) (fun _ _ => rfl)) (pv 9)) pe_int) (fun _ _ => rfl)))))))
        (pss_one (ps_expr (pe_bm PySem.F.plainAttrs_list PySem.F.slot_list_append PySem.F.type_list_append mt_append (pv 5) (pa_cons (pv 7) pa_nil)))))))
      (pss_one (ps_ret (pv 5))))))), ?_⟩
    refine ⟨_, rfl, c, 10, rfl, by decide, fun ls nn H1 hls s1 h1 hnn => ?_⟩
    refine ⟨_, rfl, ls, _, _, _, rfl, rfl, SqL.of h1, atI_nat (j := 8) (gi_at (by omega)), _, _, rfl, rfl, (by show (0 : Int) < 8; decide), _, _, rfl, rfl, ?_⟩
    obtain ⟨sz, esz, hsz⟩ := mod_nat (z := gi nn 8) (n := 8) (by decide)
    have esz' : gi nn 8 % 8 = (sz : Int) := esz
    refine ⟨_, rfl, ls, _, _, _, rfl, rfl, SqL.of h1, atI_nat (j := 9) (gi_at (by omega)), _, rfl, _, _, rfl, rfl, (by show (0 : Int) < 1 + gi nn 8 % 8; omega), ?_⟩
    dsimp only
    generalize gi nn 9 % (1 + gi nn 8 % 8) = at0
    rw [esz']
    refine ⟨smallE (by simp), fun l hl => ?_⟩
    have hl0 : H l = none := same_none s1 hl
    have s2 : Same H (upd H1 l (.lst [])) := Same.put s1 hl0
    have h2 : (upd H1 l (.lst [])) l = some (.lst []) := upd_same
    have hs2 : (upd H1 l (.lst [])) ls = some (.lst (nn.map V.int)) := by rw [upd_ne (ne_of_none h1 hl)]; exact h1
    have nlls : ls ≠ l := ne_of_none h1 hl
    generalize upd H1 l (.lst []) = H2 at *
    refine ⟨_, rfl, (m : Int), rfl, by omega, by omega, ?_⟩
    have em : ((m : Int)).toNat = m := by omega
    rw [em]
    refine for_range (n := m) (fun i σ H3 => ∃ (nms : List Str) (v6 v7 v8 v9 : Option V), σ = [some (.int c), some (.int m), some (.ref ls), some (.int (1 + (sz : Int))), some (.int at0), some (.ref l), v6, v7, v8, v9] ∧ Same H H3 ∧ H3 ls = some (.lst (nn.map V.int)) ∧ H3 l = some (.lst (nms.map V.str)) ∧ nms.length = i)
      ⟨[], _, _, _, _, rfl, s2, hs2, h2, rfl⟩ ?_ ?_
    · rintro i σ H3 hi ⟨nms, v6, v7, v8, v9, rfl, s3, hs3, h3, hlen⟩
      refine ⟨_, rfl, 1 + (sz : Int), rfl, by omega, by omega, ?_⟩
      have en : ((1 : Int) + (sz : Int)).toNat = sz + 1 := by omega
      rw [en]
      refine for_range (n := sz + 1) (fun j σ H4 => H4 = H3 ∧ ∃ (z : Str) (v8 v9 : Option V), σ = [some (.int c), some (.int m), some (.ref ls), some (.int (1 + (sz : Int))), some (.int at0), some (.ref l), some (.int (0 + (i : Int))), some (.str z), v8, v9] ∧ z.length = j) ⟨rfl, "", _, _, rfl, len_nil⟩ ?_ ?_
      · rintro j σ H4 hj ⟨rfl, z, v8, v9, rfl, hz⟩
        refine ⟨_, rfl, _, rfl, _, rfl, rfl, .inr ⟨_, rfl, _, _, rfl, rfl, .inl ⟨by omega, by omega⟩, ?_⟩⟩
        refine ⟨_, rfl, _, rfl, _, rfl, ls, _, _, _, rfl, rfl, SqL.of hs3, atI_of (j := j) (by omega) (gi_at (by omega)), _, rfl, _, _, rfl, rfl, _, _, rfl, rfl, (by show (0 : Int) < 26; decide), ?_⟩
        obtain ⟨ch, hch⟩ : ∃ ch, atI ("abcdefghijklmnopqrstuvwxyz" : Str).cps.toList ((gi nn j + (0 + (i : Int)) * (if decide (V.int (0 + (j : Int)) = V.int at0) = true then 1 else 0)) % 26) = some ch := by
          obtain ⟨q, eq, hq⟩ := mod_nat (z := gi nn j + (0 + (i : Int)) * (if decide (V.int (0 + (j : Int)) = V.int at0) = true then 1 else 0)) (n := 26) (by decide)
          have hq2 : q < ("abcdefghijklmnopqrstuvwxyz" : Str).cps.toList.length := by rw [show ("abcdefghijklmnopqrstuvwxyz" : Str).cps.toList.length = 26 from by decide +kernel]; exact hq
          exact ⟨_, atI_of eq (List.getElem?_eq_getElem hq2)⟩
        refine ⟨_, _, ch, rfl, rfl, smallE (by rw [alpha_len]; decide), hch, _, _, rfl, rfl, smallE (by rw [one_len]; omega), ?_⟩
        exact ⟨rfl, _, _, _, rfl, by rw [Str.length_append, one_len, hz]⟩
      · rintro σ H4 ⟨rfl, z, v8, v9, rfl, hz⟩
        refine ⟨_, rfl, .inl ⟨rfl, _, SqL.of h3⟩, _, rfl, l, _, _, rfl, rfl, h3, small (by rw [List.length_map]; omega), ?_⟩
        refine ⟨nms ++ [z], _, _, _, _, rfl, Same.put s3 hl0, by rw [upd_ne nlls]; exact hs3, by rw [upd_same, List.map_append]; rfl, by rw [List.length_append, hlen]; rfl⟩
    · rintro σ H3 ⟨nms, v6, v7, v8, v9, rfl, s3, hs3, h3, hlen⟩
      exact ⟨_, rfl, k l nms H3 hl0 s3 h3 hlen⟩
end
end B71
namespace S2
open PySem L2
theorem allF_get {W : Int} {fls : List Fl} : ∀ {n k : Nat}, k < n → gP (allF W fls n).1 k = (standF W fls (allF W fls k).1 (lastRow (allF W fls k).1)).1 ∧ (allF W fls n).1.take k = (allF W fls k).1
  | n + 1, k, h => by
    have ln := (allF_len W fls n).1
    have e : (allF W fls (n + 1)).1 = (allF W fls n).1 ++ [(standF W fls (allF W fls n).1 (lastRow (allF W fls n).1)).1] := rfl
    rw [e]
    by_cases hk : k = n
    · subst hk
      refine ⟨?_, ?_⟩
      · have q := gP_snoc_eq (pls := (allF W fls k).1) (s := (standF W fls (allF W fls k).1 (lastRow (allF W fls k).1)).1)
        rw [ln] at q
        exact q
      · rw [List.take_append_of_le_length (by omega), List.take_of_length_le (by omega)]
    · have q := allF_get (W := W) (fls := fls) (n := n) (k := k) (by omega)
      exact ⟨by rw [gP_snoc_lt (by omega)]; exact q.1, by rw [List.take_append_of_le_length (by omega)]; exact q.2⟩
theorem kth {W : Int} {fls : List Fl} (hF : FlsOk W fls) {n k : Nat} (hn : n ≤ fls.length) (h : k < n) : StandOk W fls ((allF W fls n).1.take k) (lastRow (allF W fls k).1) (gP (allF W fls n).1 k) ∧ (∀ p ∈ (allF W fls n).1.take k, InW W (lastRow (allF W fls k).1) p) ∧ ((allF W fls n).1.take k).length = k := by
  obtain ⟨e1, e2⟩ := allF_get (W := W) (fls := fls) h
  have lk := (allF_len W fls k).1
  have q := allF_ok hF k (by omega)
  rw [e1, e2]
  exact ⟨standF_ok hF (by rw [lk]; omega) q.2, q.2, lk⟩
end S2
namespace S2
open PySem L2
abbrev Str3 := Int × Int × Int
def sqStep (E : Int → Int × Int) (t : List Str3) (b : Int) : List Str3 := if t.getLast?.map (·.2) = some (E b) then t else t ++ [(b, E b)]
def sq (E : Int → Int × Int) (bs : List Int) : List Str3 := bs.foldl (sqStep E) []
structure SqOk (E : Int → Int × Int) (bs : List Int) (t : List Str3) : Prop where
  ne : bs ≠ [] → t ≠ []
  fst : t.head?.map (·.1) = bs.head?
  at_ : ∀ x ∈ t, x.2 = E x.1 ∧ x.1 ∈ bs
  rise : t.Pairwise (fun a b => a.1 < b.1)
  unl : ∀ k a b, t[k]? = some a → t[k + 1]? = some b → a.2 ≠ b.2
  cov : ∀ b ∈ bs, ∀ k a, t[k]? = some a → a.1 ≤ b → (∀ c, t[k + 1]? = some c → b < c.1) → a.2 = E b
  last : ∀ b, bs.getLast? = some b → t.getLast?.map (·.2) = some (E b)
theorem last_at {α : Type} {t : List α} {k : Nat} {a : α} (h : t[k]? = some a) (hn : t[k + 1]? = none) : t.getLast? = some a := by
  have h1 := List.getElem?_eq_none_iff.mp hn
  have h2 : k < t.length := by
    rcases Nat.lt_or_ge k t.length with z | z
    · exact z
    · rw [List.getElem?_eq_none z] at h; cases h
  rw [List.getLast?_eq_getElem?, show t.length - 1 = k by omega]
  exact h
theorem sq_ok (E : Int → Int × Int) : ∀ (bs : List Int) (t : List Str3) (ahead : List Int), (ahead ++ bs).Pairwise (· < ·) → SqOk E ahead t → SqOk E (ahead ++ bs) (bs.foldl (sqStep E) t)
  | [], t, ahead, _, h => by simpa using h
  | b :: bs, t, ahead, hp, h => by
    have key : SqOk E (ahead ++ [b]) (sqStep E t b) := by
      have hlt : ∀ x ∈ ahead, x < b := fun x hx => (List.pairwise_append.mp hp).2.2 x hx b (List.mem_cons_self ..)
      unfold sqStep
      split
      · rename_i c
        have hne : t ≠ [] := fun z => by rw [z] at c; cases c
        have han : ahead ≠ [] := fun z => by
          have := h.fst
          rw [z] at this
          cases t with
          | nil => exact hne rfl
          | cons => cases this
        refine ⟨fun _ => hne, ?_, fun x hx => ⟨(h.at_ x hx).1, List.mem_append_left _ (h.at_ x hx).2⟩, h.rise, h.unl, fun b' hb' k a ha hle hn => ?_, fun b' hb' => ?_⟩
        · rw [h.fst]
          cases ahead with
          | nil => exact absurd rfl han
          | cons => rfl
        · rcases List.mem_append.mp hb' with z | z
          · exact h.cov b' z k a ha hle hn
          · rw [List.mem_singleton] at z
            subst z
            have hnone : t[k + 1]? = none := by
              cases e : t[k + 1]? with
              | none => rfl
              | some d =>
                have h1 := hn d e
                have h2 := hlt _ (h.at_ d (List.mem_of_getElem? e)).2
                omega
            rw [last_at ha hnone] at c
            exact Option.some.inj c
        · rw [List.getLast?_append] at hb'
          simp at hb'
          subst hb'
          exact c
      · rename_i c
        refine ⟨fun _ => by simp, ?_, fun x hx => ?_, ?_, fun k a a' ha ha' => ?_, fun b' hb' k a ha hle hn => ?_, fun b' hb' => ?_⟩
        · cases t with
          | nil =>
            have := h.fst
            cases ahead with
            | nil => rfl
            | cons => cases this
          | cons x t =>
            have := h.fst
            cases ahead with
            | nil => cases this
            | cons y ahead => simpa using this
        · rcases List.mem_append.mp hx with z | z
          · exact ⟨(h.at_ x z).1, List.mem_append_left _ (h.at_ x z).2⟩
          · rw [List.mem_singleton] at z
            subst z
            exact ⟨rfl, by simp⟩
        · rw [List.pairwise_append]
          refine ⟨h.rise, by simp, fun a ha a' ha' => ?_⟩
          rw [List.mem_singleton] at ha'
          subst ha'
          exact hlt _ (h.at_ a ha).2
        · by_cases z : k + 1 < t.length
          · rw [List.getElem?_append_left (by omega)] at ha
            rw [List.getElem?_append_left z] at ha'
            exact h.unl k a a' ha ha'
          · have hk : k + 1 = t.length := by
              have : k + 1 < (t ++ [(b, E b)]).length := by
                rcases Nat.lt_or_ge (k + 1) (t ++ [(b, E b)]).length with y | y
                · exact y
                · rw [List.getElem?_eq_none y] at ha'; cases ha'
              simp at this; omega
            rw [List.getElem?_append_left (by omega)] at ha
            rw [List.getElem?_append_right (by omega), hk, Nat.sub_self] at ha'
            have e' : a' = (b, E b) := by simpa using ha'.symm
            have el := last_at ha (by rw [List.getElem?_eq_none_iff]; omega)
            rw [e']
            intro q
            rw [el] at c
            exact c (by rw [Option.map_some, q])
        · by_cases z : k < t.length
          · rw [List.getElem?_append_left z] at ha
            rcases List.mem_append.mp hb' with y | y
            · refine h.cov b' y k a ha hle fun d hd => hn d ?_
              rw [List.getElem?_append_left]
              · exact hd
              · rcases Nat.lt_or_ge (k + 1) t.length with y | y
                · exact y
                · rw [List.getElem?_eq_none y] at hd; cases hd
            · rw [List.mem_singleton] at y
              subst y
              by_cases w : k + 1 < t.length
              · have h1 := hn t[k + 1] (by rw [List.getElem?_append_left w, List.getElem?_eq_getElem w])
                have h2 := hlt _ (h.at_ t[k + 1] (List.getElem_mem w)).2
                omega
              · have h1 := hn (b', E b') (by rw [List.getElem?_append_right (by omega), show k + 1 - t.length = 0 by omega]; rfl)
                exact absurd h1 (Int.lt_irrefl _)
          · have hk : k = t.length := by
              have : k < (t ++ [(b, E b)]).length := by
                rcases Nat.lt_or_ge k (t ++ [(b, E b)]).length with y | y
                · exact y
                · rw [List.getElem?_eq_none y] at ha; cases ha
              simp at this; omega
            rw [List.getElem?_append_right (by omega), hk, Nat.sub_self] at ha
            have e' : a = (b, E b) := by simpa using ha.symm
            subst e'
            have : b' = b := by
              rcases List.mem_append.mp hb' with y | y
              · have := hlt _ y; dsimp only at hle; omega
              · exact List.mem_singleton.mp y
            rw [this]
        · rw [List.getLast?_append] at hb'
          simp at hb'
          subst hb'
          simp
    have := sq_ok E bs (sqStep E t b) (ahead ++ [b]) (by rw [List.append_assoc]; exact hp) key
    rw [List.append_assoc] at this
    exact this
theorem sq_all (E : Int → Int × Int) {bs : List Int} (hp : bs.Pairwise (· < ·)) : SqOk E bs (sq E bs) := by
  have := sq_ok E bs [] [] (by simpa using hp) ⟨fun h => absurd rfl h, rfl, (fun x hx => nomatch hx), List.Pairwise.nil, (fun k a b h => by simp at h), (fun b hb => nomatch hb), (fun b hb => by simp at hb)⟩
  simpa [sq] using this
theorem below_most : ∀ {bs : List Int} {r b0 : Int}, b0 ∈ bs → b0 ≤ r → ∃ b ∈ bs, b ≤ r ∧ ∀ b' ∈ bs, b' ≤ r → b' ≤ b
  | [], r, b0, h, _ => by cases h
  | x :: bs, r, b0, h, hr => by
    by_cases e : ∃ y ∈ bs, y ≤ r
    · obtain ⟨y, hy, hyr⟩ := e
      obtain ⟨b, hb, hbr, hm⟩ := below_most hy hyr
      by_cases c : x ≤ r ∧ b ≤ x
      · exact ⟨x, List.mem_cons_self .., c.1, fun b' hb' hr' => by
          rcases List.mem_cons.mp hb' with z | z
          · omega
          · have := hm b' z hr'; omega⟩
      · exact ⟨b, List.mem_cons_of_mem _ hb, hbr, fun b' hb' hr' => by
          rcases List.mem_cons.mp hb' with z | z
          · subst z; omega
          · exact hm b' z hr'⟩
    · rcases List.mem_cons.mp h with z | z
      · subst z
        exact ⟨b0, List.mem_cons_self .., hr, fun b' hb' hr' => by
          rcases List.mem_cons.mp hb' with z | z
          · omega
          · exact absurd ⟨b', z, hr'⟩ e⟩
      · exact absurd ⟨b0, z, hr⟩ e
def eF (W : Int) (fls : List Fl) (pls : List Pl) (r : Int) : Int × Int := (edL fls pls r 1, edR W fls pls r 1 - edL fls pls r 1)
theorem ed_const {W row0 : Int} {fls : List Fl} {pls : List Pl} (hp : ∀ p ∈ pls, InW W row0 p) {b r : Int} (hbr : b ≤ r) (hc : ∀ p ∈ pls, (p.y ≤ r → p.y ≤ b) ∧ (b < p.y + p.h → r < p.y + p.h)) : eF W fls pls r = eF W fls pls b := by
  have ht : ∀ sd, tIdx fls pls sd r 1 = tIdx fls pls sd b 1 := fun sd => by
    unfold tIdx
    refine List.filter_congr fun i hi => ?_
    have hi2 : i < pls.length := by rw [List.mem_range] at hi; omega
    have hm := gP_mem hi2
    have h0 := (hp _ hm).h0
    have hcc := hc _ hm
    congr 1
    rw [Bool.eq_iff_iff, touB_iff, touB_iff]
    omega
  unfold eF edL edR nrL nrR
  rw [ht true, ht false]
def brk (pls : List Pl) : List Int := 0 :: pls.flatMap fun p => [p.y, p.y + p.h]
theorem mem_brk {pls : List Pl} {x : Int} : x ∈ brk pls ↔ x = 0 ∨ ∃ p ∈ pls, x = p.y ∨ x = p.y + p.h := by
  unfold brk
  simp [List.mem_flatMap]
theorem allF_y0 {W : Int} {fls : List Fl} (hF : FlsOk W fls) {n : Nat} (hn : n ≤ fls.length) : ∀ p ∈ (allF W fls n).1, 0 ≤ p.y := fun p hp => by
  obtain ⟨k, hk, rfl⟩ := List.mem_iff_getElem.mp hp
  have ln := (allF_len W fls n).1
  obtain ⟨st, -, -⟩ := kth hF hn (k := k) (by omega)
  have h0 := (allF_ok hF k (by omega)).1
  have e : gP (allF W fls n).1 k = (allF W fls n).1[k] := gP_of (List.getElem?_eq_getElem hk)
  rw [← e]
  exact Int.le_trans h0 st.ge
structure Told (W : Int) (fls : List Fl) (pls : List Pl) (t : List Str3) : Prop where
  ne : t ≠ []
  fst : ∃ e t', t = (0, e) :: t'
  rise : t.Pairwise (fun a b => a.1 < b.1)
  unl : ∀ k a b, t[k]? = some a → t[k + 1]? = some b → a.2 ≠ b.2
  cov : ∀ r, 0 ≤ r → ∀ k a, t[k]? = some a → a.1 ≤ r → (∀ c, t[k + 1]? = some c → r < c.1) → a.2 = eF W fls pls r
  last : ∃ r, t.getLast? = some (r, 0, W) ∧ (r = 0 ∨ ∃ p ∈ pls, r ≤ p.y + p.h)
  len : t.length ≤ 2 * pls.length + 1
theorem sq_len (E : Int → Int × Int) : ∀ (bs : List Int) (t : List Str3), (bs.foldl (sqStep E) t).length ≤ t.length + bs.length
  | [], t => by simp
  | b :: bs, t => by
    rw [List.foldl_cons]
    have h1 := sq_len E bs (sqStep E t b)
    have h2 : (sqStep E t b).length ≤ t.length + 1 := by unfold sqStep; split <;> simp
    rw [List.length_cons]; omega
theorem told_ok {W row0 : Int} {fls : List Fl} {pls : List Pl} (hp : ∀ p ∈ pls, InW W row0 p) (hy : ∀ p ∈ pls, 0 ≤ p.y) {bs : List Int} (hb : bs.Pairwise (· < ·)) (hm : ∀ x, x ∈ bs ↔ x ∈ brk pls) (hl : bs.length ≤ 2 * pls.length + 1) : Told W fls pls (sq (eF W fls pls) bs) := by
  have h := sq_all (eF W fls pls) hb
  have h0 : (0 : Int) ∈ bs := (hm 0).mpr (mem_brk.mpr (.inl rfl))
  have hne : bs ≠ [] := fun z => by rw [z] at h0; cases h0
  have hge : ∀ x ∈ bs, 0 ≤ x := fun x hx => by
    rcases mem_brk.mp ((hm x).mp hx) with e | ⟨p, hp', e | e⟩
    · omega
    · have := hy p hp'; omega
    · have := hy p hp'; have := (hp p hp').h0; omega
  have hhead : bs.head? = some 0 := by
    cases bs with
    | nil => exact absurd rfl hne
    | cons x bs =>
      rcases List.mem_cons.mp h0 with e | e
      · rw [e]; rfl
      · have h1 := (List.pairwise_cons.mp hb).1 0 e
        have h2 := hge x (List.mem_cons_self ..)
        omega
  have const : ∀ r b, b ∈ bs → b ≤ r → (∀ b' ∈ bs, b' ≤ r → b' ≤ b) → eF W fls pls r = eF W fls pls b := fun r b hbm hbr hmx => by
    refine ed_const hp hbr fun p hp' => ⟨fun z => hmx _ ((hm _).mpr (mem_brk.mpr (.inr ⟨p, hp', .inl rfl⟩))) z, fun z => ?_⟩
    have := hmx (p.y + p.h) ((hm _).mpr (mem_brk.mpr (.inr ⟨p, hp', .inr rfl⟩)))
    omega
  have hf := h.fst
  rw [hhead] at hf
  refine ⟨h.ne hne, ?_, h.rise, h.unl, fun r hr k a ha hle hn => ?_, ?_, ?_⟩
  · cases e : sq (eF W fls pls) bs with
    | nil => rw [e] at hf; cases hf
    | cons x t =>
      rw [e] at hf
      obtain ⟨x1, x2⟩ := x
      have : x1 = 0 := by simpa using hf
      subst this
      exact ⟨x2, t, rfl⟩
  · obtain ⟨b, hbm, hbr, hmx⟩ := below_most h0 hr
    rw [const r b hbm hbr hmx]
    refine h.cov b hbm k a ha (hmx _ (h.at_ a (List.mem_of_getElem? ha)).2 hle) fun c hc => ?_
    have := hn c hc; omega
  · obtain ⟨b, hbl⟩ : ∃ b, bs.getLast? = some b := by
      cases e : bs.getLast? with
      | none => rw [List.getLast?_eq_none_iff] at e; exact absurd e hne
      | some b => exact ⟨b, rfl⟩
    have hmaxb : ∀ x ∈ bs, x ≤ b := fun x hx => by
      obtain ⟨i, hi, rfl⟩ := List.mem_iff_getElem.mp hx
      rw [List.getLast?_eq_getElem?, List.getElem?_eq_getElem (by omega)] at hbl
      have e := Option.some.inj hbl
      by_cases z : i = bs.length - 1
      · subst z; omega
      · have := (List.pairwise_iff_getElem.mp hb) i (bs.length - 1) hi (by omega) (by omega)
        omega
    have hl2 := h.last b hbl
    have eb : eF W fls pls b = (0, W) := by
      have hno : ∀ sd, tIdx fls pls sd b 1 = [] := fun sd => by
        rw [List.eq_nil_iff_forall_not_mem]
        intro i hi
        obtain ⟨-, i2, -, i4⟩ := mem_tIdx.mp hi
        have h4 := touB_iff.mp i4
        have := hmaxb _ ((hm _).mpr (mem_brk.mpr (.inr ⟨gP pls i, gP_mem i2, .inr rfl⟩)))
        omega
      have e1 : edL fls pls b 1 = 0 := by
        rcases edL_is fls pls b 1 with z | ⟨i, hi, _⟩
        · exact z
        · rw [hno] at hi; cases hi
      have e2 : edR W fls pls b 1 = W := by
        rcases edR_is W fls pls b 1 with z | ⟨i, hi, _⟩
        · exact z
        · rw [hno] at hi; cases hi
      unfold eF
      rw [e1, e2]
      simp
    rw [eb] at hl2
    cases e : (sq (eF W fls pls) bs).getLast? with
    | none => rw [e] at hl2; cases hl2
    | some x =>
      rw [e] at hl2
      obtain ⟨x1, x2⟩ := x
      have e2 : x2 = (0, W) := Option.some.inj hl2
      subst e2
      refine ⟨x1, rfl, ?_⟩
      have hx := (h.at_ (x1, 0, W) (List.mem_of_getLast? e)).2
      rcases mem_brk.mp ((hm x1).mp hx) with z | ⟨p, hp', z | z⟩
      · exact .inl z
      · have := (hp p hp').h0; exact .inr ⟨p, hp', by omega⟩
      · exact .inr ⟨p, hp', by omega⟩
  · have := sq_len (eF W fls pls) bs []
    unfold sq
    simp at this
    omega
end S2
namespace DS
open PySem PySem.SetTable
def Ris (xs : Array Nat) : Prop := xs.toList.Pairwise (· < ·)
theorem Ris.lt {xs : Array Nat} (h : Ris xs) {i j : Nat} (hi : i < xs.size) (hj : j < xs.size) (hij : i < j) : xs[i] < xs[j] := by
  have := (List.pairwise_iff_getElem.mp h) i j (by simpa using hi) (by simpa using hj) hij
  simpa using this
theorem go_ok {xs : Array Nat} (h : Ris xs) (j : Nat) : ∀ (fuel lo hi : Nat), hi - lo ≤ fuel → lo ≤ hi → hi ≤ xs.size → (∀ i (hi : i < xs.size), i < lo → xs[i] < j) → (∀ i (hx : i < xs.size), hi ≤ i → j ≤ xs[i]) →
    below.go xs j fuel lo hi ≤ xs.size ∧ (∀ i (hx : i < xs.size), i < below.go xs j fuel lo hi → xs[i] < j) ∧ ∀ i (hx : i < xs.size), below.go xs j fuel lo hi ≤ i → j ≤ xs[i]
  | 0, lo, hi, hf, hl, hs, h1, h2 => by
    have e : lo = hi := by omega
    subst e
    exact ⟨hs, h1, h2⟩
  | fuel + 1, lo, hi, hf, hl, hs, h1, h2 => by
    unfold below.go
    by_cases c : lo < hi
    · rw [if_pos c]
      have hm : (lo + hi) / 2 < xs.size := by omega
      have eg : xs.getD ((lo + hi) / 2) j = xs[(lo + hi) / 2] := by simp [Array.getD, hm]
      dsimp only
      rw [eg]
      by_cases d : xs[(lo + hi) / 2] < j
      · rw [if_pos d]
        refine go_ok h j fuel _ hi (by omega) (by omega) hs (fun i hx hlt => ?_) h2
        by_cases z : i = (lo + hi) / 2
        · subst z; exact d
        · exact Nat.lt_trans (h.lt hx hm (by omega)) d
      · rw [if_neg d]
        refine go_ok h j fuel lo _ (by omega) (by omega) (by omega) h1 (fun i hx hle => ?_)
        by_cases z : i = (lo + hi) / 2
        · subst z; omega
        · have := h.lt hm hx (by omega)
          omega
    · rw [if_neg c]
      have e : lo = hi := by omega
      subst e
      exact ⟨hs, h1, h2⟩
theorem below_ok {xs : Array Nat} (h : Ris xs) (j : Nat) : below xs j ≤ xs.size ∧ (∀ i (hx : i < xs.size), i < below xs j → xs[i] < j) ∧ ∀ i (hx : i < xs.size), below xs j ≤ i → j ≤ xs[i] :=
  go_ok h j xs.size 0 xs.size (by omega) (Nat.zero_le _) (Nat.le_refl _) (fun i _ z => absurd z (Nat.not_lt_zero _)) fun i hx z => absurd hx (by omega)
theorem Ris.put {xs : Array Nat} (h : Ris xs) {j : Nat} (hn : xs[below xs j]? ≠ some j) : Ris (insertAt xs (below xs j) j) := by
  obtain ⟨b1, b2, b3⟩ := below_ok h j
  unfold Ris
  rw [toList_insertAt, List.pairwise_append]
  refine ⟨List.Pairwise.sublist (List.take_sublist _ _) h, List.pairwise_cons.mpr ⟨fun x hx => ?_, List.Pairwise.sublist (List.drop_sublist _ _) h⟩, fun x hx y hy => ?_⟩
  · obtain ⟨i, hi, e⟩ := List.mem_iff_getElem.mp hx
    rw [List.length_drop] at hi
    rw [List.getElem_drop] at e
    have hi' : below xs j + i < xs.size := by simp at hi; omega
    have e' : xs[below xs j + i] = x := by simpa using e
    have hge := b3 (below xs j + i) hi' (by omega)
    by_cases z : i = 0
    · subst z
      have : xs[below xs j]? = some xs[below xs j + 0] := by rw [Array.getElem?_eq_getElem (by omega)]; rfl
      have ne : xs[below xs j + 0] ≠ j := fun w => hn (by rw [this, w])
      omega
    · have h0 := b3 (below xs j) (by omega) (Nat.le_refl _)
      have := h.lt (i := below xs j) (j := below xs j + i) (by omega) hi' (by omega)
      omega
  · obtain ⟨i, hi, e⟩ := List.mem_iff_getElem.mp hx
    rw [List.length_take] at hi
    rw [List.getElem_take] at e
    have hi' : i < xs.size := by simp at hi; omega
    have e' : xs[i] = x := by simpa using e
    have hxj : x < j := by rw [← e']; exact b2 i hi' (by omega)
    rcases List.mem_cons.mp hy with w | w
    · rw [w]; exact hxj
    · obtain ⟨k, hk, ek⟩ := List.mem_iff_getElem.mp w
      rw [List.length_drop] at hk
      rw [List.getElem_drop] at ek
      have hk' : below xs j + k < xs.size := by simp at hk; omega
      have ek' : xs[below xs j + k] = y := by simpa using ek
      have := b3 _ hk' (by omega)
      omega
theorem ris_range (n : Nat) : Ris (Array.range n) := by
  unfold Ris
  rw [Array.toList_range]
  exact List.pairwise_lt_range
theorem below_next {xs : Array Nat} (h : Ris xs) {i : Nat} (hi : i < xs.size) : below xs (xs[i] + 1) = i + 1 := by
  obtain ⟨b1, b2, b3⟩ := below_ok h (xs[i] + 1)
  by_cases c : below xs (xs[i] + 1) ≤ i
  · have := b3 i hi c
    omega
  · by_cases d : i + 1 < below xs (xs[i] + 1)
    · have h1 := b2 (i + 1) (by omega) d
      have h2 := h.lt (i := i) (j := i + 1) hi (by omega) (by omega)
      omega
    · omega
theorem below_zero {xs : Array Nat} (h : Ris xs) : below xs 0 = 0 := by
  obtain ⟨b1, b2, b3⟩ := below_ok h 0
  by_cases c : below xs 0 = 0
  · exact c
  · have := b2 0 (by omega) (by omega)
    omega
theorem slot_free {t : SetTable} {j : Nat} (h : t.slot j = .empty ∨ t.slot j = .dummy) : t.place[below t.place j]? ≠ some j := by
  intro e
  unfold SetTable.slot at h
  dsimp only at h
  rw [e] at h
  simp at h
theorem probe_ok (t : SetTable) (ha : Nat → Int) (hs : Int) : ∀ (fuel : Nat) (p : Probe) (j : Nat) (dm : Option Nat), (∀ d, p.dummy = some d → t.slot d = .dummy) → SetTable.probe.go t ha hs fuel p = some (.empty j dm) → t.slot j = .empty ∧ ∀ d, dm = some d → t.slot d = .dummy
  | 0, p, j, dm, _, e => by cases e
  | fuel + 1, p, j, dm, hp, e => by
    unfold SetTable.probe.go at e
    have adv : ∀ p : Probe, (t.advance p).dummy = p.dummy := fun p => by
      unfold SetTable.advance
      split <;> rfl
    split at e
    · rename_i hsl
      cases e
      exact ⟨hsl, hp⟩
    · rename_i hsl
      refine probe_ok t ha hs fuel _ j dm (fun d ed => ?_) e
      rw [adv] at ed
      cases ed
      exact hsl
    · split at e
      · cases e
      · refine probe_ok t ha hs fuel _ j dm (fun d ed => ?_) e
        rw [adv] at ed
        exact hp d ed
theorem freeSlot_ok {t : SetTable} {h : Int} {j : Nat} {d : Bool} (e : t.freeSlot h = some (j, d)) : t.place[below t.place j]? ≠ some j := by
  unfold SetTable.freeSlot at e
  split at e
  · rename_i j' dm hp
    obtain ⟨a, b⟩ := probe_ok t _ h _ _ j' dm (fun d ed => by cases ed) hp
    cases dm with
    | none => cases e; exact slot_free (.inl a)
    | some d' => cases e; exact slot_free (.inr (b d' rfl))
  · cases e
theorem standIn_ris (t : SetTable) (n : Nat) : Ris (t.standIn n).place ∧ (t.standIn n).led = t.led := ⟨ris_range n, rfl⟩
theorem orStandIn_ris {t : SetTable} (h : Ris t.place) (n : Nat) : Ris (t.orStandIn n).place ∧ (t.orStandIn n).led = t.led := by
  unfold SetTable.orStandIn
  split
  · exact ⟨h, rfl⟩
  · exact standIn_ris t n
theorem layNew_ris {t : SetTable} (h : Ris t.place) (es : Array (Int × Value)) (hs : Int) (x : Value) : Ris (layNew t es hs x).2.1.place ∧ (layNew t es hs x).2.1.led = t.led := by
  unfold layNew
  split
  · rename_i slot wd e
    dsimp only
    have hr : Ris (t.put slot).1.place := h.put (freeSlot_ok e)
    exact orStandIn_ris hr _
  · exact standIn_ris t _
theorem relayAll_ris (t : SetTable) (es : Array (Int × Value)) (wanted : Nat) : Ris (relayAll t es wanted).2.1.place ∧ (relayAll t es wanted).2.1.led = t.led := by
  unfold relayAll
  split
  · rename_i t' order e
    dsimp only
    split
    · dsimp only
      unfold SetTable.relaid SetTable.laid at e
      simp only [Option.bind_eq_bind, Option.bind_eq_some_iff, Option.pure_def, Option.some.injEq, Prod.mk.injEq] at e
      obtain ⟨owner, _, e1, _⟩ := e
      rw [← e1]
      refine ⟨?_, rfl⟩
      unfold Ris
      rw [List.toList_toArray]
      have : ∀ (l : List Nat) (f : Nat → Option Nat), l.Pairwise (· < ·) → ((l.filterMap fun j => (f j).map (j, ·)).map (·.1)).Pairwise (· < ·) := by
        intro l f hl
        refine List.pairwise_map.mpr (List.Pairwise.filterMap _ ?_ hl)
        intro a a' haa b hb b' hb'
        obtain ⟨x, _, rfl⟩ := Option.map_eq_some_iff.mp hb
        obtain ⟨y, _, rfl⟩ := Option.map_eq_some_iff.mp hb'
        exact haa
      exact this _ _ List.pairwise_lt_range
    · exact standIn_ris t _
  · exact standIn_ris t _
end DS
namespace DS
open PySem PySem.SetTable PyProof.Rows PySem.Spec
def Led (w : World) : Bool := !(w.params.followText "set-order")
def SetP (prog : Program) (w : World) (h : Heap) (a : Addr) (ks : List Int) : Prop :=
  ∃ o es ep t vs, h.get? a = some o ∧ o.ExactSet ∧ o.data = .set es ep t ∧ ElemsOf (intKind prog w) es.toList ∧ IntsAre vs ks ∧ (es.toList.map (·.2)).Perm vs ∧
    es.size < scanBound ∧ t.fits es.size = true ∧ Ris t.place ∧ t.led = Led w
section
variable {prog : Program} {w : World} {A : Around} {E : Value → Shared → Prop} {s : Shared}
theorem ints_mem : ∀ {vs : List Value} {ks : List Int}, IntsAre vs ks → ∀ k, ks.any (· == k) = true ↔ ∃ v ∈ vs, (intKind prog w).is k v = true
  | _, _, .nil, k => by simp
  | _, _, .cons n t hr, k => by
    rw [List.any_cons, Bool.or_eq_true, ints_mem hr k]
    constructor
    · rintro (h | ⟨v, hv, h⟩)
      · have e : n = k := by simpa using h
        subst e
        exact ⟨_, List.mem_cons_self .., intKind_is _ _ _ _⟩
      · exact ⟨v, List.mem_cons_of_mem _ hv, h⟩
    · rintro ⟨v, hv, h⟩
      rcases List.mem_cons.mp hv with e | e
      · subst e
        left
        have := (intKind prog w).inj _ _ _ h (intKind_is _ _ n t)
        subst this
        simp
      · exact .inr ⟨v, e, h⟩
theorem ints_snoc : ∀ {vs : List Value} {ks : List Int}, IntsAre vs ks → ∀ (k : Int) (t : Tok), IntsAre (vs ++ [.int k t]) (ks ++ [k])
  | _, _, .nil, k, t => .cons k t .nil
  | _, _, .cons n u hr, k, t => .cons n u (ints_snoc hr k t)
theorem memP {es : List (Int × Value)} {vs : List Value} {ks : List Int} (hi : IntsAre vs ks) (hp : (es.map (·.2)).Perm vs) (k : Int) : ks.any (· == k) = true ↔ ∃ e ∈ es, (intKind prog w).is k e.2 = true := by
  rw [ints_mem (prog := prog) (w := w) hi k]
  constructor
  · rintro ⟨v, hv, h⟩
    obtain ⟨e, he, rfl⟩ := List.mem_map.mp (hp.mem_iff.mpr hv)
    exact ⟨e, he, h⟩
  · rintro ⟨e, he, h⟩
    exact ⟨e.2, hp.mem_iff.mp (List.mem_map_of_mem he), h⟩
theorem ints_len : ∀ {vs : List Value} {ks : List Int}, IntsAre vs ks → vs.length = ks.length
  | _, _, .nil => rfl
  | _, _, .cons n t hr => by rw [List.length_cons, List.length_cons, ints_len hr]
theorem SetP.at' {h h' : Heap} {a : Addr} {ks : List Int} (x : SetP prog w h a ks) (hk : ∀ o, h.get? a = some o → h'.get? a = some o) : SetP prog w h' a ks := by
  obtain ⟨o, es, ep, t, vs, h1, r⟩ := x
  exact ⟨o, es, ep, t, vs, hk o h1, r⟩
theorem get_store {h : Heap} {a : Addr} {o : Obj} {es : Array (Int × Value)} {ep : Nat} {t : SetTable} (ho : h.get? a = some o) (hd : o.data = .set es ep t) (es' : Array (Int × Value)) (t' : SetTable) :
    (h.update a (Obj.putSet es' t')).get? a = some { o with data := .set es' (ep + 1) t' } := by
  have := Heap.get?_update_self (Obj.putSet es' t') ho (by rw [putSet_of es' t' hd]; rfl)
  rw [putSet_of es' t' hd] at this; exact this
theorem addTail {g : Bool → Sem Unit} (hg : ∀ (b : Bool) (s₁ : Shared) (Q' : Unit → Shared → Prop), Q' () s₁ → wpAny (model prog w) A (g b) Q' E s₁)
    {a : Addr} {o : Obj} {es : Array (Int × Value)} {ep : Nat} {t : SetTable} (ho : s.heap.get? a = some o) (hex : o.ExactSet) (hd : o.data = .set es ep t)
    {es1 : Array (Int × Value)} {t2 : SetTable} {ks : List Int} {vs : List Value} (hel1 : ElemsOf (intKind prog w) es1.toList) (hi : IntsAre vs ks) (hpv : (es1.toList.map (·.2)).Perm vs)
    (hb1 : es1.size < scanBound) (hf2 : t2.fits es1.size = true) (hr : Ris t2.place) (hled : t2.led = Led w) {wasDummy : Bool} {R : Option Bool → Shared → Prop}
    (h : ∀ h', Heap.SameBut a s.heap h' → SetP prog w h' a ks → R (some true) { s with heap := h' }) :
    wpAny (model prog w) A (do
        storeSet a es1 t2
        if (!wasDummy && t2.tooFull) = true then do
            g (relayAll t2 es1 (SetTable.grown es1.size)).2.2
            storeSet a (relayAll t2 es1 (SetTable.grown es1.size)).1 (relayAll t2 es1 (SetTable.grown es1.size)).2.1
            pure (some true)
          else pure (some true)) R E s := by
  refine wpAny_bind (wpAny_storeSet_of ho hd ?_ (fits_of_scanBound hb1))
  have ho1 := get_store ho hd es1 t2
  have hsb1 := Heap.SameBut.update s.heap a (Obj.putSet es1 t2)
  split
  · have hp := relayAll_perm t2 es1 (SetTable.grown es1.size)
    have hfr := relayAll_fits t2 es1 (SetTable.grown es1.size)
    obtain ⟨hr2, hl2⟩ := relayAll_ris t2 es1 (SetTable.grown es1.size)
    generalize hRl : relayAll t2 es1 (SetTable.grown es1.size) = Rl at hp hfr hr2 hl2 ⊢
    obtain ⟨es2, t3, gave2⟩ := Rl
    dsimp only at hp hfr hr2 hl2 ⊢
    have hel2 : ElemsOf (intKind prog w) es2.toList := hel1.perm hp
    have hsz : es2.size = es1.size := by rw [← Array.length_toList, hp.length_eq, Array.length_toList]
    have hb2 : es2.size < scanBound := by rw [hsz]; exact hb1
    refine wpAny_bind (hg _ _ _ ?_)
    refine wpAny_bind (wpAny_storeSet_of ho1 rfl ?_ (fits_of_scanBound hb2))
    have ho2 := get_store (o := { o with data := .set es1 (ep + 1) t2 }) ho1 rfl es2 t3
    exact wpAny_pure (h _ (hsb1.trans (Heap.SameBut.update _ a _)) ⟨_, es2, _, t3, vs, ho2, hex, rfl, hel2, hi, (hp.map _).trans hpv, hb2, hfr, hr2, hl2.trans hled⟩)
  · exact wpAny_pure (h _ hsb1 ⟨_, es1, _, t2, vs, ho1, hex, rfl, hel1, hi, hpv, hb1, hf2, hr, hled⟩)
theorem setAddP {a : Addr} {ks : List Int} {k : Int} {tt : Tok} {Q : Bool → Shared → Prop} (hS : SetP prog w s.heap a ks) (hroom : ks.length + 1 < scanBound)
    (h : ∀ h', Heap.SameBut a s.heap h' → SetP prog w h' a (step_dedup ks k) → Q (!ks.any (· == k)) { s with heap := h' }) :
    wpAny (model prog w) A (setAddHashed a (.int k tt) ((intKind prog w).hash k)) Q E s := by
  have hkey : (intKind prog w).is k (.int k tt) = true := intKind_is _ _ _ _
  have hsc : (Value.int k tt).scannable = true := rfl
  obtain ⟨o, es, ep, t, vs, ho, hex, hd, hel, hi, hpv, hb, hf, hr, hled⟩ := hS
  have hmem := fun k' => memP (prog := prog) (w := w) hi hpv k'
  have hn : es.size = ks.length := by rw [← ints_len hi, ← hpv.length_eq, List.length_map, Array.length_toList]
  have hb1 : es.size + 1 < scanBound := by rw [hn]; exact hroom
  unfold setAddHashed setAddHashedIn
  refine wpAny_holding (wpAny_bind (wpAny_setState_of ho hd hf ?_))
  dsimp only
  rw [byScan_of hsc hb hel]
  simp only [↓reduceIte]
  unfold setAddByScan
  refine wpAny_bind ?_
  refine wpAny_bind (wpAny_rule ?_)
  refine wpAny_bind (wpAny_setScan_of hkey ho hd hf hel ?_)
  cases hrr : List.findIdx? (fun e => (intKind prog w).is k e.2) es.toList with
  | some j =>
    dsimp only
    obtain ⟨hj, hpj, _⟩ := List.findIdx?_eq_some_iff_getElem.mp hrr
    have hSk : ks.any (· == k) = true := (hmem k).mpr ⟨es.toList[j], List.getElem_mem hj, hpj⟩
    refine wpAny_pure (wpAny_pure ?_)
    have e : s = { s with heap := s.heap } := by cases s; rfl
    have := h s.heap (Heap.SameBut.refl a s.heap) ⟨o, es, ep, t, vs, ho, hex, hd, hel, by unfold step_dedup; rw [if_pos hSk]; exact hi, hpv, hb, hf, hr, hled⟩
    rw [hSk] at this; rw [e]; exact this
  | none =>
    dsimp only
    have hSk : ks.any (· == k) = false := by
      cases hk : ks.any (· == k) with
      | false => rfl
      | true => obtain ⟨e, he, hp⟩ := (hmem k).mp hk; have := List.findIdx?_eq_none_iff.mp hrr e he; rw [hp] at this; exact Bool.noConfusion this
    have hgw : ∀ (b : Bool) {s₁ : Shared} {Q' : Unit → Shared → Prop}, Q' () s₁ → wpAny (model prog w) A (match b with | true => rule "set.scan.the-table-gave-way" | false => pure ()) Q' E s₁ :=
      fun b s₁ Q' hq => by cases b <;> first | exact wpAny_pure hq | exact wpAny_rule hq
    have hperm := layNew_perm t es ((intKind prog w).hash k) (.int k tt)
    have hfits := layNew_fits t es ((intKind prog w).hash k) (.int k tt)
    obtain ⟨hr1, hl1⟩ := layNew_ris hr es ((intKind prog w).hash k) (.int k tt)
    generalize hL : layNew t es ((intKind prog w).hash k) (.int k tt) = L at hperm hfits hr1 hl1 ⊢
    obtain ⟨es1, t1, wasDummy, gave⟩ := L
    dsimp only at hperm hfits hr1 hl1 ⊢
    rw [Array.toList_push] at hperm
    have hel1 : ElemsOf (intKind prog w) es1.toList := (hel.push hkey hsc).perm hperm
    have hb1' : es1.size < scanBound := by rw [← Array.length_toList, hperm.length_eq, List.length_append, Array.length_toList]; simpa using hb1
    have hpv1 : (es1.toList.map (·.2)).Perm (vs ++ [.int k tt]) := by
      refine (hperm.map _).trans ?_
      rw [List.map_append]
      exact hpv.append_right _
    have hi1 : IntsAre (vs ++ [.int k tt]) (step_dedup ks k) := by
      unfold step_dedup
      rw [if_neg (by rw [hSk]; exact Bool.false_ne_true)]
      exact ints_snoc hi k tt
    refine wpAny_bind (hgw _ ?_)
    have hend : ∀ h', Heap.SameBut a s.heap h' → SetP prog w h' a (step_dedup ks k) → Q true { s with heap := h' } := by
      intro h' hsb hS'; have := h h' hsb hS'; rw [hSk] at this; exact this
    split
    · refine wpAny_bind ?_
      rw [hashByValue_scannable 8 hsc]
      refine wpAny_pure ?_
      rw [show plainKind (Value.int k tt) = true from rfl]
      simp only [↓reduceIte]
      refine addTail ?_ ho hex hd hel1 hi1 hpv1 hb1' hfits hr1 (hl1.trans hled) ?_
      · intro b s₁ Q' hq; cases b <;> first | exact wpAny_pure hq | exact wpAny_rule hq
      · intro h' hsb hS'; dsimp only; exact wpAny_pure (hend h' hsb hS')
    · refine wpAny_bind (wpAny_pure ?_)
      simp only [↓reduceIte]
      refine addTail ?_ ho hex hd hel1 hi1 hpv1 hb1' hfits hr1 (hl1.trans hled) ?_
      · intro b s₁ Q' hq; cases b <;> first | exact wpAny_pure hq | exact wpAny_rule hq
      · intro h' hsb hS'; dsimp only; exact wpAny_pure (hend h' hsb hS')
end
end DS
namespace DS
open PySem PySem.SetTable PyProof.Rows PySem.Spec
section
variable {prog : Program} {w : World} {A : Around} {R : Result → Shared → Prop} {I : Addr} {fp wr : List Addr} {G : Array GenState → Array GenState → Prop} {n : Nat} {P : Nat → Value → Prop} {St : Nat → Shared → Prop}
theorem update_loopP (W : WalksS prog w A.in1 I fp wr G n P St) (S : Addr) (hSf : S ∉ fp)
    (val : Nat → Int) (hval : ∀ i v, P i v → ∃ t, v = .int (val i) t) (hb : n + 1 < scanBound) :
    ∀ (k i : Nat) (s : Shared), n - i = k → i ≤ n → St i s →
      SetP prog w s.heap S (firstMet val i) →
      (∀ s', Moved (S :: wr) G s s' → SetP prog w s'.heap S (firstMet val n) → R (.ok (.ret .none)) s') →
      codeAny (model prog w) A (.builtin "set.update.loop" ⟨[.ref S, .ref I], []⟩) R s := by
  have hSw : S ∉ wr := fun h => hSf (W.sub _ h)
  have hsub : ∀ b ∈ wr, b ∈ S :: wr := fun b hb => List.mem_cons_of_mem _ hb
  intro k
  induction k with
  | zero =>
    intro i s hk hi hst hS hR
    have hin : i = n := by omega
    subst hin
    refine codeAny_builtin PyProof.Rows.F.entry_set_update_loop ?_
    rw [Around.under_plainId PyProof.Rows.F.plain_set_update_loop _]
    show wpAny _ A.in1 (pyNext (.ref I) >>= _) _ _ s
    refine wpAny_bind (W.done s _ _ hst fun s' hm => ?_)
    show wpAny _ A.in1 (ret Value.none) _ _ s'
    exact wpAny_pure (hR s' (hm.mono hsub) (hS.at' fun o ho => hm.heap S _ hSw ho))
  | succ k ih =>
    intro i s hk hi hst hS hR
    have hlt : i < n := by omega
    refine codeAny_builtin PyProof.Rows.F.entry_set_update_loop ?_
    rw [Around.under_plainId PyProof.Rows.F.plain_set_update_loop _]
    show wpAny _ A.in1 (pyNext (.ref I) >>= _) _ _ s
    refine wpAny_bind (W.item i s _ _ hlt hst fun v s' hP hst' hm => ?_)
    obtain ⟨t, rfl⟩ := hval i v hP
    have hS' : SetP prog w s'.heap S (firstMet val i) := hS.at' fun o ho => hm.heap S _ hSw ho
    show wpAny _ A.in1 (holding [Value.int (val i) t] (setAdd S (.int (val i) t)) >>= _) _ _ s'
    refine wpAny_bind (wpAny_holding ?_)
    unfold setAdd
    refine wpAny_holding ?_
    refine wpAny_bind ((intKind prog w).pyHash (k := val i) (intKind_is _ _ _ _) ?_)
    have hroom : (firstMet val i).length + 1 < scanBound := by have := firstMet_length_le val i; omega
    refine setAddP (s := { s' with toks := s'.toks + 1 }) hS' hroom fun h' hsb hS2 => ?_
    have hSi : SetP prog w h' S (firstMet val (i + 1)) := by rw [firstMet_succ]; exact hS2
    refine wpAny_pure ⟨plainId_quiet PyProof.Rows.F.plain_set_update_loop _, ih (i + 1) _ (by omega) hlt (W.frame _ s' _ _ hst' (Nat.le_succ _) fun b hb o e => ?_) hSi fun s'' hm'' hS'' => ?_⟩
    · rw [hsb.2 b (fun h : b = S => hSf (by rw [← h]; exact hb))]; exact e
    · refine hR s'' (Moved.trans W.gtrans ((hm.mono hsub).then_heap (Nat.le_succ _) fun b o hb e => ?_) hm'') hS''
      rw [hsb.2 b (fun h : b = S => hb (by rw [h]; exact List.mem_cons_self))]; exact e
end
section
variable {prog : Program} {w : World} {A : Around} {E : Value → Shared → Prop} {s : Shared}
theorem set_new_1 (a : Value) {Q₁ : Value → Shared → Prop}
    (h : ∀ led : Bool, led = Led w → Q₁ (.ref s.heap.objs.size) { s with heap := s.heap.push { cls := .type "set", dict := none, data := .set #[] 0 (.fresh 0 0 led) } }) :
    codeAny (model prog w) A (.call (.builtin "set.__new__") ⟨[.type "set", a], []⟩) (wants Q₁ E) s := by
  refine codeAny_of_tree ?_
  show wpAny _ A.in1 (do checkBuiltinCall "set.__new__" ⟨[.type "set", a], []⟩; again (.builtin "set.__new__" ⟨[.type "set", a], []⟩)) _ _ s
  refine wpAny_bind (wpAny_of_eq (PySem.F.newCall_set_1 a) (wpAny_pure ⟨plainId_quiet PySem.F.plain_set_new _, codeAny_builtin PySem.F.entry_set_new ?_⟩))
  rw [Around.under_plainId PySem.F.plain_set_new _]
  unfold Builtin.«set.__new__» Builtin.Frozenset.newClass
  have hsub := PySem.sub_set_self
  obtain ⟨hp, g, d, tk, os⟩ := s
  dsimp only
  wp_walk
  refine wpAny_askSetting (wpAny_pure ?_)
  dsimp only
  simp only [newObj]
  refine wpAny_bind (wpAny_alloc (wpAny_pure ?_))
  exact wpAny_pure (h _ rfl)
set_option maxRecDepth 100000 in
set_option maxHeartbeats 3200000 in
theorem call_setP {l : Addr} {items : Array Value} {ns : List Int} {Q : Value → Shared → Prop}
    (hh : A.handled = none) (hl : s.heap.IsList l items) (hi : PyProof.Rows.IntsAre items.toList ns) (hb : items.size + 1 < scanBound)
    (h : ∀ (h' : Heap) (tk : Nat), SetP prog w h' s.heap.objs.size (PyProof.Rows.firstMet (fun i => ns.getD i 0) items.size) →
      (∀ b o, b < s.heap.objs.size → s.heap.get? b = some o → h'.get? b = some o) → Q (.ref s.heap.objs.size) { s with heap := h', toks := tk }) :
    wpAny (model prog w) A (call (.type "set") [.ref l]) Q E s := by
  obtain ⟨c, tl, hmro⟩ := PySem.F.called_set.mro
  have hmade := PySem.F.called_set.made
  have hsub := PySem.F.called_set.sub
  refine wpAny_call (codeAny_of_tree ?_)
  show wpAny _ _ (callAny (.type "set") _) _ _ _
  refine wpAny_pure ⟨Code.quiet_builtin _ (by decide +kernel), codeAny_builtin PySem.F.entry_type_call ?_⟩
  rw [Around.under_plain (weight_type_call_type "set" [.ref l] []) rfl]
  have h1 := PySem.F.called_set.notType
  have h2 := PySem.F.called_set.canCreate
  have hct := PySem.F.typeCall_set_1 (.ref l)
  repeat (any_goals (first | assumption | wp_step))
  refine codeAny_mono (set_new_1 (.ref l) (E := E) (Q₁ := fun obj s₁ => ∃ led : Bool, led = Led w ∧ obj = .ref s.heap.objs.size ∧ s₁ = { s with heap := s.heap.push { cls := .type "set", dict := none, data := .set #[] 0 (.fresh 0 0 led) } }) fun led hled => ⟨led, hled, rfl, rfl⟩) fun r s₁ hr => ?_
  cases r with
  | error e => exact hr
  | ok fl =>
    cases fl with
    | ret obj =>
      obtain ⟨led, hled, rfl, rfl⟩ := hr
      have hS : (s.heap.push { cls := .type "set", dict := none, data := .set #[] 0 (.fresh 0 0 led) }).get? s.heap.objs.size = some { cls := .type "set", dict := none, data := .set #[] 0 (.fresh 0 0 led) } := Heap.get?_push_size _ rfl
      have hT : Shared.TypeIs { s with heap := s.heap.push { cls := .type "set", dict := none, data := .set #[] 0 (.fresh 0 0 led) } } (.ref s.heap.objs.size) "set" := ⟨_, hS, rfl⟩
      have hli := PySem.F.called_set.init.lookup
      have hbi := PySem.F.called_set.init.bind (.ref s.heap.objs.size)
      repeat (any_goals (first | assumption | wp_step))
      refine codeAny_mono (codeAny_call_builtin (R := wants (fun r s₂ => r = .none ∧ ∃ h' tk, s₂ = { s with heap := h', toks := tk } ∧
          SetP prog w h' s.heap.objs.size (PyProof.Rows.firstMet (fun i => ns.getD i 0) items.size) ∧
          (∀ b o, b < s.heap.objs.size → s.heap.get? b = some o → h'.get? b = some o)) E) PySem.F.called_set.init.plain PySem.F.entry_set_init (check_set_init_1 hT ?_)) fun r₂ s₂ hr₂ => ?_
      · obtain ⟨ol, hol, hcl, nl, hdl⟩ := hl
        obtain ⟨ocls, odict, odata, oslots⟩ := ol
        simp only at hcl hdl
        subst hcl; subst hdl
        have hol' : (s.heap.push { cls := .type "set", dict := none, data := .set #[] 0 (.fresh 0 0 led) }).get? l = some { cls := .type "list", dict := odict, data := .seq items nl, slots := oslots } := Heap.get?_push_of_some _ hol
        have hsls := PySem.F.sub_list_set
        have hslf := PySem.F.sub_list_frozenset
        have hne : (Value.type "list" == Value.type "dict") = false := by decide
        have hl1 : (s.heap.push { cls := .type "set", dict := none, data := .set #[] 0 (.fresh 0 0 led) }).IsList l items := ⟨_, hol', rfl, nl, rfl⟩
        unfold Builtin.«set.__init__» noKeywords Builtin.Frozenset.updateFrom
        generalize hPI : pyIter = PI
        wp_walk
        subst hPI
        refine wpAny_pyIter_list hl1 ?_
        refine wpAny_bind (wpAny_runValue ?_)
        have hlS : l < s.heap.objs.size := Heap.lt_size hol
        have hh3 : A.in1.in1.in1.handled = none := by simp [hh]
        have hneI : l ≠ (s.heap.push { cls := .type "set", dict := none, data := .set #[] 0 (.fresh 0 0 led) }).objs.size := by
          rw [Heap.size_push]; exact Nat.ne_of_lt (Nat.lt_succ_of_lt hlS)
        have hSf : s.heap.objs.size ∉ [(s.heap.push { cls := .type "set", dict := none, data := .set #[] 0 (.fresh 0 0 led) }).objs.size, l] := by
          rw [Heap.size_push]; simp only [List.mem_cons, List.mem_singleton, List.not_mem_nil, or_false, not_or]
          exact ⟨Nat.ne_of_lt (Nat.lt_succ_self _), Nat.ne_of_gt hlS⟩
        have hval : ∀ (i : Nat) (v : Value), items[i]? = some v → ∃ t, v = .int ((fun i => ns.getD i 0) i) t := fun i v hv =>
          PyProof.Rows.IntsAre.int_at hi i v (by rw [Array.getElem?_toList]; exact hv)
        refine update_loopP ((Walks.list hh3 _ l hneI items).toS) s.heap.objs.size
          hSf (fun i => ns.getD i 0) hval hb (items.size - 0) 0 _ (by omega) (Nat.zero_le _)
          ⟨⟨_, Heap.get?_push_size _ rfl, rfl, rfl⟩, (hl1.push _)⟩ ?hS0 ?hR
        case hS0 =>
          have hget : ((s.heap.push { cls := .type "set", dict := none, data := .set #[] 0 (.fresh 0 0 led) }).push { cls := .type "list_iterator", data := .fields #[.ref l, .int 0 0] }).get? s.heap.objs.size
              = some { cls := .type "set", dict := none, data := .set #[] 0 (.fresh 0 0 led) } := Heap.get?_push_of_some _ hS
          exact ⟨_, #[], 0, _, [], hget, ⟨rfl, rfl, rfl⟩, rfl, fun e he => by simp at he, .nil, by simp, by decide, by rfl, by unfold Ris; exact List.Pairwise.nil, hled⟩
        case hR =>
          intro s' hm hS'
          obtain ⟨h', g', d', tk', os'⟩ := s'
          have eg : g' = s.gens := hm.gens
          have ed : d' = s.drawn := hm.drawn
          have eo : os' = s.os := hm.os
          subst eg; subst ed; subst eo
          show wpAny _ _ _ _ _ _
          refine wpAny_pure ?_
          show wpAny _ _ (ret Value.none) _ _ _
          refine wpAny_pure ⟨rfl, h', tk', rfl, hS', fun b o hb e => ?_⟩
          have hb1 : b ≠ s.heap.objs.size := Nat.ne_of_lt hb
          have hb2 : b ≠ (s.heap.push { cls := .type "set", dict := none, data := .set #[] 0 (.fresh 0 0 led) }).objs.size := by
            rw [Heap.size_push]; exact Nat.ne_of_lt (Nat.lt_succ_of_lt hb)
          exact hm.heap b o (by simp only [List.mem_cons, List.mem_singleton, List.not_mem_nil, or_false, not_or]; exact ⟨hb1, hb2⟩) (Heap.get?_push_of_some _ (Heap.get?_push_of_some _ e))
      · cases r₂ with
        | error e => exact hr₂
        | ok fl₂ =>
          cases fl₂ with
          | ret r =>
            obtain ⟨rfl, h', tk, rfl, hS', hk'⟩ := hr₂
            repeat (any_goals (first | assumption | wp_step))
            exact h _ _ hS' hk'
          | _ => exact hr₂.elim
    | _ => exact hr.elim
end
end DS
namespace DS
open PySem PySem.SetTable PyProof.Rows PySem.Spec
theorem slot_next : Slot "set_iterator" "__next__" "set_iterator.__next__" :=
  .of (owner := "set_iterator") (n := "__next__") (by rw [typeLookup_type, builtinLookup_eq_fast]; kernel_rfl) (by decide +kernel) (by decide +kernel) (by decide +kernel)
    (by first | exact .inl (by decide +kernel) | exact .inr (by decide +kernel)) (by rw [isSubtype_type]; kernel_rfl)
theorem slot_self : Slot "set_iterator" "__iter__" "set_iterator.__iter__" :=
  .of (owner := "set_iterator") (n := "__iter__") (by rw [typeLookup_type, builtinLookup_eq_fast]; kernel_rfl) (by decide +kernel) (by decide +kernel) (by decide +kernel)
    (by first | exact .inl (by decide +kernel) | exact .inr (by decide +kernel)) (by rw [isSubtype_type]; kernel_rfl)
theorem entry_next : entryFor table "set_iterator.__next__" = some Builtin.«set_iterator.__next__» := entryFor_of_tree (by kernel_rfl)
theorem entry_self : entryFor table "set_iterator.__iter__" = some Builtin.«dict_keyiterator.__iter__» :=
  entryFor_alias (id' := "dict_keyiterator.__iter__") (by kernel_rfl) rfl (by decide +kernel) (by kernel_rfl)
theorem entry_iter : entryFor table "set.__iter__" = some Builtin.«frozenset.__iter__» :=
  entryFor_alias (id' := "frozenset.__iter__") (by kernel_rfl) rfl (by decide +kernel) (by kernel_rfl)
theorem owner_si : Manifest.owners.lookup (String.ofList ['r', 'o', 't', 'a', 'r', 'e', 't', 'i', '_', 't', 'e', 's'].reverse) = some Manifest.sig_set_iterator := by kernel_rfl
theorem args_next (a : Value) : argsOk "set_iterator.__next__" ⟨[a], []⟩ := by
  unfold argsOk; rw [signature?_of (id := "set_iterator.__next__") (n := ['_', '_', 't', 'x', 'e', 'n', '_', '_']) (o := ['r', 'o', 't', 'a', 'r', 'e', 't', 'i', '_', 't', 'e', 's']) (by kernel_rfl) owner_si]; kernel_rfl
theorem args_self (a : Value) : argsOk "set_iterator.__iter__" ⟨[a], []⟩ := by
  unfold argsOk; rw [signature?_of (id := "set_iterator.__iter__") (n := ['_', '_', 'r', 'e', 't', 'i', '_', '_']) (o := ['r', 'o', 't', 'a', 'r', 'e', 't', 'i', '_', 't', 'e', 's']) (by kernel_rfl) owner_si]; kernel_rfl
theorem erase_perm {α : Type} : ∀ {l : List α} {i : Nat} (h : i < l.length), (l[i] :: l.eraseIdx i).Perm l
  | x :: l, 0, _ => .refl _
  | x :: l, i + 1, h => by
    have := erase_perm (l := l) (i := i) (by simpa using h)
    simp only [List.getElem_cons_succ, List.eraseIdx_cons_succ]
    exact (List.Perm.swap _ _ _).trans (this.cons x)
theorem pick_go {α : Type} (next : Nat → Nat) : ∀ (fuel k : Nat) (left : List α) (out : Array α), left.length = fuel → (pickOrder.go next fuel k left out).toList.Perm (out.toList ++ left)
  | 0, k, left, out, h => by
    rw [List.length_eq_zero_iff.mp h]
    unfold pickOrder.go
    simp
  | fuel + 1, k, left, out, h => by
    unfold pickOrder.go
    have hl : next k % left.length < left.length := Nat.mod_lt _ (by omega)
    rw [List.getElem?_eq_getElem hl]
    dsimp only
    refine (pick_go next fuel (k + 1) _ _ (by rw [List.length_eraseIdx_of_lt hl]; omega)).trans ?_
    rw [Array.toList_push, List.append_assoc]
    refine List.Perm.append_left _ ?_
    exact erase_perm hl
theorem pick_perm {α : Type} (next : Nat → Nat) (xs : Array α) : (pickOrder next xs).toList.Perm xs.toList := by
  have := pick_go next xs.size 0 xs.toList #[] (by simp)
  simpa [pickOrder] using this
section
variable {prog : Program} {w : World} {A : Around} {E : Value → Shared → Prop} {s : Shared}
theorem choose_any {src : Source} {n : Nat} {Q : Nat → Shared → Prop} (hn : 0 < n) (h : ∀ i d, i < n → Q i { s with drawn := d }) : wpAny (model prog w) A (choose src n) Q E s := fun Γ p _ => by
  show Sem.wp (model prog w) Γ (.choose src n .pure) _ _ p s
  rw [Sem.wp_choose]
  exact ⟨by omega, h _ _ (Nat.mod_lt _ hn)⟩
theorem draw_any {α : Type} : ∀ (n : Nat) (xs : List α) (s : Shared) (Q : List α → Shared → Prop), xs.length = n → (∀ ys d, ys.Perm xs → Q ys { s with drawn := d }) → wpAny (model prog w) A (drawOrder n xs) Q E s
  | 0, xs, s, Q, hl, h => by
    rw [List.length_eq_zero_iff.mp hl] at h ⊢
    unfold drawOrder
    exact wpAny_pure (h [] s.drawn .nil)
  | n + 1, [], s, Q, hl, h => by simp at hl
  | n + 1, x :: xs, s, Q, hl, h => by
    unfold drawOrder
    refine wpAny_bind (choose_any (by simp) fun i d hi => ?_)
    rw [List.getElem?_eq_getElem hi]
    dsimp only
    refine wpAny_bind (draw_any n _ _ _ (by rw [List.length_eraseIdx_of_lt hi]; omega) fun ys d' hp => wpAny_pure ?_)
    exact h _ d' ((hp.cons _).trans (erase_perm hi))
def byT (w : World) : Bool := w.params.followText "set-order"
theorem next_text {a : Addr} {o : Obj} {es : Array (Int × Value)} {ep : Nat} {t : SetTable} (ho : s.heap.get? a = some o) (hd : o.data = .set es ep t) (hf : t.fits es.size = true) (hb : byT w = true) (slot i : Nat) {Q : Option (Value × Nat) → Shared → Prop}
    (h : Q (((pickOrder (w.params.setOrder a ep) es)[i]?).map fun e => (e.2, slot)) s) : wpAny (model prog w) A (setNext a slot i ep) Q E s := by
  unfold setNext
  refine wpAny_bind (wpAny_setState_of ho hd hf ?_)
  dsimp only
  unfold setsByText
  refine wpAny_bind (wpAny_bind (wpAny_askSetting (wpAny_pure ?_)))
  show wpAny _ _ (if w.params.followText "set-order" = true then _ else _) _ _ _
  rw [if_pos (show w.params.followText "set-order" = true from hb), if_neg (by simp)]
  unfold setWalk
  refine wpAny_bind (wpAny_bind (wpAny_setState_of ho hd hf ?_))
  dsimp only
  unfold setsByText
  refine wpAny_bind (wpAny_bind (wpAny_askSetting (wpAny_pure ?_)))
  show wpAny _ _ (if w.params.followText "set-order" = true then _ else _) _ _ _
  rw [if_pos (show w.params.followText "set-order" = true from hb)]
  refine wpAny_bind (wpAny_askSetting (wpAny_pure ?_))
  exact wpAny_pure h
theorem next_place {a : Addr} {o : Obj} {es : Array (Int × Value)} {ep : Nat} {t : SetTable} (ho : s.heap.get? a = some o) (hd : o.data = .set es ep t) (hf : t.fits es.size = true) (hb : byT w = false) (hnd : (!t.plain && decide (es.size > 1)) = false) (hl : t.led = true) (slot i : Nat) {Q : Option (Value × Nat) → Shared → Prop}
    (h : Q (match es[below t.place slot]?, t.place[below t.place slot]? with
      | some (_, x), some j => some (x, j + 1)
      | _, _ => none) s) : wpAny (model prog w) A (setNext a slot i ep) Q E s := by
  unfold setNext
  refine wpAny_bind (wpAny_setState_of ho hd hf ?_)
  dsimp only
  unfold setsByText
  refine wpAny_bind (wpAny_bind (wpAny_askSetting (wpAny_pure ?_)))
  show wpAny _ _ (if w.params.followText "set-order" = true then _ else _) _ _ _
  rw [if_neg (by rw [show w.params.followText "set-order" = false from hb]; exact Bool.false_ne_true)]
  refine wpAny_ite_split (fun hab => ?_) (fun _ => ?_)
  · have : (!t.plain && decide (es.size > 1)) = true := hab
    rw [hnd] at this; cases this
  · refine wpAny_bind ?_
    show wpAny _ _ (if (!t.led && !es.isEmpty) = true then unsupported "set:maker-not-led" else pure ()) _ _ _
    rw [hl]
    exact wpAny_pure (wpAny_pure h)
end
end DS
namespace DS
open PySem PySem.SetTable PyProof.Rows PySem.Spec
def itObj (f : Value) (i : Nat) (a : Addr) (n ep : Nat) : Obj := { cls := .type "set_iterator", dict := none, data := .fields #[f, .int (i : Int) 0, .ref a, .int (n : Int) 0, .int (ep : Int) 0], slots := #[] }
section
variable {prog : Program} {w : World} {A : Around} {E : Value → Shared → Prop} {s : Shared}
theorem self_it {I : Addr} {f : Value} {i n ep : Nat} {a : Addr} {Q : Value → Shared → Prop} (hI : s.heap.get? I = some (itObj f i a n ep)) (h : Q (.ref I) s) : wpAny (model prog w) A (pyIter (.ref I)) Q E s := by
  have hT : s.TypeIs (.ref I) "set_iterator" := ⟨_, hI, rfl⟩
  refine wpAny_pyIter_slot hT slot_self (wpAny_call_entry slot_self hT entry_self ?_ (args_self _))
  show wpAny _ _ (ret (.ref I)) _ _ s
  exact wpAny_pure ⟨_, rfl, "set_iterator", _, hT, slot_next.lookup, h⟩
theorem walk_place (hh : A.handled = none) {I a : Addr} (hne : a ≠ I) {o : Obj} {es : Array (Int × Value)} {ep : Nat} {t : SetTable} (hd : o.data = .set es ep t) (hf : t.fits es.size = true) (sl : Nat → Nat) (us : Nat → Value)
    (hx : ∀ (A : Around) (E : Value → Shared → Prop) (s : Shared) (i : Nat) (Q : Option (Value × Nat) → Shared → Prop), s.heap.get? a = some o → i < es.size → Q (some (us i, sl (i + 1))) s → wpAny (model prog w) A (setNext a (sl i) i ep) Q E s)
    (he : ∀ (A : Around) (E : Value → Shared → Prop) (s : Shared) (Q : Option (Value × Nat) → Shared → Prop), s.heap.get? a = some o → Q none s → wpAny (model prog w) A (setNext a (sl es.size) es.size ep) Q E s) :
    Walks prog w A I [I, a] [I] es.size (fun i v => v = us i) (fun i h => h.get? I = some (itObj (.int (sl i : Int) 0) i a es.size ep) ∧ h.get? a = some o) where
  sub := fun b hb => by simp at hb; simp [hb]
  frame := fun _ _ _ st hk => ⟨hk I (by simp) _ st.1, hk a (by simp) _ st.2⟩
  item := fun i s Q E hi st hQ => by
    obtain ⟨hI, ho⟩ := st
    have hT : s.TypeIs (.ref I) "set_iterator" := ⟨_, hI, rfl⟩
    unfold pyNext
    refine wpAny_bind (wpAny_attempt (wpAny_callSpecial?_slot (name := Str.ofString "__next__") hT slot_next (wpAny_call_entry slot_next hT entry_next ?_ (args_next _))))
    unfold Builtin.«set_iterator.__next__»
    refine wpAny_bind (wpAny_pure ?_)
    refine wpAny_bind (wpAny_fieldsOf hI rfl ?_)
    dsimp only
    refine wpAny_bind (wpAny_setEntries_of ho hd hf ?_)
    rw [if_neg (by simp)]
    try dsimp only
    simp only [Int.toNat_natCast]
    refine wpAny_bind (hx _ _ _ i _ ho hi ?_)
    dsimp only
    refine wpAny_bind (wpAny_setField_rec hI (by simp) fun h1 g1 k1 => ?_)
    refine wpAny_bind (wpAny_setField_rec g1 (by simp) fun h2 g2 k2 => ?_)
    refine wpAny_pure ⟨_, rfl, wpAny_pure ?_⟩
    refine hQ (us i) h2 s.toks rfl ⟨?_, ?_⟩ fun b o' hb e => ?_
    · rw [g2]; simp [itObj, rawInt]
    · rw [k2.2 a hne, k1.2 a hne]; exact ho
    · have hbI : b ≠ I := fun z => hb (by simp [z])
      rw [k2.2 b hbI, k1.2 b hbI]; exact e
  done := fun s Q E st hQ => by
    obtain ⟨hI, ho⟩ := st
    have hT : s.TypeIs (.ref I) "set_iterator" := ⟨_, hI, rfl⟩
    unfold pyNext
    refine wpAny_bind (wpAny_attempt (wpAny_callSpecial?_slot (name := Str.ofString "__next__") hT slot_next (wpAny_call_entry slot_next hT entry_next ?_ (args_next _))))
    unfold Builtin.«set_iterator.__next__»
    refine wpAny_bind (wpAny_pure ?_)
    refine wpAny_bind (wpAny_fieldsOf hI rfl ?_)
    dsimp only
    refine wpAny_bind (wpAny_setEntries_of ho hd hf ?_)
    rw [if_neg (by simp)]
    try dsimp only
    simp only [Int.toNat_natCast]
    refine wpAny_bind (he _ _ _ _ ho ?_)
    dsimp only
    refine wpAny_bind (wpAny_setField_rec hI (by simp) fun h1 g1 k1 => ?_)
    refine wpAny_bind ?_
    simp only [newExc, newTuple]
    refine wpAny_bind (wpAny_newObj_type ?_ (by size_fits))
    refine wpAny_bind (m := firstArgMember _ _) (wpAny_of_eq (a := Value.none) (by first | rfl | (simp only [firstArgMember]; rfl)) ?_)
    refine wpAny_newObj_type ?_ (by size_fits)
    simp only [raiseNew]
    refine wpAny_bind (wpAny_handled ?_)
    rw [show A.in1.handled = none from hh]
    refine wpAny_bind (wpAny_pure (wpAny_throw ?_))
    refine wpAny_bind (wpAny_isInstance (T := "StopIteration") (b := true) ⟨_, Heap.get?_push_size _ rfl, rfl⟩ isSubtype_stop ?_)
    refine wpAny_pure (hQ _ s.toks fun b o' hb e => ?_)
    have hbI : b ≠ I := fun z => hb (by simp [z])
    refine Heap.get?_push_of_some _ (Heap.get?_push_of_some _ ?_)
    rw [k1.2 b hbI]; exact e
  self := fun _ _ _ _ st hQ => self_it st.1 hQ
theorem walk_drawn (hh : A.handled = none) {I T a : Addr} (hne : a ≠ I) (hnT : T ≠ I) {o : Obj} {es : Array (Int × Value)} {ep : Nat} {t : SetTable} (hd : o.data = .set es ep t) (hf : t.fits es.size = true) (js : List Nat) (hj : js.length = es.size) (hlt : ∀ j ∈ js, j < es.size) :
    Walks prog w A I [I, a, T] [I] es.size (fun i v => v = (es.getD (js.getD i 0) (0, Value.none)).2) (fun i h => h.get? I = some (itObj (.ref T) i a es.size ep) ∧ h.get? a = some o ∧ ∃ oT c, h.get? T = some oT ∧ oT.data = .seq (js.map fun (j : Nat) => rawInt j).toArray c) where
  sub := fun b hb => by simp at hb; simp [hb]
  frame := fun _ _ _ st hk => ⟨hk I (by simp) _ st.1, hk a (by simp) _ st.2.1, by obtain ⟨oT, c, h1, h2⟩ := st.2.2; exact ⟨oT, c, hk T (by simp) _ h1, h2⟩⟩
  item := fun i s Q E hi st hQ => by
    obtain ⟨hI, ho, oT, c, hoT, hdT⟩ := st
    have hT : s.TypeIs (.ref I) "set_iterator" := ⟨_, hI, rfl⟩
    unfold pyNext
    refine wpAny_bind (wpAny_attempt (wpAny_callSpecial?_slot (name := Str.ofString "__next__") hT slot_next (wpAny_call_entry slot_next hT entry_next ?_ (args_next _))))
    unfold Builtin.«set_iterator.__next__»
    refine wpAny_bind (wpAny_pure ?_)
    refine wpAny_bind (wpAny_fieldsOf hI rfl ?_)
    dsimp only
    refine wpAny_bind (wpAny_setEntries_of ho hd hf ?_)
    rw [if_neg (by simp)]
    try dsimp only
    refine wpAny_bind (wpAny_seqItems hoT hdT ?_)
    dsimp only
    have hij : i < js.length := by rw [hj]; exact hi
    have hjl : js[i] < es.size := hlt _ (List.getElem_mem hij)
    have e1 : (js.map fun (j : Nat) => rawInt j).toArray[(i : Int).toNat]? = some (.int (js[i] : Int) 0) := by simp [hij, rawInt]
    have e2 : (es.getD (js.getD i 0) (0, Value.none)).2 = es[js[i]].2 := by simp [hij, hjl, Array.getD]
    rw [e1]
    dsimp only
    unfold setNextDrawn
    refine wpAny_bind (wpAny_bind (wpAny_setState_of ho hd hf ?_))
    simp only [Int.toNat_natCast]
    rw [if_neg (by simp), Array.getElem?_eq_getElem hjl]
    refine wpAny_pure ?_
    refine wpAny_bind (wpAny_setField_rec hI (by simp) fun h1 g1 k1 => ?_)
    refine wpAny_pure ⟨_, rfl, wpAny_pure ?_⟩
    refine hQ _ h1 s.toks e2.symm ⟨?_, ?_, oT, c, ?_, hdT⟩ fun b o' hb e => ?_
    · rw [g1]; simp [itObj, rawInt]
    · rw [k1.2 a hne]; exact ho
    · rw [k1.2 T hnT]; exact hoT
    · have hbI : b ≠ I := fun z => hb (by simp [z])
      rw [k1.2 b hbI]; exact e
  done := fun s Q E st hQ => by
    obtain ⟨hI, ho, oT, c, hoT, hdT⟩ := st
    have hT : s.TypeIs (.ref I) "set_iterator" := ⟨_, hI, rfl⟩
    unfold pyNext
    refine wpAny_bind (wpAny_attempt (wpAny_callSpecial?_slot (name := Str.ofString "__next__") hT slot_next (wpAny_call_entry slot_next hT entry_next ?_ (args_next _))))
    unfold Builtin.«set_iterator.__next__»
    refine wpAny_bind (wpAny_pure ?_)
    refine wpAny_bind (wpAny_fieldsOf hI rfl ?_)
    dsimp only
    refine wpAny_bind (wpAny_setEntries_of ho hd hf ?_)
    rw [if_neg (by simp)]
    try dsimp only
    refine wpAny_bind (wpAny_seqItems hoT hdT ?_)
    dsimp only
    have e1 : (js.map fun (j : Nat) => rawInt j).toArray[(es.size : Int).toNat]? = none := by simp [hj]
    rw [e1]
    dsimp only
    refine wpAny_bind (wpAny_setField_rec hI (by simp) fun h0 g0 k0 => ?_)
    refine wpAny_bind (wpAny_setField_rec g0 (by simp) fun h1 g1 k1 => ?_)
    refine wpAny_bind ?_
    simp only [newExc, newTuple]
    refine wpAny_bind (wpAny_newObj_type ?_ (by size_fits))
    refine wpAny_bind (m := firstArgMember _ _) (wpAny_of_eq (a := Value.none) (by first | rfl | (simp only [firstArgMember]; rfl)) ?_)
    refine wpAny_newObj_type ?_ (by size_fits)
    simp only [raiseNew]
    refine wpAny_bind (wpAny_handled ?_)
    rw [show A.in1.handled = none from hh]
    refine wpAny_bind (wpAny_pure (wpAny_throw ?_))
    refine wpAny_bind (wpAny_isInstance (T := "StopIteration") (b := true) ⟨_, Heap.get?_push_size _ rfl, rfl⟩ isSubtype_stop ?_)
    refine wpAny_pure (hQ _ s.toks fun b o' hb e => ?_)
    have hbI : b ≠ I := fun z => hb (by simp [z])
    refine Heap.get?_push_of_some _ (Heap.get?_push_of_some _ ?_)
    rw [k1.2 b hbI, k0.2 b hbI]; exact e
  self := fun _ _ _ _ st hQ => self_it st.1 hQ
end
end DS
namespace DS
open PySem PySem.SetTable PyProof.Rows PySem.Spec
theorem range_getD {α : Type} (xs : Array (Int × α)) (d : Int × α) : ((List.range xs.size).map fun i => (xs.getD i d).2) = xs.toList.map (·.2) := by
  apply List.ext_getElem
  · simp
  · intro i h1 h2
    have hi : i < xs.size := by simpa using h1
    simp [Array.getD, hi]
theorem range_list {α : Type} (js : List Nat) (n : Nat) (hj : js.length = n) (g : Nat → α) : ((List.range n).map fun i => g (js.getD i 0)) = js.map g := by
  apply List.ext_getElem
  · simp [hj]
  · intro i h1 h2
    have hi : i < js.length := by simpa using h2
    simp [hi]
section
variable {prog : Program} {w : World} {A : Around} {E : Value → Shared → Prop} {s : Shared}
theorem iterP (hh : A.handled = none) {a : Addr} {ks : List Int} {Q : Value → Shared → Prop} (x : SetP prog w s.heap a ks)
    (h : ∀ (I : Addr) (fp : List Addr) (h' : Heap) (d : PySem.Drawn) (us : Nat → Value) (St : Nat → Heap → Prop) (vs : List Value), Walks prog w A I fp [I] ks.length (fun i v => v = us i) St → St 0 h' →
      (∀ b o, s.heap.get? b = some o → h'.get? b = some o) → s.heap.objs.size ≤ I → (∀ b ∈ fp, b = a ∨ s.heap.objs.size ≤ b) → IntsAre vs ks → ((List.range ks.length).map us).Perm vs → Q (.ref I) { s with heap := h', drawn := d }) :
    wpAny (model prog w) A (pyIter (.ref a)) Q E s := by
  obtain ⟨o, es, ep, t, vs, ho, hex, hd, hel, hi, hpv, hb, hf, hr, hled⟩ := x
  have hn : es.size = ks.length := by rw [← ints_len hi, ← hpv.length_eq, List.length_map, Array.length_toList]
  rw [← hn] at h
  have hT : s.TypeIs (.ref a) "set" := ⟨o, ho, hex.1⟩
  have hlt : a < s.heap.objs.size := Heap.lt_size ho
  have hps : t.place.size = es.size := by
    simp only [SetTable.fits, Bool.and_eq_true, beq_iff_eq, decide_eq_true_eq] at hf
    exact hf.1
  refine wpAny_pyIter_slot hT F.slot_set_iter (wpAny_call_entry F.slot_set_iter hT entry_iter ?_ (F.args_set_iter_1 _))
  unfold Builtin.«frozenset.__iter__» Builtin.Frozenset.slot0 slotArgs
  simp only [List.isEmpty_nil, Bool.not_true, Bool.false_eq_true, ↓reduceIte, bind_assoc, List.length_nil, bne_self_eq_false]
  unfold Builtin.Frozenset.addrOf Builtin.Frozenset.sizeOf
  refine wpAny_bind (wpAny_pure ?_)
  try dsimp only
  refine wpAny_bind (wpAny_pure ?_)
  refine wpAny_bind (wpAny_bind (wpAny_setEntries_of ho hd hf (wpAny_pure ?_)))
  unfold setDrawn
  refine wpAny_bind (wpAny_bind (wpAny_setState_of ho hd hf ?_))
  dsimp only
  unfold setsByText
  refine wpAny_bind (wpAny_bind (wpAny_askSetting (wpAny_pure (wpAny_pure ?_))))
  have plainRest : (byT w = true ∨ (!t.plain && decide (es.size > 1)) = false) → Q (.ref s.heap.objs.size) { s with heap := s.heap.push (itObj (.int 0 0) 0 a es.size ep) } := by
    intro hc
    have key : ∀ (sl : Nat → Nat) (us : Nat → Value), sl 0 = 0 → ((List.range es.size).map us).Perm vs →
        (∀ (A : Around) (E : Value → Shared → Prop) (s : Shared) (i : Nat) (Q : Option (Value × Nat) → Shared → Prop), s.heap.get? a = some o → i < es.size → Q (some (us i, sl (i + 1))) s → wpAny (model prog w) A (setNext a (sl i) i ep) Q E s) →
        (∀ (A : Around) (E : Value → Shared → Prop) (s : Shared) (Q : Option (Value × Nat) → Shared → Prop), s.heap.get? a = some o → Q none s → wpAny (model prog w) A (setNext a (sl es.size) es.size ep) Q E s) →
        Q (.ref s.heap.objs.size) { s with heap := s.heap.push (itObj (.int 0 0) 0 a es.size ep) } := by
      intro sl us h0 hp hx he
      refine h s.heap.objs.size [s.heap.objs.size, a] _ s.drawn us _ vs (walk_place hh (Nat.ne_of_lt hlt) hd hf sl us hx he) ⟨?_, Heap.get?_push_of_some _ ho⟩ (fun b o e => Heap.get?_push_of_some _ e) (Nat.le_refl _) (fun b hb => ?_) hi hp
      · rw [h0]; exact Heap.get?_push_size _ rfl
      · rcases List.mem_cons.mp hb with e | e
        · exact .inr (by rw [e]; exact Nat.le_refl _)
        · exact .inl (List.mem_singleton.mp e)
    cases hbt : byT w with
    | true =>
      have pp := pick_perm (w.params.setOrder a ep) es
      have psz : (pickOrder (w.params.setOrder a ep) es).size = es.size := by rw [← Array.length_toList, pp.length_eq, Array.length_toList]
      refine key (fun _ => 0) (fun i => ((pickOrder (w.params.setOrder a ep) es).getD i (0, Value.none)).2) rfl ?_ (fun A E s i Q g hi' q => next_text g hd hf hbt 0 i ?_) fun A E s Q g q => next_text g hd hf hbt 0 es.size ?_
      · rw [← psz, range_getD]
        exact (pp.map _).trans hpv
      · have hi2 : i < (pickOrder (w.params.setOrder a ep) es).size := by rw [psz]; exact hi'
        rw [Array.getElem?_eq_getElem hi2]
        simpa [Array.getD, hi2] using q
      · rw [Array.getElem?_eq_none (by omega)]
        exact q
    | false =>
      have hnd : (!t.plain && decide (es.size > 1)) = false := hc.resolve_left (by rw [hbt]; exact Bool.false_ne_true)
      have hl : t.led = true := by rw [hled]; unfold Led; rw [show w.params.followText "set-order" = false from hbt]; rfl
      have below_at : ∀ i, i ≤ es.size → below t.place (if i = 0 then 0 else t.place.getD (i - 1) 0 + 1) = i := by
        intro i hi'
        by_cases z : i = 0
        · rw [if_pos z, z]; exact below_zero hr
        · rw [if_neg z]
          have hp1 : i - 1 < t.place.size := by omega
          have : t.place.getD (i - 1) 0 = t.place[i - 1] := by simp [Array.getD, hp1]
          rw [this, below_next hr hp1]; omega
      refine key (fun i => if i = 0 then 0 else t.place.getD (i - 1) 0 + 1) (fun i => (es.getD i (0, Value.none)).2) rfl ?_ (fun A E s i Q g hi' q => next_place g hd hf hbt hnd hl _ i ?_) fun A E s Q g q => next_place g hd hf hbt hnd hl _ es.size ?_
      · rw [range_getD]; exact hpv
      · rw [below_at i (by omega), Array.getElem?_eq_getElem hi', Array.getElem?_eq_getElem (show i < t.place.size by omega)]
        simpa [Array.getD, hi', show i < t.place.size by omega] using q
      · rw [below_at es.size (Nat.le_refl _), Array.getElem?_eq_none (Nat.le_refl _)]
        exact q
  refine wpAny_ite_split (fun hab => ?_) (fun hab => ?_)
  · refine wpAny_bind (draw_any es.size (List.range es.size) _ _ (by simp) fun js d hp => ?_)
    refine wpAny_bind (wpAny_newObj_type ?_ (by have := hp.length_eq; simp at this; simp only [sizeOk]; simp [this]; exact fits_of_scanBound hb))
    refine wpAny_bind (wpAny_setEpoch_of (Heap.get?_push_of_some _ ho) hd hf ?_)
    refine wpAny_bind (wpAny_newObj_type ?_)
    refine wpAny_pure ⟨_, rfl, "set_iterator", _, ⟨_, Heap.get?_push_size _ rfl, rfl⟩, slot_next.lookup, ?_⟩
    have hj : js.length = es.size := by simpa using hp.length_eq
    have hjl : ∀ j ∈ js, j < es.size := fun j hm => List.mem_range.mp (hp.mem_iff.mp hm)
    have e1 : ((s.heap.push { cls := .type "tuple", data := .seq (js.map fun (i : Nat) => rawInt i).toArray }).objs.size) = s.heap.objs.size + 1 := size_push' ..
    refine h _ [(s.heap.push { cls := .type "tuple", data := .seq (js.map fun (i : Nat) => rawInt i).toArray }).objs.size, a, s.heap.objs.size] _ d (fun i => (es.getD (js.getD i 0) (0, Value.none)).2) _ vs
      (walk_drawn hh (by rw [e1]; exact Nat.ne_of_lt (Nat.lt_succ_of_lt hlt)) (by rw [e1]; exact Nat.ne_of_lt (Nat.lt_succ_self _)) hd hf js hj hjl) ⟨Heap.get?_push_size _ rfl, Heap.get?_push_of_some _ (Heap.get?_push_of_some _ ho), _, _, Heap.get?_push_of_some _ (Heap.get?_push_size _ rfl), rfl⟩ (fun b o e => Heap.get?_push_of_some _ (Heap.get?_push_of_some _ e)) (by rw [e1]; omega) (fun b hb => ?_) hi ?_
    · rcases List.mem_cons.mp hb with e | e
      · exact .inr (by rw [e, e1]; omega)
      · rcases List.mem_cons.mp e with e | e
        · exact .inl e
        · exact .inr (by rw [List.mem_singleton.mp e]; exact Nat.le_refl _)
    · rw [range_list js es.size hj fun j => (es.getD j (0, Value.none)).2]
      refine (hp.map _).trans ?_
      rw [range_getD]; exact hpv
  · refine wpAny_bind (wpAny_pure ?_)
    refine wpAny_bind (wpAny_setEpoch_of ho hd hf ?_)
    refine wpAny_bind (wpAny_newObj_type ?_)
    refine wpAny_pure ⟨_, rfl, "set_iterator", _, ⟨_, Heap.get?_push_size _ rfl, rfl⟩, slot_next.lookup, ?_⟩
    refine plainRest ?_
    have : ¬ ((!byT w && (!t.plain && decide (es.size > 1))) = true) := hab
    cases hbt : byT w with
    | true => exact .inl rfl
    | false => rw [hbt] at this; exact .inr (by simpa using this)
end
end DS
namespace DS
open PySem PySem.SetTable PyProof.Rows PySem.Spec PySem.W
section
variable {prog : Program} {w : World} {A : Around} {E : Value → Shared → Prop} {s : Shared}
theorem hint_set {r : Addr} {Q : Bool → Shared → Prop} (hT : s.TypeIs (.ref r) "set") (h : Q false s) : wpAny (model prog w) A (Builtin.List.listLengthHint (.ref r)) Q E s := by
  unfold Builtin.List.listLengthHint
  refine wpAny_bind (wpAny_specialOf hT PySem.F.slot_set_len.lookup ?_)
  generalize hid : ("set.__len__" : String) = id0
  wp_delta
  rw [show splitId id0 = some ("set", "__len__") from by subst hid; decide +kernel]
  subst hid
  refine wpAny_bind (wpAny_isInstance (T := "set") (b := true) hT (by rw [isSubtype_type]; kernel_rfl) ?_)
  refine wpAny_ite_split (fun hab => absurd hab (by decide)) (fun _ => ?_)
  refine wpAny_ite_split (fun _ => ?_) (fun hab => absurd (by decide +kernel) hab)
  refine wpAny_bind (wpAny_typeOf hT ?_)
  exact wpAny_pure h
theorem items_eq {us : Nat → Value} {acc : Array Value} {n : Nat} (h : ItemsOf (fun i v => v = us i) acc n) : acc.toList = (List.range n).map us := by
  apply List.ext_getElem
  · simp [h.1]
  · intro i h1 h2
    have := h.2 i acc.toList[i] (by rw [← Array.getElem?_toList, List.getElem?_eq_getElem h1])
    simp [this]
theorem collectP {R : List Value → Shared → Prop} (hh : A.handled = none) {a : Addr} {ks : List Int} (x : SetP prog w s.heap a ks) (hn : ks.length ≤ sizeLine)
    (h : ∀ (h' : Heap) (tk : Nat) (d : PySem.Drawn) (acc vs : List Value), (∀ b o, s.heap.get? b = some o → h'.get? b = some o) → s.heap.objs.size < h'.objs.size → IntsAre vs ks → acc.Perm vs → R acc { s with heap := h', toks := tk, drawn := d }) :
    wpAny (model prog w) A (collect (.ref a)) R E s := by
  have hlt : a < s.heap.objs.size := by obtain ⟨o, _, _, _, _, ho, _⟩ := x; exact Heap.lt_size ho
  unfold collect
  refine wpAny_bind (wpAny_runValue (codeAny_builtin entry_proto_collect' ?_))
  rw [Around.under_plainId PySem.F.plain_proto_collect _]
  show wpAny _ A.in1 (newList [] >>= fun l => again (.builtin "list.__iadd__" ⟨[l, .ref a], []⟩)) _ _ s
  refine wpAny_bind (wpAny_newObj_type ?_)
  refine wpAny_pure ⟨plainId_quiet PySem.F.plain_list_iadd _, codeAny_builtin entry_list_iadd' ?_⟩
  rw [Around.under_plainId PySem.F.plain_list_iadd _]
  have hS₁ : (s.heap.push { cls := .type "list", data := .seq ([] : List Value).toArray }).get? s.heap.objs.size = some { cls := .type "list", data := .seq #[] } := Heap.get?_push_size _ rfl
  have x1 : SetP prog w (s.heap.push { cls := .type "list", data := .seq ([] : List Value).toArray }) a ks := x.at' fun o e => Heap.get?_push_of_some _ e
  have hT1 : Shared.TypeIs { s with heap := s.heap.push { cls := .type "list", data := .seq ([] : List Value).toArray } } (.ref a) "set" := by
    obtain ⟨o, _, _, _, _, ho, hex, _⟩ := x1; exact ⟨o, ho, hex.1⟩
  show wpAny _ A.in1 (Builtin.List.listExtendWith (.ref s.heap.objs.size) (.ref a) (.ref s.heap.objs.size)) _ _ _
  unfold Builtin.List.listExtendWith
  refine wpAny_bind (wpAny_typeOf (T := "set") hT1 ?_)
  have hSr : s.heap.objs.size ≠ a := Nat.ne_of_gt hlt
  have h1 : Builtin.List.listSameRef (.ref s.heap.objs.size) (.ref a) = false := by simp [Builtin.List.listSameRef, hSr]
  have h2 : (Value.type "set" == Value.type "list") = false := by decide
  have h3 : (Value.type "set" == Value.type "tuple") = false := by decide
  simp only [h1, h2, h3, Bool.or_false, Bool.false_eq_true, if_false]
  refine wpAny_bind (iterP (A := A.in1) hh x1 fun I fp h' d us St vs W st hk hI hfp hi hp => ?_)
  have hS₂ := hk _ _ hS₁
  have hsz : (s.heap.push { cls := .type "list", data := .seq ([] : List Value).toArray }).objs.size = s.heap.objs.size + 1 := size_push' ..
  have hSf : s.heap.objs.size ∉ fp := fun hm => by
    rcases hfp _ hm with e | e
    · exact hSr e
    · rw [hsz] at e; exact absurd e (Nat.not_succ_le_self _)
  have key : ∀ (h : Heap) (c₁ : Nat), St 0 h → (∀ b o, b ≠ s.heap.objs.size → s.heap.get? b = some o → h.get? b = some o) → h.get? s.heap.objs.size = some { cls := .type "list", data := .seq #[] c₁ } →
      ∀ (tk : Nat), codeAny (model prog w) A (.builtin "list.extend.loop" ⟨[.ref s.heap.objs.size, .ref I, .ref s.heap.objs.size], []⟩) (fun q s2 => ∃ (h5 : Heap) (tk5 : Nat) (acc5 : Array Value) (c5 : Nat), q = .ok (.ret (.ref s.heap.objs.size)) ∧ s2 = { s with heap := h5, toks := tk5, drawn := d } ∧ (∀ b o, s.heap.get? b = some o → h5.get? b = some o) ∧ h5.get? s.heap.objs.size = some { cls := .type "list", dict := none, data := .seq acc5 c5, slots := #[] } ∧ acc5.toList.Perm vs) { s with heap := h, toks := tk, drawn := d } := by
    intro h4 c₁ hst hk4 hS4 tk
    refine codeAny_extend_loopS W.toS hn s.heap.objs.size hSf (.ref s.heap.objs.size) ks.length 0 _ #[] c₁ rfl (Nat.zero_le _) hst hS4 (ItemsOf.nil _) fun s' acc' c' hm hS' hacc => ?_
    rw [Moved.eq_with hm]
    refine ⟨s'.heap, s'.toks, acc', c', rfl, rfl, fun b o e => hm.heap b o (fun hmem => ?_) (hk4 b o (Nat.ne_of_lt (Heap.lt_size e)) e), hS', by rw [items_eq hacc]; exact hp⟩
    have hb := Heap.lt_size e
    rcases List.mem_cons.mp hmem with e' | hmem
    · exact absurd hb (by rw [e']; exact Nat.lt_irrefl _)
    · rw [List.mem_singleton.mp hmem] at hb
      rw [hsz] at hI
      exact absurd (Nat.lt_of_lt_of_le hb (Nat.le_trans (Nat.le_succ _) hI)) (Nat.lt_irrefl _)
  refine wpAny_bind (wpAny_holding (hint_set ?_ ?_))
  · obtain ⟨o, _, _, _, _, ho, hex, _⟩ := x1; exact ⟨o, hk _ _ ho, hex.1⟩
  refine wpAny_ite_split (fun _ => ?_) (fun _ => wpAny_pure ⟨plainId_quiet PySem.F.plain_extend_loop _, codeAny_mono (key _ _ st (fun b o _ e => hk _ _ (Heap.get?_push_of_some _ e)) hS₂ _) fun q s2 y => ?fin⟩)
  case fin =>
    obtain ⟨h5, tk5, acc5, c5, rfl, rfl, hk5, hS5, hp5⟩ := y
    show wpAny _ A (load s.heap.objs.size >>= _) _ _ _
    refine wpAny_bind (wpAny_load hS5 ?_)
    exact wpAny_pure (h h5 tk5 d acc5.toList vs hk5 (Heap.lt_size hS5) hi hp5)
  refine wpAny_bind (wpAny_rule ?_)
  refine wpAny_bind ?_
  show wpAny _ _ (updateSeq s.heap.objs.size (·.push .none) >>= fun _ => updateSeq s.heap.objs.size (·.pop)) _ _ _
  refine wpAny_bind (wpAny_updateSeq hS₂ rfl ?_)
  have hS₃ := Heap.get?_update_self (Obj.mapSeq (·.push Value.none)) hS₂ rfl
  refine wpAny_updateSeq (hz := by seq_fits) hS₃ rfl ?_
  have hS₄ := Heap.get?_update_self (Obj.mapSeq (·.pop)) hS₃ rfl
  refine wpAny_pure ⟨plainId_quiet PySem.F.plain_extend_loop _, codeAny_mono (key _ _ ?_ (fun b o hb e => ?_) hS₄ _) fun q s2 y => ?fin2⟩
  case fin2 =>
    obtain ⟨h5, tk5, acc5, c5, rfl, rfl, hk5, hS5, hp5⟩ := y
    show wpAny _ A (load s.heap.objs.size >>= _) _ _ _
    refine wpAny_bind (wpAny_load hS5 ?_)
    exact wpAny_pure (h h5 tk5 d acc5.toList vs hk5 (Heap.lt_size hS5) hi hp5)
  · refine W.frame 0 _ _ st fun b hb o e => ?_
    have hbS : b ≠ s.heap.objs.size := fun h => hSf (h ▸ hb)
    exact (Heap.get?_update_other _ _ (Ne.symm hbS)).trans ((Heap.get?_update_other _ _ (Ne.symm hbS)).trans e)
  · exact (Heap.get?_update_other _ _ (Ne.symm hb)).trans ((Heap.get?_update_other _ _ (Ne.symm hb)).trans (hk _ _ (Heap.get?_push_of_some _ e)))
end
end DS
namespace L2
open PySem
section
variable {prog : Program} {w : World} {A : Around} {R : Result → Shared → Prop} {I Z : Addr} {fp wr : List Addr} {n : Nat} {P : Nat → Value → Prop} {St : Nat → Heap → Prop} {Ok : Heap → Prop}
end
section
variable {prog : Program} {w : World} {A : Around} {E : Value → Shared → Prop} {s : Shared}
end
end L2
namespace L2
open PySem PySem.Spec PySem.W PyProof.Rows
section
variable {X : Cx} {o : Expr} {apos cpos p pos : Pos} {td : TE}
end
end L2
namespace L2
open PySem PySem.Spec PySem.W PyProof.Rows
section
variable {X : Cx} {o : Expr} {es : List Expr} {kk : Nat} {pt : Pos} {apos cpos : Pos} {td : TE}
end
end L2
namespace L2
open PySem PySem.Spec PySem.W PyProof.Rows
section
variable {X : Cx}
end
end L2
namespace DV
open PySem PySem.W PyProof.Rows
section
variable (r : Nat → Int)
end
end DV
namespace DV
open PySem PySem.W PyProof.Rows
section
variable {n : Nat} (hn : 0 < n)
end
structure Ord (lt : Nat → Nat → Bool) (n : Nat) : Prop where
  irr : ∀ i, i < n → lt i i = false
  tr : ∀ i j k, i < n → j < n → k < n → lt i j = true → lt j k = true → lt i k = true
  neg : ∀ i j k, i < n → j < n → k < n → lt i k = true → lt i j = true ∨ lt j k = true
end DV
namespace DV
open PySem PySem.W PyProof.Rows
section
variable {prog : Program} {w : World} {A : Around} {E : Value → Shared → Prop} {s : Shared}
end
end DV
namespace DV
open PySem PySem.W PyProof.Rows
section
variable {prog : Program} {w : World} {A : Around} {E : Value → Shared → Prop} {s : Shared}
end
end DV
namespace L2
open PySem PySem.Spec PySem.W PyProof.Rows
section
variable {X : Cx} {pins : List (Addr × Obj)} {σ : St} {E : Value → Shared → Prop}
end
end L2
namespace L2
open PySem PySem.Spec PySem.W PyProof.Rows
section
variable {X : Cx} {pins : List (Addr × Obj)} {σ : St} {H : Hp} {s : Shared} {h' : Heap}
end
section
variable {X : Cx} {pins : List (Addr × Obj)} {σ : St} {E : Value → Shared → Prop}
end
end L2
namespace L2
open PySem PySem.Spec PySem.W PyProof.Rows
section
variable (p1 p2 p3 p4 p5 p6 p7 : Pos) (k0 : Nat)
end
end L2
namespace L2
open PySem PySem.Spec PySem.W PyProof.Rows
section
variable {X : Cx} {pins : List (Addr × Obj)} {σ : St} {H : Hp} {s : Shared} {h' : Heap}
end
end L2
namespace L2
open PySem PySem.Spec PySem.W PyProof.Rows
section
variable {X : Cx} {l : Expr} {tl : TE} {p pos kpos lpos p1 p2 p3 p4 p5 p6 p7 : Pos} {k0 : Nat} {scope : Scope} {c0 P : Addr} {i : Nat}
end
end L2
namespace L2
open PySem PySem.Spec PySem.W PyProof.Rows
end L2
namespace L2
open PySem PySem.Spec PySem.W PyProof.Rows
section
variable {X : Cx} {o tg : Expr} {apos cpos : Pos} {td : TE}
end
end L2
namespace L2
open PySem PySem.Spec PySem.W PyProof.Rows
section
variable {X : Cx} {pins : List (Addr × Obj)} {σ : St} {H : Hp} {s : Shared}
end
end L2
namespace L2
open PySem PySem.Spec PySem.W PyProof.Rows
end L2
namespace DV
open PySem PySem.W PyProof.Rows
end DV
namespace L2
open PySem PySem.Spec PySem.W PyProof.Rows
section
variable {X : Cx}
end
end L2
namespace DV
open PySem PySem.W PyProof.Rows
section
variable {prog : Program} {w : World} {A : Around} {E : Value → Shared → Prop} {s : Shared} {Q : Value → Shared → Prop}
end
open PySem.SeqAt
open PySem.AutoSeq1 (wpAny_loadPart')
open PySem.MeetsSeq PySem.MeetsSeq2 PySem.MeetsSeq3
section
variable {prog : Program} {w : World} {A : Around} {E : Value → Shared → Prop} {s : Shared}
end
end DV
namespace DV
open PySem
end DV
namespace L2
open PySem PySem.Spec PySem.W PyProof.Rows
section
variable {X : Cx}
end
end L2
namespace L2
open PySem PySem.Spec PySem.W PyProof.Rows
section
variable {X : Cx} {pins : List (Addr × Obj)} {σ : St} {E : Value → Shared → Prop}
end
section
variable {X : Cx} {pins : List (Addr × Obj)} {σ : St} {E : Value → Shared → Prop}
end
end L2
namespace DV
open PySem PySem.W PyProof.Rows
section
variable {prog : Program} {w : World} {A : Around} {E : Value → Shared → Prop} {s : Shared}
end
end DV
namespace L2
open PySem PySem.Spec PySem.W PyProof.Rows
section
variable {X : Cx}
end
end L2
namespace L2
open PySem PySem.Spec PySem.W PyProof.Rows
section
variable {X : Cx} {e st : Expr} {te : TE} {tst : TO} {p2 pos : Pos}
end
end L2
namespace DV
open PySem PySem.W PyProof.Rows
section
variable {prog : Program} {w : World} {A : Around} {E : Value → Shared → Prop} {s : Shared}
end
end DV
namespace L2
open PySem PySem.Spec PySem.W PyProof.Rows
section
variable {X : Cx} {pins : List (Addr × Obj)} {σ : St} {E : Value → Shared → Prop}
end
section
variable {X : Cx}
end
end L2
namespace DS
open PySem PySem.Spec PySem.W PyProof.Rows
def dedup (ns : List Int) : List Int := ns.foldl step_dedup []
theorem firstMet_dedup (ns : List Int) : firstMet (fun i => ns.getD i 0) ns.length = dedup ns := by
  unfold firstMet dedup
  have : (List.range ns.length).map (fun i => ns.getD i 0) = ns := by
    apply List.ext_getElem
    · simp
    · intro i h1 h2; simp [h2]
  rw [this]
theorem mem_step {σ : List Int} {v k : Int} : k ∈ step_dedup σ v ↔ k ∈ σ ∨ k = v := by
  have h := step_any σ v k
  have e1 : ((step_dedup σ v).any (· == k) = true) ↔ k ∈ step_dedup σ v := by simp
  have e2 : (σ.any (· == k) = true) ↔ k ∈ σ := by simp
  rw [← e1, ← e2, h, Bool.or_eq_true, decide_eq_true_eq]
theorem nodup_step {σ : List Int} {v : Int} (h : σ.Nodup) : (step_dedup σ v).Nodup := by
  unfold step_dedup
  split
  · exact h
  · rename_i c
    have hv : v ∉ σ := fun hm => c (by simpa using hm)
    rw [List.nodup_append]
    refine ⟨h, by simp, ?_⟩
    intro a ha b hb e
    rw [List.mem_singleton] at hb
    exact hv (by rw [← hb, ← e]; exact ha)
theorem fold_mem : ∀ (ns σ : List Int) (k : Int), k ∈ ns.foldl step_dedup σ ↔ k ∈ σ ∨ k ∈ ns
  | [], σ, k => by simp
  | n :: ns, σ, k => by
    rw [List.foldl_cons, fold_mem ns, mem_step, List.mem_cons]
    constructor
    · rintro ((h | h) | h)
      · exact .inl h
      · exact .inr (.inl h)
      · exact .inr (.inr h)
    · rintro (h | h | h)
      · exact .inl (.inl h)
      · exact .inl (.inr h)
      · exact .inr h
theorem fold_nodup : ∀ (ns σ : List Int), σ.Nodup → (ns.foldl step_dedup σ).Nodup
  | [], σ, h => h
  | n :: ns, σ, h => fold_nodup ns _ (nodup_step h)
theorem mem_dedup {ns : List Int} {k : Int} : k ∈ dedup ns ↔ k ∈ ns := by
  unfold dedup; rw [fold_mem]; simp
theorem nodup_dedup (ns : List Int) : (dedup ns).Nodup := fold_nodup ns [] List.nodup_nil
theorem dedup_len (ns : List Int) : (dedup ns).length ≤ ns.length := by
  rw [← firstMet_dedup]; exact firstMet_length_le _ _
theorem ints_perm {acc vs : List Value} (hp : acc.Perm vs) : ∀ {ks : List Int}, IntsAre vs ks → ∃ ns, IntsAre acc ns ∧ ns.Perm ks := by
  induction hp with
  | nil => intro ks h; cases h; exact ⟨[], .nil, .nil⟩
  | cons x _ ih =>
    intro ks h
    cases h with
    | cons n t hr => obtain ⟨ns, a, b⟩ := ih hr; exact ⟨n :: ns, .cons n t a, b.cons n⟩
  | swap x y l =>
    intro ks h
    cases h with
    | cons n t hr =>
      cases hr with
      | cons m u hr' => exact ⟨m :: n :: _, .cons m u (.cons n t hr'), .swap _ _ _⟩
  | trans _ _ ih1 ih2 =>
    intro ks h
    obtain ⟨ns, a, b⟩ := ih2 h
    obtain ⟨ns', a', b'⟩ := ih1 a
    exact ⟨ns', a', b'.trans b⟩
end DS
namespace L2
open PySem PySem.Spec PySem.W PyProof.Rows
def SetO (P : Program) (w : World) (a : Addr) (ks : List Int) : HO := .ext fun h => DS.SetP P w h a ks
theorem Inv.drew {X : Cx} {pins : List (Addr × Obj)} {σ : List (Option V)} {H : Hp} {s : Shared} (I : Inv X pins σ H s) (d : PySem.Drawn) : Inv X pins σ H { s with drawn := d } :=
  ⟨I.ok, I.os, I.bare, I.base, I.loc, I.cell, I.free, I.freeC, I.pin, I.hok, I.len⟩
section
variable {X : Cx}
def rSetOf (P : Program) (w : World) (K : PySem.W.Frag) : List V → Hp → VK → Prop := fun xs H Q => ∃ (l : Addr) (ns : List Int), xs = [.ref l] ∧ SqL K H l (ns.map V.int) ∧ ns.length + 1 < scanBound ∧ ∀ p, H p = none → Q (.ref p) (upd H p (SetO P w p (DS.dedup ns)))
theorem call_setOf (hc : X.calm = true) : CallR X (.type "set") (rSetOf X.prog X.w X.K) := by
  intro pins s σ H xs us Q I r h
  obtain ⟨l, ns, e1, hS, hb, q⟩ := h
  subst e1
  obtain ⟨u, e2, ru⟩ := vals1 r
  subst e2
  obtain rfl : u = Value.ref l := ru
  obtain ⟨vs, rv, pl, hz⟩ := I.list hS
  have hi := intsAre_of rv
  have hlen : vs.length = ns.length := by rw [← rv.length, List.length_map]
  refine DS.call_setP (items := vs.toArray) (ns := ns) (I.ok.hd hc) pl.isList (by simpa using hi) (by rw [List.size_toArray, hlen]; exact hb) fun h' tk x hk => ?_
  rw [show vs.toArray.size = ns.length by rw [List.size_toArray, hlen], DS.firstMet_dedup] at x
  have hg : ∃ o, h'.get? s.heap.objs.size = some o := by obtain ⟨o, _, _, _, _, ho, _⟩ := x; exact ⟨o, ho⟩
  exact ⟨.ref s.heap.objs.size, _, I.laid (a := s.heap.objs.size) (o := SetO X.prog X.w s.heap.objs.size (DS.dedup ns)) (t' := tk) (fun b o e => hk b o (Heap.lt_size e) e) (Nat.le_refl _) ⟨x, hg, fun h1 h2 y k => y.at' k⟩, rfl, q _ (I.hok.fresh (Nat.le_refl _))⟩
def rSortSet (P : Program) (w : World) : List V → Hp → VK → Prop := fun xs H Q => ∃ (a : Addr) (ks : List Int), xs = [.ref a] ∧ H a = some (SetO P w a ks) ∧ ks.length < 64 ∧ ∀ (D : Addr) (out : List Int), H D = none → out.Perm ks → out.Pairwise (· ≤ ·) → Q (.ref D) (upd H D (.lst (out.map V.int)))
theorem call_sortSet (hc : X.calm = true) : CallR X (.builtin "sorted") (rSortSet X.prog X.w) := by
  intro pins s σ H xs us Q I r h
  obtain ⟨a, ks, e1, hS, h64, q⟩ := h
  subst e1
  obtain ⟨u, e2, ru⟩ := vals1 r
  subst e2
  obtain rfl : u = Value.ref a := ru
  obtain ⟨x, -, -⟩ := I.hok a _ hS
  refine Calls.call_function_entry kind_sorted plain_sorted entry_sorted (args_sorted1 _) ?_
  unfold Builtin.«sorted»
  refine wpAny_bind (m := checkCount "sorted" 1 1 _) (wpAny_pure ?_)
  refine wpAny_bind (DS.collectP (A := X.A.in1) (I.ok.hd hc) x (by rw [sizeLine_eq]; omega) fun h' tk d acc vs hk hle hi hp => ?_)
  obtain ⟨ns, hin, hpn⟩ := DS.ints_perm hp hi
  have hal : acc.length < 64 := by rw [DS.ints_len hin, hpn.length_eq]; exact h64
  refine wpAny_bind (wpAny_newList ?_ (by rw [sizeLine_eq]; omega))
  have hoL : (h'.push (seqObj "list" acc.toArray 0)).get? h'.objs.size = some (seqObj "list" acc.toArray 0) := Heap.get?_push_size _ rfl
  show wpAny _ _ _ _ _ { s with heap := h'.push (seqObj "list" acc.toArray 0), toks := tk, drawn := d }
  replace hle := Nat.le_of_lt hle
  refine wpAny_bind (wpAny_holding (wpAny_call_entry slot_list_sort ⟨_, hoL, rfl⟩ entry_list_sort (list_sort_tree hoL hin hal fun out ns' a1 a2 a3 => ⟨_, rfl, ?_⟩) (args_list_sort _)))
  refine wpAny_pure ⟨_, rfl, ?_⟩
  obtain ⟨e, he'⟩ := sortedHeap_at (vs := acc) (out := out) (n := 0) hoL
  have hkeep : ∀ b o, s.heap.get? b = some o → (sortedHeap (h'.push (seqObj "list" acc.toArray 0)) h'.objs.size acc out).get? b = some o := fun b o eb => by
    have h1 := hk b o eb
    have hlt := Heap.lt_size h1
    rw [sortedHeap_old (Nat.ne_of_lt hlt) (by rw [size_push']; exact Nat.lt_succ_of_lt hlt)]
    exact Heap.get?_push_of_some _ h1
  have hl2 : ns'.length < 64 := by rw [a2.length_eq, hpn.length_eq]; exact h64
  refine ⟨.ref h'.objs.size, _, ((I.drew d).laid (a := h'.objs.size) (o := .lst (ns'.map V.int)) (t' := tk) hkeep hle ⟨?_, out.toList, e, vals_ints a1, by simpa using he'⟩), rfl, q _ ns' (I.hok.fresh hle) (a2.trans hpn) a3⟩
  rw [List.length_map, sizeLine_eq]; omega
end
end L2
namespace L2
open PySem PySem.Spec PySem.W PyProof.Rows
section
variable {X : Cx}
def rEqNil (K : PySem.W.Frag) : R2 := fun x y H Q => ∃ (a b : Addr) (xs : List V), x = .ref a ∧ y = .ref b ∧ SqL K H a xs ∧ SqL K H b [] ∧ Q (.bl xs.isEmpty) H
theorem op_eqNil (hu : X.A.units + 20 < cLine) : OpR X (compareOp .Eq) (rEqNil X.K) := by
  intro pins s σ H x y v u Q I rx ry h
  obtain ⟨a, b, xs, e1, e2, hA, hB, q⟩ := h
  subst e1 e2
  obtain rfl : v = Value.ref a := rx
  obtain rfl : u = Value.ref b := ry
  obtain ⟨its, r, pl, hz⟩ := I.list hA
  obtain ⟨its2, r2, pl2, hz2⟩ := I.list hB
  have l1 := r.length
  have l2 := r2.length
  cases xs with
  | nil =>
    refine SeqAt.eq_listAt (e := fun _ => true) pl.isList pl2.isList (by rw [List.size_toArray, List.size_toArray]; omega) (by omega) (fun j h1 h2 => ?_) ⟨.bl _, H, I, rfl, ?_⟩
    · rw [List.size_toArray] at h1
      simp at l1
      rw [← l1] at h1
      exact absurd h1 (Nat.not_lt_zero _)
    · rw [List.size_toArray, ← l1]
      exact q
  | cons x xs =>
    exact SeqAt.eq_list_lengthsAt pl.isList pl2.isList (by rw [List.size_toArray, List.size_toArray, ← l1, ← l2]; simp) (by omega) ⟨.bl _, H, I, rfl, q⟩
end
end L2
namespace B71
open PySem L2 S2
def s3V (t : Str3) : List V := [.int t.1, .int t.2.1, .int t.2.2]
def StAt (H : Hp) (l : Addr) (ta : List Addr) (ts : List Str3) : Prop := H l = some (.lst (ta.map V.ref)) ∧ RowsOf H ta (ts.map s3V)
theorem StAt.same {H H2 : Hp} {l : Addr} {ta : List Addr} {ts : List Str3} (h : StAt H l ta ts) (s : Same H H2) : StAt H2 l ta ts := ⟨s _ _ h.1, h.2.same s⟩
def spStretches : Sp := fun vs H Q _ => ∃ (a b : Addr) (fa pa : List Addr) (fls : List Fl) (pls : List Pl) (W : Int), vs = [.int W, .ref a, .ref b] ∧ FlAt H a fa fls ∧ PlAt H b pa pls ∧ pls.length ≤ 12 ∧
  ∀ (t : Addr) (ta : List Addr) (bs : List Int) (H' : Hp), H t = none → Same H H' → StAt H' t ta (sq (eF W fls pls) bs) → bs.Pairwise (· < ·) → (∀ x, x ∈ bs ↔ x ∈ brk pls) → bs.length ≤ 2 * pls.length + 1 → Q (.ref t) H'
theorem scStretches : FnScope ["W", "floats", "standing", "rows", "name", "across", "row", "wide", "high", "told", "edges", "stretch"] ["W", "floats", "standing"] (defScope sStretches) := ⟨rfl, rfl, rfl, by decide +kernel, rfl, by decide +kernel, by decide +kernel⟩
theorem cut3 (t : Str3) : cutV (s3V t) (some 1) none = [.int t.2.1, .int t.2.2] := rfl
theorem pair_eq (x y : Int × Int) : ((List.range [V.int x.1, .int x.2].length).all fun j => eqV ([V.int x.1, .int x.2].getD j .non) ([V.int y.1, .int y.2].getD j .non)) = decide (x = y) := by
  obtain ⟨a, b⟩ := x
  obtain ⟨c, d⟩ := y
  show ((a == c) && ((b == d) && true)) = _
  rw [Bool.eq_iff_iff]
  simp
theorem brk_take {pls : List Pl} {i : Nat} {p : Pl} (h : pls[i]? = some p) : brk (pls.take (i + 1)) = brk (pls.take i) ++ [p.y, p.y + p.h] := by
  have hi : i < pls.length := by
    rcases Nat.lt_or_ge i pls.length with z | z
    · exact z
    · rw [List.getElem?_eq_none z] at h; cases h
  have e : pls.take (i + 1) = pls.take i ++ [p] := by
    rw [List.take_succ, h]; rfl
  unfold brk
  rw [e, List.flatMap_append]
  rfl
theorem brk_len (pls : List Pl) : (brk pls).length = 2 * pls.length + 1 := by
  induction pls with
  | nil => rfl
  | cons p pls ih =>
    unfold brk at ih ⊢
    simp only [List.flatMap_cons, List.length_cons, List.length_append, List.length_nil] at ih ⊢
    omega
theorem strict_of {out ks : List Int} (hp : out.Perm ks) (hn : ks.Nodup) (hs : out.Pairwise (· ≤ ·)) : out.Pairwise (· < ·) := by
  have hn' : out.Nodup := hp.nodup_iff.mpr hn
  rw [List.pairwise_iff_getElem]
  intro i j hi hj hij
  have h1 := (List.pairwise_iff_getElem.mp hs) i j hi hj hij
  have h2 := (List.pairwise_iff_getElem.mp hn') i j hi hj hij
  omega
theorem sq_take {E : Int → Int × Int} {bs : List Int} {i : Nat} {b : Int} (h : bs[i]? = some b) : sq E (bs.take (i + 1)) = sqStep E (sq E (bs.take i)) b := fold_take h
section
variable {P : Program} {w : World} {K : PySem.W.Frag} {mg : Str → Option Value} {base : Heap}
set_option maxHeartbeats 4000000 in
theorem ok_stretches {f f1 : Addr} {fd d1 : FuncData} (F : Fun K "stretches" "stretches" sStretches f fd) (N : Names mg)
    (G1 : FnOk P w K mg base CX0 4 f1 d1 ["W", "floats", "standing", "row", "high"] spEdges) (b1 : Binds K d1 ["W", "floats", "standing", "row", "high"] []) (m1 : mg "edges_at" = some (.ref f1)) (k1 : PySem.W.keepIn K (.ref f1) = true) :
    FnOk P w K mg base CX0 5 f fd ["W", "floats", "standing"] spStretches := by
  refine F.ok scStretches (fun vs H Q E h => ?_) (fun cdv A outer s H vs Q E hr h => ?_)
  · obtain ⟨a, b, fa, pa, fls, pls, W, e, _⟩ := h
    rw [e]
    rfl
  · obtain ⟨a, b, fa, pa, fls, pls, W, e, hF, hP, h12, k⟩ := h
    subst e
    have hu : (A.deeper (PyProof.Rows.envOfC "stretches" (defScope sStretches) s.heap.objs.size f cdv)).units + 20 < cLine := by have := hr.units; omega
    have lp : pa.length = pls.length := by rw [hP.2.1.1, List.length_map]
    refine ⟨_, pss_cons (ps_set (i := 3) scStretches.nd rfl (Or.inl rfl) (pe_lst (pa_cons pe_int pa_nil)))
      (pss_cons (ps_for PassesOwn.never rfl (pi_list (pv 2)) (pg_tup rfl (pgs_cons (pg_name (i := 4) scStretches.nd rfl (Or.inl rfl)) (pgs_cons (pg_name (i := 5) scStretches.nd rfl (Or.inl rfl)) (pgs_cons (pg_name (i := 6) scStretches.nd rfl (Or.inl rfl)) (pgs_cons (pg_name (i := 7) scStretches.nd rfl (Or.inl rfl)) (pgs_cons (pg_name (i := 8) scStretches.nd rfl (Or.inl rfl)) pgs_nil))))))
        (pss_one (ps_expr (pe_bm PySem.F.plainAttrs_list PySem.F.slot_list_extend PySem.F.type_list_extend mt_extend (pv 3) (pa_cons (pe_lst (pa_cons (pv 6) (pa_cons (pe_op op_add (pv 6) (pv 8)) pa_nil))) pa_nil)))))
      (pss_cons (ps_set (i := 9) scStretches.nd rfl (Or.inl rfl) (pe_lst pa_nil))
      (pss_cons (ps_for PassesOwn.never rfl (pi_list (pe_callB (call_sortSet rfl) (by rfl) N.sorted PyProof.Rows.boot_sorted (pa_cons (pe_callTy (call_setOf rfl) (by rfl) N.set PyProof.Rows.boot_set (pa_cons (pv 3) pa_nil)) pa_nil))) (pg_name (i := 6) scStretches.nd rfl (Or.inl rfl))
        (pss_cons (ps_set (i := 10) scStretches.nd rfl (Or.inl rfl) (pe_call G1 hr rfl m1 k1 b1 .nil pass0 (pa_cons (pv 0) (pa_cons (pv 1) (pa_cons (pv 2) (pa_cons (pv 6) (pa_cons pe_int pa_nil)))))))
        (pss_cons (ps_set (i := 11) scStretches.nd rfl (Or.inl rfl) (pe_tup (pa_cons (pv 6) (pa_cons (pe_ix ix_tup (pv 10) pe_int (fun _ _ => rfl)) (pa_cons (pe_op op_sub (pe_ix ix_tup (pv 10) pe_int (fun _ _ => rfl)) (pe_ix ix_tup (pv 10) pe_int (fun _ _ => rfl))) pa_nil)))))
        (pss_one (ps_if (pw_or (pt_cmpR (op_eqNil hu) (pv 9) (pe_lst pa_nil) (nomark _)) (pw_or1 (pt_cmpR (op_neDeep hu) (pe_slice sl_tup (pe_ix ix_list (pv 9) (pe_un un_neg pe_int) (fun _ _ => rfl)) (po_some pe_int) po_none) (pe_slice sl_tup (pv 11) (po_some pe_int) po_none) (nomark _)))).pt
          (pss_one (ps_expr (pe_bm PySem.F.plainAttrs_list PySem.F.slot_list_append PySem.F.type_list_append mt_append (pv 9) (pa_cons (pv 11) pa_nil)))) pss_nil)))))
      (pss_one (ps_ret (pv 9)))))), ?_⟩
    refine ⟨smallE (by simp), fun lr hlr => ?_⟩
    have s1 : Same H (upd H lr (.lst [.int 0])) := Same.put (Same.refl H) hlr
    have h1 : (upd H lr (.lst [.int 0])) lr = some (.lst ([0].map V.int)) := upd_same
    generalize upd H lr (.lst [.int 0]) = H1 at *
    refine ⟨_, rfl, b, rfl, ⟨_, SqL.of (s1 _ _ hP.1)⟩, for_list (K := K) (a := b) (xs := pa.map V.ref) (fun i σ H9 => ∃ v4 v5 v6 v7 v8, σ = [some (.int W), some (.ref a), some (.ref b), some (.ref lr), v4, v5, v6, v7, v8, none, none, none] ∧ Same H H9 ∧ H9 lr = some (.lst ((brk (pls.take i)).map V.int)))
      ⟨_, _, _, _, _, rfl, s1, h1⟩ (fun i σ H9 _ ⟨_, _, _, _, _, _, s9, _⟩ => SqL.of (s9 _ _ hP.1)) ?_ ?_⟩
    · rintro i y σ H9 hy ⟨v4, v5, v6, v7, v8, rfl, s9, h9⟩
      obtain ⟨p, r, rfl, ep, er, hp⟩ := hP.2.1.get hy
      obtain ⟨pl, epl, rfl⟩ := row_map er
      refine ⟨p, _, rfl, SqT.of (s9 _ _ hp), rfl, _, _, rfl, _, _, rfl, _, _, rfl, _, _, rfl, _, _, rfl, rfl, ?_⟩
      refine ⟨_, rfl, .inl ⟨rfl, _, SqL.of h9⟩, _, rfl, _, rfl, _, rfl, _, _, rfl, rfl, smallE (by simp), fun q hq => ?_⟩
      have nq : q ≠ lr := fun z => by rw [z, h9] at hq; cases hq
      have hi : i < pls.length := by rw [← lp]; exact get_lt ep
      have bl := brk_len (pls.take i)
      rw [List.length_take] at bl
      refine ⟨lr, q, _, _, rfl, rfl, (upd_ne (Ne.symm nq)).trans h9, upd_same, smallE (by rw [List.length_map]; simp; omega), _, _, _, _, _, rfl, ?_, ?_⟩
      · exact Same.put (Same.put s9 (s9.free hq)) hlr
      · rw [upd_same, brk_take epl, List.map_append]
        rfl
    · rintro σ H9 ⟨v4, v5, v6, v7, v8, rfl, s9, h9⟩
      rw [List.length_map, lp, List.take_length] at h9
      refine ⟨smallE (by simp), fun lt hlt => ?_⟩
      have s2 : Same H (upd H9 lt (.lst [])) := Same.put s9 (s9.free hlt)
      have h2 : (upd H9 lt (.lst [])) lt = some (.lst []) := upd_same
      have r2 : (upd H9 lt (.lst [])) lr = some (.lst ((brk pls).map V.int)) := (upd_ne (fun z => by rw [z, hlt] at h9; cases h9)).trans h9
      have f2 : H lt = none := s9.free hlt
      generalize upd H9 lt (.lst []) = H2 at *
      have bl := brk_len pls
      refine ⟨_, rfl, lr, brk pls, rfl, SqL.of r2, by rw [bl]; show 2 * pls.length + 1 + 1 < 4096; omega, fun ps hps => ?_⟩
      have dl := DS.dedup_len (brk pls)
      refine ⟨ps, DS.dedup (brk pls), rfl, upd_same, by omega, fun D out hD hpm hso => ?_⟩
      generalize SetO _ _ ps (DS.dedup (brk pls)) = so at *
      have hD2 : H2 D = none := by
        by_cases z : D = ps
        · rw [z, upd_same] at hD; cases hD
        · rwa [upd_ne z] at hD
      have s3 : Same H2 (upd (upd H2 ps so) D (.lst (out.map V.int))) := Same.put (Same.put (Same.refl _) hps) hD2
      have h3 : (upd (upd H2 ps so) D (.lst (out.map V.int))) D = some (.lst (out.map V.int)) := upd_same
      generalize upd (upd H2 ps so) D (.lst (out.map V.int)) = H3 at *
      have s03 := s2.trans s3
      have l3 := s3 _ _ h2
      have hst := strict_of hpm (DS.nodup_dedup _) hso
      have nDl : D ≠ lt := fun z => by rw [z, h2] at hD2; cases hD2
      refine ⟨D, rfl, ⟨_, SqL.of h3⟩, for_list (K := K) (a := D) (xs := out.map V.int) (fun i σ H9 => ∃ (ta : List Addr) (v6 v10 v11 : Option V), σ = [some (.int W), some (.ref a), some (.ref b), some (.ref lr), v4, v5, v6, v7, v8, some (.ref lt), v10, v11] ∧ Same H H9 ∧ H9 D = some (.lst (out.map V.int)) ∧ H9 lt = some (.lst (ta.map V.ref)) ∧ RowsOf H9 ta ((sq (eF W fls pls) (out.take i)).map s3V))
        ⟨[], _, _, _, rfl, s03, h3, l3, RowsOf.nil⟩ (fun i σ H9 _ ⟨_, _, _, _, _, _, h9, _⟩ => SqL.of h9) ?_ ?_⟩
      · rintro i y σ H4 hy ⟨ta, v6, v10, v11, rfl, s4, h4, t4, r4⟩
        obtain ⟨z, rfl, hz⟩ := int_at hy
        have lta : ta.length = (sq (eF W fls pls) (out.take i)).length := by rw [r4.1, List.length_map]
        have lsq := sq_len (eF W fls pls) (out.take i) []
        have lout : out.length ≤ 25 := by rw [hpm.length_eq]; omega
        refine ⟨_, rfl, _, rfl, _, rfl, _, rfl, a, b, fa, pa, fls, pls, W, z, 1, rfl, hF.same s4, hP.same s4, fun t5 H5 ht5 s5 h5 => ?_⟩
        refine ⟨_, rfl, _, rfl, t5, _, _, _, rfl, rfl, SqT.of h5, atI_nat (j := 0) rfl, _, rfl, t5, _, _, _, rfl, rfl, SqT.of h5, atI_nat (j := 1) rfl, _, rfl, t5, _, _, _, rfl, rfl, SqT.of h5, atI_nat (j := 0) rfl, _, _, rfl, rfl, smallE (by simp), fun u hu6 => ?_⟩
        have s6 : Same H5 (upd H5 u (.tup (s3V (z, eF W fls pls z)))) := Same.put (Same.refl _) hu6
        have h6 : (upd H5 u (.tup (s3V (z, eF W fls pls z)))) u = some (.tup (s3V (z, eF W fls pls z))) := upd_same
        have goal6 : upd H5 u (.tup [.int z, .int (edL fls pls z 1), .int (edR W fls pls z 1 - edL fls pls z 1)]) = upd H5 u (.tup (s3V (z, eF W fls pls z))) := rfl
        rw [goal6]
        generalize upd H5 u (.tup (s3V (z, eF W fls pls z))) = H6 at *
        have s46 := s5.trans s6
        have t6 := s46 _ _ t4
        have d6 := s46 _ _ h4
        have r6 := r4.same s46
        have s06 := s4.trans s46
        have put : ∀ H7, Same H6 H7 → sqStep (eF W fls pls) (sq (eF W fls pls) (out.take i)) z = sq (eF W fls pls) (out.take i) ++ [(z, eF W fls pls z)] →
            ∃ (tb : List Addr) (v6 v10 v11 : Option V), [some (.int W), some (.ref a), some (.ref b), some (.ref lr), v4, v5, some (.int z), v7, v8, some (.ref lt), some (.ref t5), some (.ref u)] = [some (.int W), some (.ref a), some (.ref b), some (.ref lr), v4, v5, v6, v7, v8, some (.ref lt), v10, v11] ∧ Same H (upd H7 lt (.lst (ta.map V.ref ++ [.ref u]))) ∧ (upd H7 lt (.lst (ta.map V.ref ++ [.ref u]))) D = some (.lst (out.map V.int)) ∧ (upd H7 lt (.lst (ta.map V.ref ++ [.ref u]))) lt = some (.lst (tb.map V.ref)) ∧ RowsOf (upd H7 lt (.lst (ta.map V.ref ++ [.ref u]))) tb ((sq (eF W fls pls) (out.take (i + 1))).map s3V) := fun H7 s7 e => by
          refine ⟨ta ++ [u], _, _, _, rfl, Same.put (s06.trans s7) f2, (upd_ne nDl).trans (s7 _ _ d6), ?_, ?_⟩
          · rw [upd_same, List.map_append]; rfl
          · rw [sq_take hz, e, List.map_append]
            exact ((r6.same s7).snoc (Same.refl _) (s7 _ _ h6)).updL (s7 _ _ t6)
        refine ⟨_, rfl, smallE (by simp), fun q hq => ⟨lt, q, _, rfl, rfl, SqL.of ((upd_ne (fun z => by rw [← z, t6] at hq; cases hq)).trans t6), SqL.of upd_same, _, rfl, ?_⟩⟩
        have s7 : Same H6 (upd H6 q (.lst [])) := Same.put (Same.refl _) hq
        generalize upd H6 q (.lst []) = H7 at *
        have t7 := s7 _ _ t6
        cases hT : sq (eF W fls pls) (out.take i) with
        | nil =>
          have e0 : ta = [] := List.eq_nil_of_length_eq_zero (by rw [lta, hT]; rfl)
          subst e0
          refine iteT (iteT ?_)
          refine ⟨_, rfl, .inl ⟨rfl, _, SqL.of t7⟩, _, rfl, lt, _, _, rfl, rfl, t7, small (by simp), put H7 s7 ?_⟩
          rw [hT]
          rfl
        | cons x T =>
          obtain ⟨T', l, eT⟩ : ∃ T' l, sq (eF W fls pls) (out.take i) = T' ++ [l] := ⟨_, _, (List.dropLast_concat_getLast (by rw [hT]; exact List.cons_ne_nil _ _)).symm⟩
          obtain ⟨tb, tl, eta⟩ : ∃ tb tl, ta = tb ++ [tl] := ⟨_, _, (List.dropLast_concat_getLast (by intro z; rw [z, hT] at lta; cases lta)).symm⟩
          have hne : (ta.map V.ref).isEmpty = false := by rw [eta]; simp
          rw [hne]
          have hl7 : H7 tl = some (.tup (s3V l)) := by
            have ltb : tb.length = T'.length := by rw [eta, eT] at lta; simpa using lta
            refine (r6.same s7).2 tb.length tl (s3V l) (by rw [eta]; simp) (by rw [eT, ltb, List.map_append]; simp)
          refine iteF ⟨_, rfl, _, rfl, lt, _, _, _, rfl, rfl, SqL.of t7, by rw [eta, List.map_append]; exact atI_last _ _, _, rfl, tl, _, rfl, SqT.of hl7, fun z => absurd z.1 (show HT.sIx 3 0 (some 1) ≠ 0 by decide), fun p8 hp8 => ?_⟩
          rw [cut3]
          have s8 : Same H7 (upd H7 p8 (.tup [.int l.2.1, .int l.2.2])) := Same.put (Same.refl _) hp8
          have h8 : (upd H7 p8 (.tup [.int l.2.1, .int l.2.2])) p8 = some (.tup [.int l.2.1, .int l.2.2]) := upd_same
          generalize upd H7 p8 (.tup [.int l.2.1, .int l.2.2]) = H8 at *
          refine ⟨_, rfl, _, rfl, u, _, rfl, SqT.of (s8 _ _ (s7 _ _ h6)), fun z => absurd z.1 (show HT.sIx 3 0 (some 1) ≠ 0 by decide), fun p9 hp9 => ?_⟩
          rw [cut3]
          have s9' : Same H8 (upd H8 p9 (.tup [.int (eF W fls pls z).1, .int (eF W fls pls z).2])) := Same.put (Same.refl _) hp9
          have h9' : (upd H8 p9 (.tup [.int (eF W fls pls z).1, .int (eF W fls pls z).2])) p9 = some (.tup [.int (eF W fls pls z).1, .int (eF W fls pls z).2]) := upd_same
          have goal9 : upd H8 p9 (.tup [.int (z, eF W fls pls z).2.1, .int (z, eF W fls pls z).2.2]) = upd H8 p9 (.tup [.int (eF W fls pls z).1, .int (eF W fls pls z).2]) := rfl
          rw [goal9]
          generalize upd H8 p9 (.tup [.int (eF W fls pls z).1, .int (eF W fls pls z).2]) = H9' at *
          have s79 := s8.trans s9'
          refine ⟨p8, p9, _, _, fun j => eqV ([V.int l.2.1, .int l.2.2].getD j .non) ([V.int (eF W fls pls z).1, .int (eF W fls pls z).2].getD j .non), rfl, rfl, .inr ⟨SqT.of (s9' _ _ h8), SqT.of h9'⟩, rfl, ?_, _, rfl, ?_⟩
          · intro j x y hx hy
            match j, hx, hy with
            | 0, hx, hy => cases hx; cases hy; exact .flat rfl rfl
            | 1, hx, hy => cases hx; cases hy; exact .flat rfl rfl
          · have e2 := pair_eq l.2 (eF W fls pls z)
            rw [if_pos rfl, e2]
            by_cases c : l.2 = eF W fls pls z
            · rw [show (!decide (l.2 = eF W fls pls z)) = false by simp [c]]
              refine iteF ⟨ta, _, _, _, rfl, s06.trans (s7.trans s79), s79 _ _ (s7 _ _ d6), s79 _ _ t7, ?_⟩
              rw [sq_take hz]
              unfold sqStep
              rw [if_pos (by rw [eT]; simp [c])]
              exact (r6.same s7).same s79
            · rw [show (!decide (l.2 = eF W fls pls z)) = true by simp [c]]
              refine iteT ⟨_, rfl, .inl ⟨rfl, _, SqL.of (s79 _ _ t7)⟩, _, rfl, lt, _, _, rfl, rfl, s79 _ _ t7, small (by rw [List.length_map, lta]; rw [List.length_take] at lsq; simp at lsq; unfold sq; omega), put H9' (s7.trans s79) ?_⟩
              unfold sqStep
              rw [if_neg (by rw [eT]; simp [c])]
      · rintro σ H4 ⟨ta, v6, v10, v11, rfl, s4, h4, t4, r4⟩
        rw [List.length_map, List.take_length] at r4
        refine ⟨_, rfl, k lt ta out H4 f2 s4 ⟨t4, r4⟩ hst (fun x => ?_) ?_⟩
        · rw [hpm.mem_iff, DS.mem_dedup]
        · rw [hpm.length_eq]; omega
end
end B71
namespace B71
open PySem L2 S2
theorem cut_from {ss : List Addr} {k : Nat} (h : k ≤ ss.length) : cutV (ss.map V.ref) (some (k : Int)) none = (ss.drop k).map V.ref := by
  unfold cutV
  rw [HT.sIx_none, HT.sIx_nat, List.length_map, Nat.min_eq_left h, List.map_drop]
  exact List.take_of_length_le (by rw [List.length_drop, List.length_map]; exact Nat.le_refl _)
theorem compN_of {J : It} {H1 : Hp} {σ : St} {tt : TT} {te : TE} {Q : VK} (h : CompGo J H1 σ tt te Q) : CompGoN J H1 1 σ (gName 0) tt te Q := by
  intro D hD
  obtain ⟨W, w0, turn⟩ := h D hD
  refine ⟨W, w0, fun i m H hw => ?_⟩
  rcases turn i m H hw with q | ⟨go, step⟩
  · exact .inl q
  · refine .inr ⟨go, fun x H' ρ lρ y => ?_⟩
    match ρ, lρ with
    | [r0], _ => exact ⟨⟨[some x], rfl, rfl⟩, step x H' y⟩
def fstV (H : Hp) : V → V
  | .ref p => match H p with
    | some (.tup (y :: _)) => y
    | _ => .non
  | _ => .non
theorem fstV_of {H : Hp} {p : Addr} {x : Str3} (h : H p = some (.tup (s3V x))) : fstV H (.ref p) = .int x.1 := by
  unfold fstV
  dsimp only
  rw [h]
  rfl
def widStep (m : Int) (ws : List Int) (x : Str3 × Int) : List Int := ws ++ List.replicate ((if m < x.2 then m else x.2) - (ws.length : Int)).toNat x.1.2.2
def endsOf (ts : List Str3) (m : Int) : List Int := (ts.drop 1).map (·.1) ++ [m]
def wid (ts : List Str3) (m : Int) : List Int := (ts.zip (endsOf ts m)).foldl (widStep m) []
theorem endsOf_len {ts : List Str3} {m : Int} (h : ts ≠ []) : (endsOf ts m).length = ts.length := by
  unfold endsOf
  have : ts.length ≠ 0 := fun z => h (List.eq_nil_of_length_eq_zero z)
  simp
  omega
theorem widStep_len {m : Int} {ws : List Int} {x : Str3 × Int} (hm : 0 ≤ m) (h : (ws.length : Int) ≤ m) : ((widStep m ws x).length : Int) ≤ m := by
  unfold widStep
  rw [List.length_append, List.length_replicate]
  split <;> omega
theorem wid_len {m : Int} (hm : 0 ≤ m) : ∀ (xs : List (Str3 × Int)) (ws : List Int), (ws.length : Int) ≤ m → ((xs.foldl (widStep m) ws).length : Int) ≤ m
  | [], ws, h => h
  | x :: xs, ws, h => wid_len hm xs _ (widStep_len hm h)
theorem rep_flat {α : Type} (x : α) : ∀ k : Nat, (List.replicate k [x]).flatten = List.replicate k x
  | 0 => rfl
  | k + 1 => by rw [List.replicate_succ, List.flatten_cons, rep_flat x k, List.replicate_succ]; rfl
def spWidths : Sp := fun vs H Q _ => ∃ (t : Addr) (ta : List Addr) (ts : List Str3) (m : Int), vs = [.ref t, .int m] ∧ StAt H t ta ts ∧ ts ≠ [] ∧ ts.length ≤ 100 ∧ 0 ≤ m ∧ m ≤ 64 ∧ (∀ x ∈ ts, 0 ≤ x.1) ∧
  ∀ (l : Addr) (H' : Hp), H l = none → Same H H' → H' l = some (.lst ((wid ts m).map V.int)) → Q (.ref l) H'
theorem scWidths : FnScope ["told", "many", "ends", "widths", "stretch", "end"] ["told", "many"] (defScope sWidths) := ⟨rfl, rfl, rfl, by decide +kernel, rfl, by decide +kernel, by decide +kernel⟩
abbrev nWd : List Str := ["told", "many", "ends", "widths", "stretch", "end"]
abbrev nWdC : List Str := ["stretch", "told", "many", "ends", "widths", "", "end"]
theorem ndWdC : nWdC.Nodup := by decide +kernel
theorem for_zip {K : PySem.W.Frag} {a b : Addr} {xs ys : List V} {g : TG} {tb : TS} {D : Ends} {σ : St} {H : Hp} (Pv : Nat → St → Hp → Prop) (h0 : Pv 0 σ H) (hlen : xs.length = ys.length) (hl : ∀ i σ H, i ≤ xs.length → Pv i σ H → SqL K H a xs ∧ SqL K H b ys)
    (hs : ∀ i x y p σ H, xs[i]? = some x → ys[i]? = some y → H p = none → Pv i σ H → g (.ref p) σ (upd H p (.tup [x, y])) fun σ2 H2 => tb { D with nx := Pv (i + 1), ct := Pv (i + 1), bk := D.nx } σ2 H2) (hd : ∀ σ H, Pv xs.length σ H → D.nx σ H) :
    ∃ W : Nat → Nat → St → Hp → Prop, (∃ m, W 0 m σ H) ∧ ∀ i m σ H, W i m σ H →
      ((Itz K a b).stop i H ∧ D.nx σ H) ∨ ((Itz K a b).go i H ∧ ∃ N : St → Hp → Prop, (∀ σ' H', N σ' H' → ∃ m', m' < m ∧ W (i + 1) m' σ' H') ∧ ∀ x H', (Itz K a b).yld i H x H' → g x σ H' fun σ2 H2 => tb { D with nx := N, ct := N, bk := D.nx } σ2 H2) := by
  refine ⟨fun i m σ H => m = xs.length - i ∧ i ≤ xs.length ∧ Pv i σ H, ⟨xs.length, by simp, Nat.zero_le _, h0⟩, ?_⟩
  rintro i m σ H ⟨rfl, hi, p⟩
  obtain ⟨qa, qb⟩ := hl i σ H hi p
  by_cases hlt : i < xs.length
  · refine .inr ⟨⟨xs, ys, xs[i], ys[i]'(by omega), qa, qb, by simp [hlt], by simp [show i < ys.length by omega]⟩, Pv (i + 1), fun σ' H' p' => ⟨xs.length - (i + 1), by omega, rfl, hlt, p'⟩, fun x H' y => ?_⟩
    obtain ⟨p0, u, v, e1, hn, e2, yu, yv⟩ := y
    subst e1 e2
    exact hs i u v p0 σ H (yu xs qa) (yv ys qb) hn p
  · have e : i = xs.length := by omega
    subst e
    exact .inl ⟨⟨xs, ys, qa, qb, .inl (Nat.le_refl _)⟩, hd σ H p⟩
section
variable {P : Program} {w : World} {K : PySem.W.Frag} {mg : Str → Option Value} {base : Heap}
set_option maxHeartbeats 4000000 in
theorem ok_widths {f : Addr} {fd : FuncData} (F : Fun K "widths_of" "widths_of" sWidths f fd) (N : Names mg) : FnOk P w K mg base CX0 1 f fd ["told", "many"] spWidths := by
  refine F.ok scWidths (fun vs H Q E h => ?_) (fun cdv A outer s H vs Q E hr h => ?_)
  · obtain ⟨t, ta, ts, m, e, _⟩ := h
    rw [e]
    rfl
  · obtain ⟨t, ta, ts, m, e, hT, hne, h100, hm0, hm64, hx0, k⟩ := h
    subst e
    have lta : ta.length = ts.length := by rw [hT.2.1, List.length_map]
    refine ⟨_, pss_cons (ps_set (i := 2) scWidths.nd rfl (Or.inl rfl) (pe_op op_cat (pe_compN (k := 1) (N' := nWdC) (compScN_mk (fs := defScope sWidths) (N := nWd) rfl rfl (by decide +kernel)) rfl (pi_list (pe_slice sl_list (pv 0) (po_some pe_int) po_none)) (fun _ _ _ _ _ => pg_name (i := 0) ndWdC rfl (Or.inl rfl)) (fun _ _ _ _ _ => pts_nil) (fun _ _ _ _ _ => pe_ix (r := rIxT K) ix_tup (pv 0) pe_int (fun _ _ => rfl))) (pe_lst (pa_cons (pv 1) pa_nil))))
      (pss_cons (ps_set (i := 3) scWidths.nd rfl (Or.inl rfl) (pe_lst pa_nil))
      (pss_cons (ps_for PassesOwn.never rfl (pi_zip (by rfl) N.zip (pa_cons (pv 0) (pa_cons (pv 2) pa_nil))) (pg_tup rfl (pgs_cons (pg_name (i := 4) scWidths.nd rfl (Or.inl rfl)) (pgs_cons (pg_name (i := 5) scWidths.nd rfl (Or.inl rfl)) pgs_nil)))
        (pss_one (ps_expr (pe_bm PySem.F.plainAttrs_list PySem.F.slot_list_extend PySem.F.type_list_extend mt_extend (pv 3) (pa_cons (pe_op op_rep (pe_lst (pa_cons (pe_ix ix_tup (pv 4) pe_int (fun _ _ => rfl)) pa_nil)) (pe_op op_sub (pe_callB (call_min2 rfl) (by rfl) N.min PyProof.Rows.boot_min (pa_cons (pv 5) (pa_cons (pv 1) pa_nil))) (pe_callB call_len_seq (by rfl) N.len PySem.boot_len (pa_cons (pv 3) pa_nil)))) pa_nil)))))
      (pss_one (ps_ret (pv 3))))), ?_⟩
    refine ⟨_, rfl, _, rfl, t, _, rfl, SqL.of hT.1, fun p1 hp1 => ?_⟩
    have s1 : Same H (upd H p1 (.lst (cutV (ta.map V.ref) (some 1) none))) := Same.put (Same.refl _) hp1
    have t1 : 1 ≤ ta.length := by
      have : ts.length ≠ 0 := fun z => hne (List.eq_nil_of_length_eq_zero z)
      omega
    have e1 : cutV (ta.map V.ref) (some 1) none = (ta.drop 1).map V.ref := cut_from (k := 1) t1
    rw [e1] at s1 ⊢
    have h1 : (upd H p1 (.lst ((ta.drop 1).map V.ref))) p1 = some (.lst ((ta.drop 1).map V.ref)) := upd_same
    generalize upd H p1 (.lst ((ta.drop 1).map V.ref)) = H1 at *
    have hT1 := hT.same s1
    have rowAt : ∀ (i : Nat) (p : Addr), (ta.drop 1)[i]? = some p → ∃ x : Str3, (ts.drop 1)[i]? = some x ∧ H1 p = some (.tup (s3V x)) := fun i p hp => by
      rw [List.getElem?_drop] at hp
      have hi : 1 + i < ts.length := by rw [← lta]; exact get_lt hp
      exact ⟨ts[1 + i], by rw [List.getElem?_drop, List.getElem?_eq_getElem hi], hT1.2.2 _ _ _ hp (by rw [List.getElem?_map, List.getElem?_eq_getElem hi]; rfl)⟩
    refine ⟨p1, rfl, ⟨_, SqL.of h1⟩, compN_of (comp_list (K := K) (a := p1) (xs := (ta.drop 1).map V.ref) (fstV H1) (SqL.of h1) (small (by rw [List.length_map, List.length_drop]; omega)) (fun D i x l Q' hD hx hq => ?_) fun D hD => ?_)⟩
    · rw [List.getElem?_map] at hx
      obtain ⟨p, hp, rfl⟩ := Option.map_eq_some_iff.mp hx
      obtain ⟨y, _, hy⟩ := rowAt i p hp
      have ef : fstV H1 (.ref p) = .int y.1 := fstV_of hy
      rw [ef] at hq
      exact ⟨_, rfl, p, _, _, _, rfl, rfl, SqT.of ((upd_ne (fun z => by rw [z, hD] at hy; cases hy)).trans hy), atI_nat (j := 0) rfl, hq⟩
    · have em : ((ta.drop 1).map V.ref).map (fstV H1) = ((ts.drop 1).map (·.1)).map V.int := by
        apply List.ext_getElem?
        intro i
        rw [List.getElem?_map, List.getElem?_map, List.getElem?_map, List.getElem?_map]
        cases hp : (ta.drop 1)[i]? with
        | none =>
          have h1 := List.getElem?_eq_none_iff.mp hp
          rw [List.length_drop] at h1
          rw [List.getElem?_eq_none (l := ts.drop 1) (by rw [List.length_drop]; omega)]
          rfl
        | some p =>
          obtain ⟨y, ey, hy⟩ := rowAt i p hp
          rw [ey]
          show some (fstV H1 (.ref p)) = some (.int y.1)
          rw [fstV_of hy]
      rw [em]
      have s2 : Same H1 (upd H1 D (.lst (((ts.drop 1).map (·.1)).map V.int))) := Same.put (Same.refl _) hD
      have h2 : (upd H1 D (.lst (((ts.drop 1).map (·.1)).map V.int))) D = some (.lst (((ts.drop 1).map (·.1)).map V.int)) := upd_same
      generalize upd H1 D (.lst (((ts.drop 1).map (·.1)).map V.int)) = H2 at *
      refine ⟨_, rfl, smallE (by simp), fun q hq => ?_⟩
      have nq : D ≠ q := fun z => by rw [← z, h2] at hq; cases hq
      refine ⟨D, q, _, _, rfl, rfl, (upd_ne nq).trans h2, upd_same, smallE (by simp; omega), fun le hle => ?_⟩
      have s3 : Same H2 (upd (upd H2 q (.lst [.int m])) le (.lst (((ts.drop 1).map (·.1)).map V.int ++ [.int m]))) := Same.put (Same.put (Same.refl _) hq) (by
        by_cases z : le = q
        · rw [z, upd_same] at hle; cases hle
        · rwa [upd_ne z] at hle)
      have h3 : (upd (upd H2 q (.lst [.int m])) le (.lst (((ts.drop 1).map (·.1)).map V.int ++ [.int m]))) le = some (.lst ((endsOf ts m).map V.int)) := by
        rw [upd_same]; unfold endsOf; rw [List.map_append]; rfl
      generalize upd (upd H2 q (.lst [.int m])) le (.lst (((ts.drop 1).map (·.1)).map V.int ++ [.int m])) = H3 at *
      have s03 := s1.trans (s2.trans s3)
      refine ⟨smallE (by simp), fun lw hlw => ?_⟩
      have f4 : H lw = none := s03.free hlw
      have s4 : Same H3 (upd H3 lw (.lst [])) := Same.put (Same.refl _) hlw
      have h4 : (upd H3 lw (.lst [])) lw = some (.lst (([] : List Int).map V.int)) := upd_same
      generalize upd H3 lw (.lst []) = H4 at *
      have e4 := s4 _ _ h3
      have s04 := s03.trans s4
      have nle : le ≠ lw := fun z => by rw [← z, h3] at hlw; cases hlw
      have ntl : t ≠ lw := fun z => by rw [← z, s03 _ _ hT.1] at hlw; cases hlw
      have el := endsOf_len (m := m) hne
      have hL : ∀ {i : Nat} {x : V}, (ta.map V.ref)[i]? = some x → ∃ p y, x = .ref p ∧ ts[i]? = some y ∧ H p = some (.tup (s3V y)) := fun {i x} hx => by
        obtain ⟨p, r, rfl, ep, er, hp⟩ := hT.2.get hx
        rw [List.getElem?_map] at er
        obtain ⟨y, ey, rfl⟩ := Option.map_eq_some_iff.mp er
        exact ⟨p, y, rfl, ey, hp⟩
      refine ⟨_, rfl, _, rfl, t, le, rfl, ⟨_, SqL.of (s04 _ _ hT.1)⟩, ⟨_, SqL.of e4⟩, for_zip (K := K) (a := t) (b := le) (xs := ta.map V.ref) (ys := (endsOf ts m).map V.int) (fun i σ H9 => ∃ (v4 v5 : Option V), σ = [some (.ref t), some (.int m), some (.ref le), some (.ref lw), v4, v5] ∧ Same H H9 ∧ H9 le = some (.lst ((endsOf ts m).map V.int)) ∧ H9 lw = some (.lst ((((ts.zip (endsOf ts m)).take i).foldl (widStep m) []).map V.int)))
        ⟨_, _, rfl, s04, e4, h4⟩ (by rw [List.length_map, List.length_map, lta, el]) (fun i σ H9 _ ⟨_, _, _, s9, e9, _⟩ => ⟨SqL.of (s9 _ _ hT.1), SqL.of e9⟩) ?_ ?_⟩
      · rintro i x y p σ H9 hx hy hp ⟨v4, v5, rfl, s9, e9, w9⟩
        obtain ⟨pt, st, rfl, est, hst⟩ := hL hx
        obtain ⟨ed, rfl, hed⟩ := int_at hy
        have ez : (ts.zip (endsOf ts m))[i]? = some (st, ed) := by rw [List.getElem?_zip_eq_some]; exact ⟨est, hed⟩
        generalize hws : ((ts.zip (endsOf ts m)).take i).foldl (widStep m) [] = ws at *
        have lws : (ws.length : Int) ≤ m := by rw [← hws]; exact wid_len hm0 _ _ (by simpa using hm0)
        have ed0 : 0 ≤ ed := by
          have := List.mem_of_getElem? hed
          unfold endsOf at this
          rcases List.mem_append.mp this with z | z
          · obtain ⟨x, hx, rfl⟩ := List.mem_map.mp z
            exact hx0 x (List.mem_of_mem_drop hx)
          · rw [List.mem_singleton] at z; omega
        have s10 : Same H9 (upd H9 p (.tup [.ref pt, .int ed])) := Same.put (Same.refl _) hp
        have hp10 : (upd H9 p (.tup [.ref pt, .int ed])) p = some (.tup [.ref pt, .int ed]) := upd_same
        generalize upd H9 p (.tup [.ref pt, .int ed]) = H10 at *
        have w10 := s10 _ _ w9
        have st10 := s10 _ _ (s9 _ _ hst)
        refine ⟨p, _, rfl, SqT.of hp10, rfl, _, _, rfl, _, _, rfl, rfl, ?_⟩
        refine ⟨_, rfl, .inl ⟨rfl, _, SqL.of w10⟩, _, rfl, pt, _, _, _, rfl, rfl, SqT.of st10, atI_nat (j := 2) rfl, smallE (by simp), fun q hq => ?_⟩
        have s11 : Same H10 (upd H10 q (.lst [.int st.2.2])) := Same.put (Same.refl _) hq
        have h11 : (upd H10 q (.lst [.int st.2.2])) q = some (.lst [.int st.2.2]) := upd_same
        generalize upd H10 q (.lst [.int st.2.2]) = H11 at *
        have w11 := s11 _ _ w10
        refine ⟨_, rfl, _, rfl, _, _, rfl, _, rfl, lw, _, rfl, .inl (SqL.of w11), _, _, rfl, rfl, q, _, _, rfl, rfl, h11, ?_, ?_, ?_, fun q2 hq2 => ?_⟩
        · rw [List.length_map]; split <;> omega
        · rw [List.length_map]; split <;> omega
        · rw [List.length_map]; refine smallE ?_; simp only [List.length_cons, List.length_nil]; split <;> omega
        · have nq2 : lw ≠ q2 := fun z => by rw [← z, w11] at hq2; cases hq2
          refine ⟨lw, q2, _, _, rfl, rfl, (upd_ne nq2).trans w11, upd_same, ?_, _, _, rfl, ?_, ?_, ?_⟩
          · rw [rep_flat, List.length_map, List.length_replicate]
            refine smallE ?_
            split <;> omega
          · exact Same.put (Same.put ((s9.trans s10).trans s11) ((s9.trans (s10.trans s11)).free hq2)) f4
          · rw [upd_ne nle, upd_ne (fun z => by rw [← z, s11 _ _ (s10 _ _ e9)] at hq2; cases hq2)]
            exact s11 _ _ (s10 _ _ e9)
          · rw [upd_same, fold_take ez, hws]
            unfold widStep
            rw [rep_flat, List.map_append, List.map_replicate, List.length_map]
      · rintro σ H9 ⟨v4, v5, rfl, s9, e9, w9⟩
        rw [List.length_map, lta, List.take_of_length_le (by rw [List.length_zip, el]; omega)] at w9
        exact ⟨_, rfl, k lw H9 f4 s9 w9⟩
end
end B71
namespace B71
open PySem L2 S2
def spRowDue : Sp := fun vs H Q _ => ∃ (a b : Addr) (fa pa : List Addr) (fls : List Fl) (pls : List Pl) (W row row0 : Int), vs = [.int W, .ref a, .ref b, .int row] ∧ FlAt H a fa fls ∧ PlAt H b pa pls ∧ pls.length ≤ fls.length ∧ (∀ p ∈ pls, InW W row0 p) ∧
  ∀ (t : Addr) (H' : Hp), H t = none → Same H H' → H' t = some (.tup [.int (eF W fls pls row).1, .int (eF W fls pls row).2]) → Q (.ref t) H'
theorem scRowDue : FnScope ["_law_wide", "_law_floats", "_law_standing", "_law_row", "_law_left", "_law_right", "_law_k", "_law_thing", "_law_name", "_law_x", "_law_y", "_law_w", "_law_h"] ["_law_wide", "_law_floats", "_law_standing", "_law_row"] (defScope sLRowDue) := ⟨rfl, rfl, rfl, by decide +kernel, rfl, by decide +kernel, by decide +kernel⟩
def spFree : Sp := fun vs H Q _ => ∃ (b : Addr) (pa : List Addr) (pls : List Pl) (row x wd : Int), vs = [.ref b, .int row, .int x, .int wd] ∧ PlAt H b pa pls ∧ (∀ p ∈ pls, p.y ≤ row → row < p.y + p.h → p.x < x + wd → x < p.x + p.w → ¬ 0 < wd) ∧ Q (.bl true) H
theorem scFree : FnScope ["_law_standing", "_law_row", "_law_x", "_law_width", "_law_name", "_law_a", "_law_y", "_law_w", "_law_h"] ["_law_standing", "_law_row", "_law_x", "_law_width"] (defScope sLFree) := ⟨rfl, rfl, rfl, by decide +kernel, rfl, by decide +kernel, by decide +kernel⟩
theorem take_snoc {α : Type} {l : List α} {i : Nat} {x : α} (h : l[i]? = some x) : l.take (i + 1) = l.take i ++ [x] := by
  rw [List.take_succ, h]; rfl
theorem lawTou1 (p : Pl) (row : Int) : lawTou row 1 p = (decide (p.y ≤ row) && decide (row < p.y + p.h)) := by
  unfold lawTou
  rw [Bool.eq_iff_iff]
  simp
  omega
section
variable {P : Program} {w : World} {K : PySem.W.Frag} {mg : Str → Option Value} {base : Heap}
set_option maxHeartbeats 4000000 in
theorem ok_free {f : Addr} {fd : FuncData} (F : Fun K "_law_free" "_law_free" sLFree f fd) : FnOk P w K mg base CX0 1 f fd ["_law_standing", "_law_row", "_law_x", "_law_width"] spFree := by
  refine F.ok scFree (fun vs H Q E h => ?_) (fun cdv A outer s H vs Q E hr h => ?_)
  · obtain ⟨b, pa, pls, row, x, wd, e, _⟩ := h
    rw [e]
    rfl
  · obtain ⟨b, pa, pls, row, x, wd, e, hP, hno, k⟩ := h
    subst e
    refine ⟨_, pss_cons (ps_for PassesOwn.never rfl (pi_list (pv 0)) (pg_tup rfl (pgs_cons (pg_name (i := 4) scFree.nd rfl (Or.inl rfl)) (pgs_cons (pg_name (i := 5) scFree.nd rfl (Or.inl rfl)) (pgs_cons (pg_name (i := 6) scFree.nd rfl (Or.inl rfl)) (pgs_cons (pg_name (i := 7) scFree.nd rfl (Or.inl rfl)) (pgs_cons (pg_name (i := 8) scFree.nd rfl (Or.inl rfl)) pgs_nil))))))
        (pss_one (ps_if (pw_and (pt_cmpR op_le (pv 6) (pv 1) (nomark _)) (pw_and (pt_cmpR op_lt (pv 1) (pe_op op_add (pv 6) (pv 8)) (nomark _)) (pw_and (pt_cmpR op_lt (pv 5) (pe_op op_add (pv 2) (pv 3)) (nomark _)) (pw_and (pt_cmpR op_lt (pv 2) (pe_op op_add (pv 5) (pv 7)) (nomark _)) (pw_and1 (pt_cmpR op_gt (pv 3) pe_int (nomark _))))))).pt
          (pss_one (ps_ret pe_bl)) pss_nil)))
      (pss_one (ps_ret pe_bl)), ?_⟩
    refine ⟨_, rfl, b, rfl, ⟨_, SqL.of hP.1⟩, for_list (K := K) (a := b) (xs := pa.map V.ref) (fun i σ H9 => (∃ v4 v5 v6 v7 v8, σ = [some (.ref b), some (.int row), some (.int x), some (.int wd), v4, v5, v6, v7, v8]) ∧ H9 = H) ⟨⟨_, _, _, _, _, rfl⟩, rfl⟩ (fun i σ H9 _ h9 => by rw [h9.2]; exact SqL.of hP.1) ?_ ?_⟩
    · rintro i y σ H9 hy ⟨⟨v4, v5, v6, v7, v8, rfl⟩, rfl⟩
      obtain ⟨p, r, rfl, ep, er, hp⟩ := hP.2.1.get hy
      obtain ⟨pl, epl, rfl⟩ := row_map er
      have hn := hno pl (List.mem_of_getElem? epl)
      refine ⟨p, _, rfl, SqT.of hp, rfl, _, _, rfl, _, _, rfl, _, _, rfl, _, _, rfl, _, _, rfl, rfl, ?_⟩
      refine ⟨_, rfl, _, rfl, _, _, rfl, rfl, _, rfl, ?_⟩
      by_cases c1 : pl.y ≤ row
      · rw [decide_eq_true c1]
        refine iteT ⟨_, rfl, _, rfl, _, rfl, _, _, rfl, rfl, _, _, rfl, rfl, _, rfl, ?_⟩
        by_cases c2 : row < pl.y + pl.h
        · rw [decide_eq_true c2]
          refine iteT ⟨_, rfl, _, rfl, _, rfl, _, _, rfl, rfl, _, _, rfl, rfl, _, rfl, ?_⟩
          by_cases c3 : pl.x < x + wd
          · rw [decide_eq_true c3]
            refine iteT ⟨_, rfl, _, rfl, _, rfl, _, _, rfl, rfl, _, _, rfl, rfl, _, rfl, ?_⟩
            by_cases c4 : x < pl.x + pl.w
            · rw [decide_eq_true c4]
              refine iteT ⟨_, rfl, _, _, rfl, rfl, _, rfl, ?_⟩
              have := hn c1 c2 c3 c4
              rw [decide_eq_false (by omega)]
              exact iteF ⟨⟨_, _, _, _, _, rfl⟩, rfl⟩
            · rw [decide_eq_false c4]
              exact iteF (iteF ⟨⟨_, _, _, _, _, rfl⟩, rfl⟩)
          · rw [decide_eq_false c3]
            exact iteF (iteF ⟨⟨_, _, _, _, _, rfl⟩, rfl⟩)
        · rw [decide_eq_false c2]
          exact iteF (iteF ⟨⟨_, _, _, _, _, rfl⟩, rfl⟩)
      · rw [decide_eq_false c1]
        exact iteF (iteF ⟨⟨_, _, _, _, _, rfl⟩, rfl⟩)
    · rintro σ H9 ⟨⟨v4, v5, v6, v7, v8, rfl⟩, rfl⟩
      exact k
set_option maxHeartbeats 4000000 in
theorem ok_rowDue {f : Addr} {fd : FuncData} (F : Fun K "_law_row_due" "_law_row_due" sLRowDue f fd) (N : Names mg) : FnOk P w K mg base CX0 1 f fd ["_law_wide", "_law_floats", "_law_standing", "_law_row"] spRowDue := by
  refine F.ok scRowDue (fun vs H Q E h => ?_) (fun cdv A outer s H vs Q E hr h => ?_)
  · obtain ⟨a, b, fa, pa, fls, pls, W, row, row0, e, _⟩ := h
    rw [e]
    rfl
  · obtain ⟨a, b, fa, pa, fls, pls, W, row, row0, e, hF, hP, hle, hin, k⟩ := h
    subst e
    have lp : pa.length = pls.length := by rw [hP.2.1.1, List.length_map]
    refine ⟨_, pss_cons (ps_set (i := 4) scRowDue.nd rfl (Or.inl rfl) pe_int)
      (pss_cons (ps_set (i := 5) scRowDue.nd rfl (Or.inl rfl) (pv 0))
      (pss_cons (ps_for PassesOwn.never rfl (pi_enL0 rfl N.enum (pa_cons (pv 2) pa_nil)) (pg_tup rfl (pgs_cons (pg_name (i := 6) scRowDue.nd rfl (Or.inl rfl)) (pgs_cons (pg_name (i := 7) scRowDue.nd rfl (Or.inl rfl)) pgs_nil)))
        (pss_cons (ps_asg (pv 7) (pg_tup rfl (pgs_cons (pg_name (i := 8) scRowDue.nd rfl (Or.inl rfl)) (pgs_cons (pg_name (i := 9) scRowDue.nd rfl (Or.inl rfl)) (pgs_cons (pg_name (i := 10) scRowDue.nd rfl (Or.inl rfl)) (pgs_cons (pg_name (i := 11) scRowDue.nd rfl (Or.inl rfl)) (pgs_cons (pg_name (i := 12) scRowDue.nd rfl (Or.inl rfl)) pgs_nil)))))))
        (pss_cons (ps_if (pw_and (pt_cmpR op_le (pv 10) (pv 3) (nomark _)) (pw_and (pt_cmpR op_lt (pv 3) (pe_op op_add (pv 10) (pv 12)) (nomark _)) (pw_and1 (pt_cmpR op_eq (pe_ix ix_tup (pe_ix ix_list (pv 1) (pv 6) (fun _ _ => rfl)) pe_int (fun _ _ => rfl)) pe_str (nomark _))))).pt
          (pss_one (ps_set (i := 4) scRowDue.nd rfl (Or.inl rfl) (pe_callB (call_max2 rfl) (by rfl) N.max PyProof.Rows.boot_max (pa_cons (pv 4) (pa_cons (pe_op op_add (pv 9) (pv 11)) pa_nil))))) pss_nil)
        (pss_one (ps_if (pw_and (pt_cmpR op_le (pv 10) (pv 3) (nomark _)) (pw_and (pt_cmpR op_lt (pv 3) (pe_op op_add (pv 10) (pv 12)) (nomark _)) (pw_and1 (pt_cmpR op_eq (pe_ix ix_tup (pe_ix ix_list (pv 1) (pv 6) (fun _ _ => rfl)) pe_int (fun _ _ => rfl)) pe_str (nomark _))))).pt
          (pss_one (ps_set (i := 5) scRowDue.nd rfl (Or.inl rfl) (pe_callB (call_min2 rfl) (by rfl) N.min PyProof.Rows.boot_min (pa_cons (pv 5) (pa_cons (pv 9) pa_nil))))) pss_nil)))))
      (pss_one (ps_ret (pe_tup (pa_cons (pv 4) (pa_cons (pe_op op_sub (pv 5) (pv 4)) pa_nil))))))), ?_⟩
    refine ⟨_, rfl, _, rfl, b, rfl, ⟨_, SqL.of hP.1⟩, for_en (xs := pa.map V.ref) (fun i σ H9 => ∃ (v6 v7 v8 v9 v10 v11 v12 : Option V), σ = [some (.int W), some (.ref a), some (.ref b), some (.int row), some (.int ((sideF fls true (pls.take i)).foldl (stepL row 1) 0)), some (.int ((sideF fls false (pls.take i)).foldl (stepR row 1) W)), v6, v7, v8, v9, v10, v11, v12] ∧ Same H H9)
      ⟨_, _, _, _, _, _, _, rfl, Same.refl _⟩ (fun i σ H9 _ ⟨_, _, _, _, _, _, _, _, s9⟩ => SqL.of (s9 _ _ hP.1)) ?_ ?_⟩
    · rintro i x p σ H9 hx hp ⟨v6, v7, v8, v9, v10, v11, v12, rfl, s9⟩
      obtain ⟨q, r, rfl, ep, er, hq⟩ := hP.2.1.get hx
      obtain ⟨pl, epl, rfl⟩ := row_map er
      have hi : i < pls.length := get_lt epl
      obtain ⟨ef, hft⟩ := hF.get (i := i) (by omega)
      have tl : (pls.take i).length = i := by rw [List.length_take]; omega
      have s10 : Same H9 (upd H9 p (.tup [.int (0 + (i : Int)), .ref q])) := Same.put (Same.refl _) hp
      have hp10 : (upd H9 p (.tup [.int (0 + (i : Int)), .ref q])) p = some (.tup [.int (0 + (i : Int)), .ref q]) := upd_same
      generalize upd H9 p (.tup [.int (0 + (i : Int)), .ref q]) = H10 at *
      have s010 := s9.trans s10
      refine ⟨p, _, rfl, SqT.of hp10, rfl, _, _, rfl, _, _, rfl, rfl, ?_⟩
      refine ⟨_, rfl, q, _, rfl, SqT.of (s010 _ _ hq), rfl, _, _, rfl, _, _, rfl, _, _, rfl, _, _, rfl, _, _, rfl, rfl, ?_⟩
      have hft10 := s010 _ _ hft
      have hat : atI (fa.map V.ref) (0 + (i : Int)) = some (.ref (fa.getD i 0)) := by
        rw [Int.zero_add]
        exact atI_nat (by rw [List.getElem?_map, ef]; rfl)
      have eL : (sideF fls true (pls.take (i + 1))).foldl (stepL row 1) 0 = if (gF fls i).lf = true then stepL row 1 ((sideF fls true (pls.take i)).foldl (stepL row 1) 0) pl else (sideF fls true (pls.take i)).foldl (stepL row 1) 0 := by
        rw [take_snoc epl, sideF_snoc, tl, List.foldl_append]
        split <;> rfl
      have eR : (sideF fls false (pls.take (i + 1))).foldl (stepR row 1) W = if (gF fls i).lf = false then stepR row 1 ((sideF fls false (pls.take i)).foldl (stepR row 1) W) pl else (sideF fls false (pls.take i)).foldl (stepR row 1) W := by
        rw [take_snoc epl, sideF_snoc, tl, List.foldl_append]
        split <;> rfl
      rw [eL, eR]
      generalize (sideF fls true (pls.take i)).foldl (stepL row 1) 0 = L at *
      generalize (sideF fls false (pls.take i)).foldl (stepR row 1) W = R at *
      generalize hg : gF fls i = g at *
      by_cases c1 : pl.y ≤ row
      · have d1 : decide (pl.y ≤ row) = true := decide_eq_true c1
        by_cases c2 : row < pl.y + pl.h
        · have d2 : decide (row < pl.y + pl.h) = true := decide_eq_true c2
          have tou : lawTou row 1 pl = true := by rw [lawTou1, d1, d2]; rfl
          obtain ⟨gn, gl, gw, gh⟩ := g
          cases gl with
          | true =>
            refine ⟨_, rfl, _, rfl, _, _, rfl, rfl, _, rfl, ?_⟩
            rw [d1]
            refine iteT ⟨_, rfl, _, rfl, _, rfl, _, _, rfl, rfl, _, _, rfl, rfl, _, rfl, ?_⟩
            rw [d2]
            refine iteT ⟨_, rfl, _, rfl, a, _, _, _, rfl, rfl, SqL.of (s010 _ _ hF.1), hat, fa.getD i 0, _, _, _, rfl, rfl, SqT.of hft10, atI_nat (j := 1) rfl, rfl, _, rfl, ?_⟩
            refine iteT ⟨_, rfl, _, rfl, _, rfl, _, _, rfl, rfl, _, _, rfl, ?_⟩
            refine ⟨_, rfl, _, rfl, _, _, rfl, rfl, _, rfl, ?_⟩
            rw [d1]
            refine iteT ⟨_, rfl, _, rfl, _, rfl, _, _, rfl, rfl, _, _, rfl, rfl, _, rfl, ?_⟩
            rw [d2]
            refine iteT ⟨_, rfl, _, rfl, a, _, _, _, rfl, rfl, SqL.of (s010 _ _ hF.1), hat, fa.getD i 0, _, _, _, rfl, rfl, SqT.of hft10, atI_nat (j := 1) rfl, rfl, _, rfl, ?_⟩
            refine iteF ⟨some (.int (0 + (i : Int))), some (.ref q), some (.str pl.nm), some (.int pl.x), some (.int pl.y), some (.int pl.w), some (.int pl.h), ?_, s010⟩
            unfold stepL
            rw [if_pos tou]
            rfl
          | false =>
            refine ⟨_, rfl, _, rfl, _, _, rfl, rfl, _, rfl, ?_⟩
            rw [d1]
            refine iteT ⟨_, rfl, _, rfl, _, rfl, _, _, rfl, rfl, _, _, rfl, rfl, _, rfl, ?_⟩
            rw [d2]
            refine iteT ⟨_, rfl, _, rfl, a, _, _, _, rfl, rfl, SqL.of (s010 _ _ hF.1), hat, fa.getD i 0, _, _, _, rfl, rfl, SqT.of hft10, atI_nat (j := 1) rfl, rfl, _, rfl, ?_⟩
            refine iteF ?_
            refine ⟨_, rfl, _, rfl, _, _, rfl, rfl, _, rfl, ?_⟩
            rw [d1]
            refine iteT ⟨_, rfl, _, rfl, _, rfl, _, _, rfl, rfl, _, _, rfl, rfl, _, rfl, ?_⟩
            rw [d2]
            refine iteT ⟨_, rfl, _, rfl, a, _, _, _, rfl, rfl, SqL.of (s010 _ _ hF.1), hat, fa.getD i 0, _, _, _, rfl, rfl, SqT.of hft10, atI_nat (j := 1) rfl, rfl, _, rfl, ?_⟩
            refine iteT ⟨_, rfl, _, rfl, _, _, rfl, ?_⟩
            refine ⟨some (.int (0 + (i : Int))), some (.ref q), some (.str pl.nm), some (.int pl.x), some (.int pl.y), some (.int pl.w), some (.int pl.h), ?_, s010⟩
            unfold stepR
            rw [if_pos tou]
            rfl
        · have d2 : decide (row < pl.y + pl.h) = false := decide_eq_false c2
          have tou : ¬ lawTou row 1 pl = true := by rw [lawTou1, d1, d2]; exact Bool.false_ne_true
          refine ⟨_, rfl, _, rfl, _, _, rfl, rfl, _, rfl, ?_⟩
          rw [d1]
          refine iteT ⟨_, rfl, _, rfl, _, rfl, _, _, rfl, rfl, _, _, rfl, rfl, _, rfl, ?_⟩
          rw [d2]
          refine iteF (iteF ?_)
          refine ⟨_, rfl, _, rfl, _, _, rfl, rfl, _, rfl, ?_⟩
          rw [d1]
          refine iteT ⟨_, rfl, _, rfl, _, rfl, _, _, rfl, rfl, _, _, rfl, rfl, _, rfl, ?_⟩
          rw [d2]
          refine iteF (iteF ⟨some (.int (0 + (i : Int))), some (.ref q), some (.str pl.nm), some (.int pl.x), some (.int pl.y), some (.int pl.w), some (.int pl.h), ?_, s010⟩)
          unfold stepL stepR
          rw [if_neg tou, if_neg tou, ite_self, ite_self]
          rfl
      · have d1 : decide (pl.y ≤ row) = false := decide_eq_false c1
        have tou : ¬ lawTou row 1 pl = true := by rw [lawTou1, d1]; exact Bool.false_ne_true
        refine ⟨_, rfl, _, rfl, _, _, rfl, rfl, _, rfl, ?_⟩
        rw [d1]
        refine iteF (iteF ?_)
        refine ⟨_, rfl, _, rfl, _, _, rfl, rfl, _, rfl, ?_⟩
        rw [d1]
        refine iteF (iteF ⟨some (.int (0 + (i : Int))), some (.ref q), some (.str pl.nm), some (.int pl.x), some (.int pl.y), some (.int pl.w), some (.int pl.h), ?_, s010⟩)
        unfold stepL stepR
        rw [if_neg tou, if_neg tou, ite_self, ite_self]
        rfl
    · rintro σ H9 ⟨v6, v7, v8, v9, v10, v11, v12, rfl, s9⟩
      rw [List.length_map, lp, List.take_length, foldL_ed hin hle (by decide), foldR_ed hin hle (by decide)]
      refine ⟨_, rfl, _, rfl, _, rfl, _, _, rfl, rfl, smallE (by simp), fun t ht => k t _ (s9.free ht) (Same.put s9 (s9.free ht)) upd_same⟩
end
end B71
namespace B71
open PySem L2 S2
theorem kit_list {K : PySem.W.Frag} : PySem.W.kitOne K (.type "list") (.type "list") = some true := by rfl
theorem kit_tup {K : PySem.W.Frag} : PySem.W.kitOne K (.type "tuple") (.type "tuple") = some true := by rfl
theorem StAt.get {H : Hp} {l : Addr} {ta : List Addr} {ts : List Str3} (h : StAt H l ta ts) {i : Nat} {x : Str3} (hx : ts[i]? = some x) : ∃ p, ta[i]? = some p ∧ H p = some (.tup (s3V x)) := by
  have hl : ta.length = ts.length := by rw [h.2.1, List.length_map]
  have hi : i < ta.length := by rw [hl]; exact get_lt hx
  exact ⟨ta[i], List.getElem?_eq_getElem hi, h.2.2 i _ _ (List.getElem?_eq_getElem hi) (by rw [List.getElem?_map, hx]; rfl)⟩
theorem StAt.last {H : Hp} {l : Addr} {ta : List Addr} {ts : List Str3} (h : StAt H l ta ts) {x : Str3} (hx : ts.getLast? = some x) : ∃ p, atI (ta.map V.ref) (-1) = some (.ref p) ∧ H p = some (.tup (s3V x)) := by
  have hl : ta.length = ts.length := by rw [h.2.1, List.length_map]
  rw [List.getLast?_eq_getElem?] at hx
  obtain ⟨p, ep, hp⟩ := h.get hx
  have hne : ta ≠ [] := fun z => by rw [z] at ep; simp at ep
  refine ⟨p, ?_, hp⟩
  have e : ta = ta.dropLast ++ [ta.getLast hne] := (List.dropLast_concat_getLast hne).symm
  have ep2 : ta.getLast hne = p := by
    rw [← hl] at ep
    have := List.getLast?_eq_getElem? (l := ta)
    rw [ep, List.getLast?_eq_some_getLast hne] at this
    exact Option.some.inj this
  rw [ep2] at e
  rw [e, List.map_append]
  exact atI_last _ _
def spInOrder : Sp := fun vs H Q _ => ∃ (t le : Addr) (ta : List Addr) (ts : List Str3) (es : List Int) (W r : Int), vs = [.ref t, .int W, .ref le] ∧ StAt H t ta ts ∧ ts.length ≤ 100 ∧ H le = some (.lst (es.map V.int)) ∧ es.length ≤ 100 ∧ (∃ e t', ts = (0, e) :: t') ∧ ts.getLast? = some (r, 0, W) ∧
  (∀ k a b, ts[k]? = some a → ts[k + 1]? = some b → a.1 < b.1 ∧ a.2 ≠ b.2) ∧ (r = 0 ∨ ∃ e ∈ es, r ≤ e) ∧ ∀ H', Same H H' → Q (.bl true) H'
theorem scInOrder : FnScope ["_law_told", "_law_wide", "_law_ends", "_law_k", "_law_triple"] ["_law_told", "_law_wide", "_law_ends"] (defScope sLInOrder) := ⟨rfl, rfl, rfl, by decide +kernel, rfl, by decide +kernel, by decide +kernel⟩
section
variable {P : Program} {w : World} {K : PySem.W.Frag} {mg : Str → Option Value} {base : Heap}
set_option maxHeartbeats 4000000 in
theorem ok_inOrder {f : Addr} {fd : FuncData} (F : Fun K "_law_in_order" "_law_in_order" sLInOrder f fd) (N : Names mg) : FnOk P w K mg base CX0 1 f fd ["_law_told", "_law_wide", "_law_ends"] spInOrder := by
  refine F.ok scInOrder (fun vs H Q E h => ?_) (fun cdv A outer s H vs Q E hr h => ?_)
  · obtain ⟨t, le, ta, ts, es, W, r, e, _⟩ := h
    rw [e]
    rfl
  · obtain ⟨t, le, ta, ts, es, W, r, e, hT, h100, hE, e100, hfst, hlast, hnb, hmax, k⟩ := h
    subst e
    have hu : (A.deeper (PyProof.Rows.envOfC "_law_in_order" (defScope sLInOrder) s.heap.objs.size f cdv)).units + 20 < cLine := by have := hr.units; omega
    have lta : ta.length = ts.length := by rw [hT.2.1, List.length_map]
    refine ⟨_, pss_cons (ps_if (pw_or (pt_not (pt_val (pe_callB call_isinst (by rfl) N.inst PyProof.Rows.boot_isinstance (pa_cons (pv 0) (pa_cons (pe_bltn (v := .ty "list") (by rfl) N.list PyProof.Rows.boot_list rfl (by decide)) pa_nil))))) (pw_or (pt_cmpR (op_eqNil hu) (pv 0) (pe_lst pa_nil) (nomark _))
          (pw_or (pt_cmpR op_ne (pe_ix ix_tup (pe_ix ix_list (pv 0) pe_int (fun _ _ => rfl)) pe_int (fun _ _ => rfl)) pe_int (nomark _)) (pw_or1 (pt_cmpR (op_neDeep hu) (pe_slice sl_tup (pe_ix ix_list (pv 0) (pe_un un_neg pe_int) (fun _ _ => rfl)) (po_some pe_int) po_none) (pe_tup (pa_cons pe_int (pa_cons (pv 1) pa_nil))) (nomark _)))))).pt (pss_one (ps_ret pe_bl)) pss_nil)
      (pss_cons (ps_for PassesOwn.never rfl (pi_enL0 rfl N.enum (pa_cons (pv 0) pa_nil)) (pg_tup rfl (pgs_cons (pg_name (i := 3) scInOrder.nd rfl (Or.inl rfl)) (pgs_cons (pg_name (i := 4) scInOrder.nd rfl (Or.inl rfl)) pgs_nil)))
        (pss_cons (ps_if (pw_or (pt_not (pt_val (pe_callB call_isinst (by rfl) N.inst PyProof.Rows.boot_isinstance (pa_cons (pv 4) (pa_cons (pe_bltn (v := .ty "tuple") (by rfl) N.tuple PyProof.Rows.boot_tuple rfl (by decide)) pa_nil))))) (pw_or1 (pt_cmpR op_ne (pe_callB call_len_seq (by rfl) N.len PySem.boot_len (pa_cons (pv 4) pa_nil)) pe_int (nomark _)))).pt (pss_one (ps_ret pe_bl)) pss_nil)
        (pss_one (ps_if (pw_and (pt_cmpR op_gt (pv 3) pe_int (nomark _)) (pw_and1 (pw_or (pt_cmpR op_le (pe_ix ix_tup (pv 4) pe_int (fun _ _ => rfl)) (pe_ix ix_tup (pe_ix ix_list (pv 0) (pe_op op_sub (pv 3) pe_int) (fun _ _ => rfl)) pe_int (fun _ _ => rfl)) (nomark _))
            (pw_or1 (pt_cmpR (op_eqDeep hu) (pe_slice sl_tup (pv 4) (po_some pe_int) po_none) (pe_slice sl_tup (pe_ix ix_list (pv 0) (pe_op op_sub (pv 3) pe_int) (fun _ _ => rfl)) (po_some pe_int) po_none) (nomark _)))).pt)).pt (pss_one (ps_ret pe_bl)) pss_nil))))
      (pss_one (ps_ret (pe_cmpR op_le (pe_ix ix_tup (pe_ix ix_list (pv 0) (pe_un un_neg pe_int) (fun _ _ => rfl)) pe_int (fun _ _ => rfl)) (pe_callB (call_maxL rfl) (by rfl) N.max PyProof.Rows.boot_max (pa_cons (pe_op op_cat (pe_lst (pa_cons pe_int pa_nil)) (pv 2)) pa_nil)) (nomark _))))), ?_⟩
    obtain ⟨e0, t0, ets⟩ := hfst
    obtain ⟨p0, ep0, hp0⟩ := hT.get (i := 0) (x := (0, e0)) (by rw [ets]; rfl)
    refine ⟨_, rfl, _, "list", _, _, rfl, TyOf.lst hT.1, kit_list, _, rfl, iteF ?_⟩
    refine ⟨_, rfl, smallE (by simp), fun q hq => ⟨t, q, _, rfl, rfl, SqL.of ((upd_ne (fun z => by rw [← z, hT.1] at hq; cases hq)).trans hT.1), SqL.of upd_same, _, rfl, ?_⟩⟩
    have s1 : Same H (upd H q (.lst [])) := Same.put (Same.refl _) hq
    generalize upd H q (.lst []) = H1 at *
    have hne : (ta.map V.ref).isEmpty = false := by
      cases ta with
      | nil => simp at ep0
      | cons => rfl
    rw [hne]
    have hT1 := hT.same s1
    refine iteF ⟨_, rfl, t, _, _, _, rfl, rfl, SqL.of hT1.1, atI_nat (j := 0) (by rw [List.getElem?_map, ep0]; rfl), p0, _, _, _, rfl, rfl, SqT.of (s1 _ _ hp0), atI_nat (j := 0) rfl, rfl, _, rfl, ?_⟩
    obtain ⟨pl1, al1, hl1⟩ := hT1.last hlast
    refine iteF ⟨_, rfl, _, rfl, t, _, _, _, rfl, rfl, SqL.of hT1.1, al1, _, rfl, pl1, _, rfl, SqT.of hl1, fun z => absurd z.1 (show HT.sIx 3 0 (some 1) ≠ 0 by decide), fun p2 hp2 => ?_⟩
    rw [cut3]
    have s2 : Same H1 (upd H1 p2 (.tup [.int 0, .int W])) := Same.put (Same.refl _) hp2
    have h2 : (upd H1 p2 (.tup [.int 0, .int W])) p2 = some (.tup [.int 0, .int W]) := upd_same
    generalize upd H1 p2 (.tup [.int 0, .int W]) = H2 at *
    refine ⟨_, rfl, smallE (by simp), fun p3 hp3 => ?_⟩
    have s3 : Same H2 (upd H2 p3 (.tup [.int 0, .int W])) := Same.put (Same.refl _) hp3
    have h3 : (upd H2 p3 (.tup [.int 0, .int W])) p3 = some (.tup [.int 0, .int W]) := upd_same
    generalize upd H2 p3 (.tup [.int 0, .int W]) = H3 at *
    have hT3 := hT1.same (s2.trans s3)
    have s03 := s1.trans (s2.trans s3)
    refine ⟨p2, p3, _, _, fun j => eqV ([V.int 0, .int W].getD j .non) ([V.int 0, .int W].getD j .non), rfl, rfl, .inr ⟨SqT.of (s3 _ _ h2), SqT.of h3⟩, rfl, ?_, _, rfl, ?_⟩
    · intro j x y hx hy
      match j, hx, hy with
      | 0, hx, hy => cases hx; cases hy; exact .flat rfl rfl
      | 1, hx, hy => cases hx; cases hy; exact .flat rfl rfl
    · have e2 := pair_eq (0, W) (0, W)
      rw [if_pos rfl, e2]
      rw [show (!decide (((0, W) : Int × Int) = (0, W))) = false by simp]
      refine iteF ⟨_, rfl, t, rfl, ⟨_, SqL.of hT3.1⟩, for_en (xs := ta.map V.ref) (fun i σ H9 => ∃ (v3 v4 : Option V), σ = [some (.ref t), some (.int W), some (.ref le), v3, v4] ∧ Same H H9) ⟨_, _, rfl, s03⟩ (fun i σ H9 _ ⟨_, _, _, s9⟩ => SqL.of (s9 _ _ hT.1)) ?_ ?_⟩
      · rintro i x p σ H9 hx hp ⟨v3, v4, rfl, s9⟩
        obtain ⟨q', r', rfl, ep, er, hq'⟩ := hT.2.get hx
        rw [List.getElem?_map] at er
        obtain ⟨y, ey, rfl⟩ := Option.map_eq_some_iff.mp er
        have s10 : Same H9 (upd H9 p (.tup [.int (0 + (i : Int)), .ref q'])) := Same.put (Same.refl _) hp
        have hp10 : (upd H9 p (.tup [.int (0 + (i : Int)), .ref q'])) p = some (.tup [.int (0 + (i : Int)), .ref q']) := upd_same
        generalize upd H9 p (.tup [.int (0 + (i : Int)), .ref q']) = H10 at *
        have s010 := s9.trans s10
        have hq10 := s010 _ _ hq'
        have hT10 := hT.same s010
        refine ⟨p, _, rfl, SqT.of hp10, rfl, _, _, rfl, _, _, rfl, rfl, ?_⟩
        refine ⟨_, rfl, _, "tuple", _, _, rfl, TyOf.tup hq10, kit_tup, _, rfl, iteF ?_⟩
        refine ⟨_, rfl, q', _, rfl, .inr (SqT.of hq10), rfl, _, rfl, iteF ?_⟩
        refine ⟨_, rfl, _, _, rfl, rfl, _, rfl, ?_⟩
        cases i with
        | zero =>
          rw [show decide ((0 : Int) + ((0 : Nat) : Int) > 0) = false by decide]
          exact iteF (iteF ⟨_, _, rfl, s010⟩)
        | succ i =>
          rw [show decide ((0 : Int) + ((i + 1 : Nat) : Int) > 0) = true from decide_eq_true (by omega)]
          obtain ⟨x', ex'⟩ : ∃ x', ts[i]? = some x' := ⟨ts[i]'(by have := get_lt ey; omega), List.getElem?_eq_getElem _⟩
          obtain ⟨pq, epq, hpq⟩ := hT10.get ex'
          obtain ⟨n1, n2⟩ := hnb i x' y ex' ey
          have hat : atI (ta.map V.ref) (0 + ((i + 1 : Nat) : Int) - 1) = some (.ref pq) := by
            rw [show (0 : Int) + ((i + 1 : Nat) : Int) - 1 = (i : Int) by omega]
            exact atI_nat (by rw [List.getElem?_map, epq]; rfl)
          refine iteT ⟨_, rfl, q', _, _, _, rfl, rfl, SqT.of hq10, atI_nat (j := 0) rfl, _, rfl, _, rfl, _, _, rfl, rfl, t, _, _, _, rfl, rfl, SqL.of hT10.1, hat, pq, _, _, _, rfl, rfl, SqT.of hpq, atI_nat (j := 0) rfl, _, _, rfl, rfl, _, rfl, ?_⟩
          rw [decide_eq_false (show ¬ y.1 ≤ x'.1 by omega)]
          refine iteF ⟨_, rfl, _, rfl, q', _, rfl, SqT.of hq10, fun z => absurd z.1 (show HT.sIx 3 0 (some 1) ≠ 0 by decide), fun p4 hp4 => ?_⟩
          rw [cut3]
          have s11 : Same H10 (upd H10 p4 (.tup [.int y.2.1, .int y.2.2])) := Same.put (Same.refl _) hp4
          have h11 : (upd H10 p4 (.tup [.int y.2.1, .int y.2.2])) p4 = some (.tup [.int y.2.1, .int y.2.2]) := upd_same
          generalize upd H10 p4 (.tup [.int y.2.1, .int y.2.2]) = H11 at *
          refine ⟨_, rfl, _, rfl, _, _, rfl, rfl, t, _, _, _, rfl, rfl, SqL.of (s11 _ _ hT10.1), hat, _, rfl, pq, _, rfl, SqT.of (s11 _ _ hpq), fun z => absurd z.1 (show HT.sIx 3 0 (some 1) ≠ 0 by decide), fun p5 hp5 => ?_⟩
          rw [cut3]
          have s12 : Same H11 (upd H11 p5 (.tup [.int x'.2.1, .int x'.2.2])) := Same.put (Same.refl _) hp5
          have h12 : (upd H11 p5 (.tup [.int x'.2.1, .int x'.2.2])) p5 = some (.tup [.int x'.2.1, .int x'.2.2]) := upd_same
          generalize upd H11 p5 (.tup [.int x'.2.1, .int x'.2.2]) = H12 at *
          refine ⟨p4, p5, _, _, fun j => eqV ([V.int y.2.1, .int y.2.2].getD j .non) ([V.int x'.2.1, .int x'.2.2].getD j .non), rfl, rfl, .inr ⟨SqT.of (s12 _ _ h11), SqT.of h12⟩, rfl, ?_, _, rfl, ?_⟩
          · intro j x y hx hy
            match j, hx, hy with
            | 0, hx, hy => cases hx; cases hy; exact .flat rfl rfl
            | 1, hx, hy => cases hx; cases hy; exact .flat rfl rfl
          · have e3 := pair_eq y.2 x'.2
            rw [if_neg (by simp), e3, decide_eq_false (fun z => n2 z.symm)]
            exact iteF ⟨_, _, rfl, s010.trans (s11.trans s12)⟩
      · rintro σ H9 ⟨v3, v4, rfl, s9⟩
        have hT9 := hT.same s9
        obtain ⟨pl2, al2, hl2⟩ := hT9.last hlast
        refine ⟨_, rfl, _, rfl, t, _, _, _, rfl, rfl, SqL.of hT9.1, al2, pl2, _, _, _, rfl, rfl, SqT.of hl2, atI_nat (j := 0) rfl, smallE (by simp), fun q5 hq5 => ?_⟩
        have s11 : Same H9 (upd H9 q5 (.lst [.int 0])) := Same.put (Same.refl _) hq5
        have h11 : (upd H9 q5 (.lst [.int 0])) q5 = some (.lst [.int 0]) := upd_same
        generalize upd H9 q5 (.lst [.int 0]) = H11 at *
        refine ⟨_, rfl, q5, le, _, _, rfl, rfl, h11, s11 _ _ (s9 _ _ hE), smallE (by simp; omega), fun q6 hq6 => ?_⟩
        refine ⟨q6, 0 :: es, rfl, SqL.of upd_same, by simp, fun M hM hall => ?_⟩
        refine ⟨_, _, rfl, rfl, ?_⟩
        have hr' : r ≤ M := by
          rcases hmax with z | ⟨e, he, hle⟩
          · rw [z]; exact hall 0 (List.mem_cons_self ..)
          · exact Int.le_trans hle (hall e (List.mem_cons_of_mem _ he))
        show Q (.bl (decide (r ≤ M))) _
        rw [decide_eq_true hr']
        exact k _ (Same.put (s9.trans s11) ((s9.trans s11).free hq6))
end
end B71
namespace B71
open PySem L2 S2
theorem rep_ext {f : Nat → Int} {v : Int} {p : Nat} : ∀ d : Nat, (∀ r, p ≤ r → r < p + d → f r = v) → (List.range p).map f ++ List.replicate d v = (List.range (p + d)).map f
  | 0, _ => by simp
  | d + 1, h => by
    rw [List.replicate_succ', ← List.append_assoc, rep_ext d fun r h1 h2 => h r h1 (by omega), show p + (d + 1) = (p + d) + 1 by omega, List.range_succ, List.map_append, List.map_cons, List.map_nil, h (p + d) (by omega) (by omega)]
theorem wid_go {f : Nat → Int} {m : Nat} : ∀ (a : Str3) (rest : List Str3), (a :: rest).Pairwise (fun x y => x.1 < y.1) → 0 ≤ a.1 →
    (∀ (r k : Nat) (x : Str3), (a :: rest)[k]? = some x → x.1 ≤ (r : Int) → (∀ c, (a :: rest)[k + 1]? = some c → (r : Int) < c.1) → x.2.2 = f r) →
    ∀ ws : List Int, ws = (List.range (if (m : Int) < a.1 then m else a.1.toNat)).map f → (((a :: rest).zip (endsOf (a :: rest) m)).foldl (widStep m) ws) = (List.range m).map f
  | a, [], hr, h0, hc, ws, hw => by
    show widStep m ws (a, (m : Int)) = _
    have hl : ws.length = (if (m : Int) < a.1 then m else a.1.toNat) := by rw [hw, List.length_map, List.length_range]
    unfold widStep
    dsimp only
    rw [hl, if_neg (Int.lt_irrefl _), hw]
    generalize hq : (if (m : Int) < a.1 then m else a.1.toNat) = q at *
    have hqm : q ≤ m := by rw [← hq]; split <;> omega
    rw [show ((m : Int) - (q : Int)).toNat = m - q by omega, rep_ext (m - q), show q + (m - q) = m by omega]
    intro r h1 h2
    exact (hc r 0 a rfl (by split at hq <;> omega) (fun c e => by simp at e)).symm
  | a, b :: rest, hr, h0, hc, ws, hw => by
    show ((b :: rest).zip (endsOf (b :: rest) m)).foldl (widStep m) (widStep m ws (a, b.1)) = _
    have hab : a.1 < b.1 := (List.pairwise_cons.mp hr).1 b List.mem_cons_self
    refine wid_go b rest (List.pairwise_cons.mp hr).2 (by omega) (fun r k x h1 h2 h3 => hc r (k + 1) x (by simpa using h1) h2 fun c e => h3 c (by simpa using e)) _ ?_
    have hl : ws.length = (if (m : Int) < a.1 then m else a.1.toNat) := by rw [hw, List.length_map, List.length_range]
    unfold widStep
    dsimp only
    rw [hl, hw]
    have e : ((if (m : Int) < b.1 then (m : Int) else b.1) - (((if (m : Int) < a.1 then m else a.1.toNat) : Nat) : Int)).toNat = (if (m : Int) < b.1 then m else b.1.toNat) - (if (m : Int) < a.1 then m else a.1.toNat) := by
      split <;> split <;> omega
    rw [e, rep_ext]
    · congr 2
      split <;> split <;> omega
    · intro r h1 h2
      have h12 : a.1 ≤ (r : Int) ∧ (r : Int) < b.1 := by
        by_cases c1 : (m : Int) < a.1 <;> by_cases c2 : (m : Int) < b.1 <;> simp only [c1, c2, ↓reduceIte] at h1 h2 <;> omega
      refine (hc r 0 a rfl h12.1 fun c ec => ?_).symm
      have : b = c := by simpa using ec
      subst this
      exact h12.2
theorem wid_told {W : Int} {fls : List Fl} {pls : List Pl} {ts : List Str3} (h : Told W fls pls ts) (m : Nat) : wid ts (m : Int) = (List.range m).map fun (r : Nat) => (eF W fls pls (r : Int)).2 := by
  obtain ⟨e, t', rfl⟩ := h.fst
  unfold wid
  refine wid_go (0, e) t' h.rise (Int.le_refl _) (fun r k x h1 h2 h3 => by rw [h.cov (r : Int) (by omega) k x h1 h2 h3]) [] ?_
  show [] = _
  rw [if_neg (show ¬ ((m : Int) < 0) by omega)]
  rfl
theorem wid_bare (W : Int) (m : Nat) : wid [(0, 0, W)] (m : Int) = List.replicate m W := by
  show [] ++ List.replicate ((if (m : Int) < (m : Int) then (m : Int) else (m : Int)) - 0).toNat W = _
  rw [if_neg (Int.lt_irrefl _), List.nil_append, Int.sub_zero, Int.toNat_natCast]
theorem free_told {W : Int} {fls : List Fl} {pls : List Pl} {row : Int} (hl : pls.length ≤ fls.length) {p : Pl} (hp : p ∈ pls) (h1 : p.y ≤ row) (h2 : row < p.y + p.h) (h3 : p.x < (eF W fls pls row).1 + (eF W fls pls row).2) (h4 : (eF W fls pls row).1 < p.x + p.w) : False := by
  obtain ⟨i, hi, rfl⟩ := List.mem_iff_getElem.mp hp
  have e : gP pls i = pls[i] := gP_of (List.getElem?_eq_getElem hi)
  have ht : touB (gP pls i) row 1 = true := by rw [e]; exact touB_iff.mpr ⟨by omega, by omega, h2, by omega⟩
  unfold eF at h3 h4
  dsimp only at h3 h4
  cases sd : (gF fls i).lf with
  | true =>
    have := edL_ge (mem_tIdx.mpr ⟨by omega, hi, sd, ht⟩)
    rw [e] at this
    omega
  | false =>
    have := edR_le (W := W) (mem_tIdx.mpr ⟨by omega, hi, sd, ht⟩)
    rw [e] at this
    omega
theorem eqRefs {K : PySem.W.Frag} {H : Hp} {n : Nat} {as : List Addr} : ∀ (j : Nat) (x y : V), (as.map V.ref)[j]? = some x → (as.map V.ref)[j]? = some y → EqD K H n x y true := fun j x y e1 e2 => by
  rw [e1] at e2
  cases e2
  rw [List.getElem?_map] at e1
  obtain ⟨p, _, rfl⟩ := Option.map_eq_some_iff.mp e1
  exact .same
theorem eqInts {K : PySem.W.Frag} {H : Hp} {n : Nat} {zs : List Int} : ∀ (j : Nat) (x y : V), (zs.map V.int)[j]? = some x → (zs.map V.int)[j]? = some y → EqD K H n x y true := fun j x y e1 e2 => by
  rw [e1] at e2
  cases e2
  rw [List.getElem?_map] at e1
  obtain ⟨p, _, rfl⟩ := Option.map_eq_some_iff.mp e1
  exact EqD.refl rfl
def endV (H : Hp) : V → V
  | .ref p => match H p with
    | some (.tup [_, _, .int y, _, .int h]) => .int (y + h)
    | _ => .non
  | _ => .non
theorem endV_of {H : Hp} {p : Addr} {x : Pl} (h : H p = some (.tup (plRow x))) : endV H (.ref p) = .int (x.y + x.h) := by
  unfold endV
  dsimp only
  rw [h]
  rfl
theorem ends_map {H : Hp} {b : Addr} {pa : List Addr} {pls : List Pl} (h : PlAt H b pa pls) : (pa.map V.ref).map (endV H) = (pls.map fun p => p.y + p.h).map V.int := by
  have lp : pa.length = pls.length := by rw [h.2.1.1, List.length_map]
  apply List.ext_getElem?
  intro i
  rw [List.getElem?_map, List.getElem?_map, List.getElem?_map, List.getElem?_map]
  cases hp : pa[i]? with
  | none =>
    have h1 := List.getElem?_eq_none_iff.mp hp
    rw [List.getElem?_eq_none (l := pls) (by omega)]
    rfl
  | some p =>
    have hi : i < pls.length := by rw [← lp]; exact get_lt hp
    have hy := h.2.1.2 i p _ hp (by rw [List.getElem?_map, List.getElem?_eq_getElem hi]; rfl)
    rw [List.getElem?_eq_getElem hi]
    show some (endV H (.ref p)) = some (.int _)
    rw [endV_of hy]
theorem while_ex {c : TT} {tb : TS} {D : Ends} {σ : St} {H : Hp} (W : Nat → St → Hp → Prop) (Ex : St → Hp → Prop) {m0 : Nat} (h0 : W m0 σ H) (out : ∀ σ H, Ex σ H → D.nx σ H)
    (turn : ∀ R : St → Hp → Prop, (∀ σ H, Ex σ H → R σ H) → ∀ m σ H, W m σ H → c σ H fun b H1 => if b = true then ∃ N : St → Hp → Prop, (∀ σ' H', N σ' H' → ∃ m', m' < m ∧ W m' σ' H') ∧ tb { D with nx := N, ct := N, bk := D.nx } σ H1 else R σ H1) : tWhile c tb D σ H :=
  ⟨W, ⟨m0, h0⟩, turn D.nx out⟩
end B71
namespace B71
open PySem L2 S2
theorem side_at (z : Int) : ∃ b : Bool, atI [V.str "left", V.str "right"] (z % 2) = some (V.str (sideOf b)) := by
  obtain ⟨i, e, hi⟩ := nat_of (z := z % 2) (n := 2) (by omega) (by omega)
  match i, hi, e with
  | 0, _, e => exact ⟨true, atI_of e rfl⟩
  | 1, _, e => exact ⟨false, atI_of e rfl⟩
theorem cut_to' (xs : List V) (n : Nat) : cutV xs none (some (n : Int)) = xs.take n := by
  unfold cutV
  rw [HT.sIx_none, HT.sIx_nat, List.drop_zero, Nat.sub_zero]
  by_cases h : n ≤ xs.length
  · rw [Nat.min_eq_left h]
  · rw [Nat.min_eq_right (by omega), List.take_length, List.take_of_length_le (by omega)]
def spLaw (K : PySem.W.Frag) : Sp := fun vs H Q _ => ∃ (a : Addr) (ns : List Int), vs = [.ref a] ∧ SqL K H a (ns.map V.int) ∧ ns.length ≤ 63 ∧ ∀ H', Q (.bl true) H'
section
variable {P : Program} {w : World} {K : PySem.W.Frag} {mg : Str → Option Value} {base : Heap}
abbrev nLaw : List Str := ["_law_script", "_law_wide", "_law_names_here", "_law_floats", "_law_k", "_law_cell", "_law_some", "_law_standing", "_law_held", "_law_told", "_law_many", "_law_due", "_law_at", "_law_row"]
theorem scLaw : FnScope nLaw ["_law_script"] (defScope sLaw) := ⟨rfl, rfl, rfl, by decide +kernel, rfl, by decide +kernel, by decide +kernel⟩
set_option maxHeartbeats 8000000 in
theorem ok_law {f f1 f2 f3 fA fS fO fR fF fW : Addr} {fd d1 d2 d3 dA dS dO dR dF dW : FuncData} (F : Fun K "law" "law" sLaw f fd) (N : Names mg)
    (G1 : FnOk P w K mg base CX0 1 f1 d1 ["_law_script", "_law_k"] (spCell K)) (b1 : Binds K d1 ["_law_script", "_law_k"] []) (m1 : mg "_law_cell_at" = some (.ref f1)) (k1 : PySem.W.keepIn K (.ref f1) = true)
    (G2 : FnOk P w K mg base CX0 2 f2 d2 ["_law_cell", "_law_many"] spLNames) (b2 : Binds K d2 ["_law_cell", "_law_many"] []) (m2 : mg "_law_names" = some (.ref f2)) (k2 : PySem.W.keepIn K (.ref f2) = true)
    (G3 : FnOk P w K mg base CX0 1 f3 d3 ["_law_cell", "_law_many"] spNumbers) (b3 : Binds K d3 ["_law_cell", "_law_many"] []) (m3 : mg "_law_numbers" = some (.ref f3)) (k3 : PySem.W.keepIn K (.ref f3) = true)
    (GA : FnOk P w K mg base CX0 6 fA dA ["W", "floats"] spStandAll) (bA : Binds K dA ["W", "floats"] []) (mA : mg "stand_floats" = some (.ref fA)) (kA : PySem.W.keepIn K (.ref fA) = true)
    (GS : FnOk P w K mg base CX0 5 fS dS ["W", "floats", "standing"] spStretches) (bS : Binds K dS ["W", "floats", "standing"] []) (mS : mg "stretches" = some (.ref fS)) (kS : PySem.W.keepIn K (.ref fS) = true)
    (GO : FnOk P w K mg base CX0 1 fO dO ["_law_told", "_law_wide", "_law_ends"] spInOrder) (bO : Binds K dO ["_law_told", "_law_wide", "_law_ends"] []) (mO : mg "_law_in_order" = some (.ref fO)) (kO : PySem.W.keepIn K (.ref fO) = true)
    (GR : FnOk P w K mg base CX0 1 fR dR ["_law_wide", "_law_floats", "_law_standing", "_law_row"] spRowDue) (bR : Binds K dR ["_law_wide", "_law_floats", "_law_standing", "_law_row"] []) (mR : mg "_law_row_due" = some (.ref fR)) (kR : PySem.W.keepIn K (.ref fR) = true)
    (GF : FnOk P w K mg base CX0 1 fF dF ["_law_standing", "_law_row", "_law_x", "_law_width"] spFree) (bF : Binds K dF ["_law_standing", "_law_row", "_law_x", "_law_width"] []) (mF : mg "_law_free" = some (.ref fF)) (kF : PySem.W.keepIn K (.ref fF) = true)
    (GW : FnOk P w K mg base CX0 1 fW dW ["told", "many"] spWidths) (bW : Binds K dW ["told", "many"] []) (mW : mg "widths_of" = some (.ref fW)) (kW : PySem.W.keepIn K (.ref fW) = true) :
    FnOk P w K mg base CX0 7 f fd ["_law_script"] (spLaw K) := by
  refine F.ok scLaw (fun vs H Q E h => ?_) (fun cdv A outer s H vs Q E hr h => ?_)
  · obtain ⟨a, ns, e, _⟩ := h
    rw [e]
    rfl
  · obtain ⟨a, ns, e, hS, hn, k⟩ := h
    subst e
    have hr1 := hr.mono (j := 1) (by decide)
    have hr2 := hr.mono (j := 2) (by decide)
    have hr5 := hr.mono (j := 5) (by decide)
    have hu : (A.deeper (PyProof.Rows.envOfC "law" (defScope sLaw) s.heap.objs.size f cdv)).units + 20 < cLine := by have := hr.units; omega
    refine ⟨_, pss_cons (ps_set (i := 1) scLaw.nd rfl (Or.inl rfl) (pe_op op_mod (pe_call G1 hr1 (by rfl) m1 k1 b1 .nil pass0 (pa_cons (pv 0) (pa_cons pe_int pa_nil))) pe_int))
      (pss_cons (ps_set (i := 2) scLaw.nd rfl (Or.inl rfl) (pe_call G2 hr2 (by rfl) m2 k2 b2 .nil pass0 (pa_cons (pe_call G1 hr1 (by rfl) m1 k1 b1 .nil pass0 (pa_cons (pv 0) (pa_cons pe_int pa_nil))) (pa_cons pe_int pa_nil))))
      (pss_cons (ps_set (i := 3) scLaw.nd rfl (Or.inl rfl) (pe_lst pa_nil))
      (pss_cons (ps_for PassesOwn.never rfl (pi_enL0 rfl N.enum (pa_cons (pe_slice sl_list (pe_slice sl_list (pv 0) (po_some pe_int) (po_some pe_int)) po_none (po_some (pe_op op_mul pe_int (pv 1)))) pa_nil)) (pg_tup rfl (pgs_cons (pg_name (i := 4) scLaw.nd rfl (Or.inl rfl)) (pgs_cons (pg_name (i := 5) scLaw.nd rfl (Or.inl rfl)) pgs_nil)))
        (pss_cons (ps_set (i := 6) scLaw.nd rfl (Or.inl rfl) (pe_call G3 hr1 (by rfl) m3 k3 b3 .nil pass0 (pa_cons (pv 5) (pa_cons pe_int pa_nil))))
        (pss_one (ps_expr (pe_bm PySem.F.plainAttrs_list PySem.F.slot_list_append PySem.F.type_list_append mt_append (pv 3) (pa_cons (pe_tup (pa_cons (pe_ix ix_list (pv 2) (pv 4) (fun _ _ => rfl)) (pa_cons (pe_ix ix_list (pe_lst (pa_cons pe_str (pa_cons pe_str pa_nil))) (pe_op op_mod (pe_ix ix_list (pv 6) pe_int (fun _ _ => rfl)) pe_int) (fun _ _ => rfl))
          (pa_cons (pe_op op_add pe_int (pe_op op_mod (pe_ix ix_list (pv 6) pe_int (fun _ _ => rfl)) (pv 1))) (pa_cons (pe_op op_add pe_int (pe_op op_mod (pe_ix ix_list (pv 6) pe_int (fun _ _ => rfl)) pe_int)) pa_nil))))) pa_nil))))))
      (pss_cons (ps_set (i := 7) scLaw.nd rfl (Or.inl rfl) (pe_ix ix_tup (pe_call GA hr (by rfl) mA kA bA .nil pass0 (pa_cons (pv 1) (pa_cons (pv 3) pa_nil))) pe_int (fun _ _ => rfl)))
      (pss_cons (ps_set (i := 8) scLaw.nd rfl (Or.inl rfl) (pe_lst (pa_cons (pe_callTy call_list_of (by rfl) N.list PyProof.Rows.boot_list (pa_cons (pv 3) pa_nil)) (pa_cons (pe_callTy call_list_of (by rfl) N.list PyProof.Rows.boot_list (pa_cons (pv 7) pa_nil)) pa_nil))))
      (pss_cons (ps_set (i := 9) scLaw.nd rfl (Or.inl rfl) (pe_call GS hr5 (by rfl) mS kS bS .nil pass0 (pa_cons (pv 1) (pa_cons (pe_ix ix_list (pv 8) pe_int (fun _ _ => rfl)) (pa_cons (pe_ix ix_list (pv 8) pe_int (fun _ _ => rfl)) pa_nil)))))
      (pss_cons (ps_if (pw_or (pt_not (pt_val (pe_call GO hr1 (by rfl) mO kO bO .nil pass0 (pa_cons (pv 9) (pa_cons (pv 1) (pa_cons (pe_comp (compSc_mk (fs := defScope sLaw) (N := nLaw) rfl rfl (by decide +kernel)) rfl (pi_list (pv 7)) (fun _ _ _ _ _ => pts_nil) (fun _ _ _ _ _ => pe_op op_add (pe_ix (r := rIxT K) ix_tup (pv 0) pe_int (fun _ _ => rfl)) (pe_ix (r := rIxT K) ix_tup (pv 0) pe_int (fun _ _ => rfl)))) pa_nil)))))) (pw_or1 (pt_cmpR (op_neDeep hu) (pv 8) (pe_lst (pa_cons (pv 3) (pa_cons (pv 7) pa_nil))) (nomark _)))).pt (pss_one (ps_ret pe_bl)) pss_nil)
      (pss_cons (ps_set (i := 10) scLaw.nd rfl (Or.inl rfl) (pe_op op_mod (pe_call G1 hr1 (by rfl) m1 k1 b1 .nil pass0 (pa_cons (pv 0) (pa_cons pe_int pa_nil))) pe_int))
      (pss_cons (ps_set (i := 11) scLaw.nd rfl (Or.inl rfl) (pe_lst pa_nil))
      (pss_cons (ps_set (i := 12) scLaw.nd rfl (Or.inl rfl) pe_int)
      (pss_cons (ps_for PassesOwn.never rfl (pi_range1 (by rfl) N.range (pa_cons pe_int pa_nil)) (pg_name (i := 13) scLaw.nd rfl (Or.inl rfl))
        (pss_cons (ps_while PassesOwn.never (pw_and (pt_cmpR op_lt (pe_op op_add (pv 12) pe_int) (pe_callB call_len_seq (by rfl) N.len PySem.boot_len (pa_cons (pv 9) pa_nil)) (nomark _)) (pw_and1 (pt_cmpR op_le (pe_ix ix_tup (pe_ix ix_list (pv 9) (pe_op op_add (pv 12) pe_int) (fun _ _ => rfl)) pe_int (fun _ _ => rfl)) (pv 13) (nomark _)))).pt
          (pss_one (ps_set (i := 12) scLaw.nd rfl (Or.inl rfl) (pe_op op_add (pv 12) pe_int))))
        (pss_cons (ps_if (pt_cmpR (op_neDeep hu) (pe_slice sl_tup (pe_ix ix_list (pv 9) (pv 12) (fun _ _ => rfl)) (po_some pe_int) po_none) (pe_call GR hr1 (by rfl) mR kR bR .nil pass0 (pa_cons (pv 1) (pa_cons (pv 3) (pa_cons (pv 7) (pa_cons (pv 13) pa_nil))))) (nomark _)) (pss_one (ps_ret pe_bl)) pss_nil)
        (pss_cons (ps_if (pt_not (pt_val (pe_call GF hr1 (by rfl) mF kF bF .nil pass0 (pa_cons (pv 7) (pa_cons (pv 13) (pa_cons (pe_ix ix_tup (pe_ix ix_list (pv 9) (pv 12) (fun _ _ => rfl)) pe_int (fun _ _ => rfl)) (pa_cons (pe_ix ix_tup (pe_ix ix_list (pv 9) (pv 12) (fun _ _ => rfl)) pe_int (fun _ _ => rfl)) pa_nil))))))) (pss_one (ps_ret pe_bl)) pss_nil)
        (pss_one (ps_expr (pe_bm PySem.F.plainAttrs_list PySem.F.slot_list_append PySem.F.type_list_append mt_append (pv 11) (pa_cons (pe_ix ix_tup (pe_ix ix_list (pv 9) (pv 12) (fun _ _ => rfl)) pe_int (fun _ _ => rfl)) pa_nil))))))))
      (pss_one (ps_ret (pe_and (pe_cmpR (op_eqDeep hu) (pe_call GW hr1 (by rfl) mW kW bW .nil pass0 (pa_cons (pv 9) (pa_cons (pv 10) pa_nil))) (pe_slice sl_list (pv 11) po_none (po_some (pv 10))) (nomark _))
        (pe_one (pe_cmpR (op_eqDeep hu) (pe_call GW hr1 (by rfl) mW kW bW .nil pass0 (pa_cons (pe_lst (pa_cons (pe_tup (pa_cons pe_int (pa_cons pe_int (pa_cons (pv 1) pa_nil)))) pa_nil)) (pa_cons (pv 10) pa_nil))) (pe_op op_rep (pe_lst (pa_cons (pv 1) pa_nil)) (pv 10)) (nomark _))))))))))))))))), ?_⟩
    refine ⟨_, rfl, a, 1, ns, rfl, hS, hn, fun zc => ?_⟩
    refine ⟨_, _, rfl, rfl, (by show (0 : Int) < 21; decide), ?_⟩
    have hW0 : 0 ≤ zc % 21 := by omega
    have hW20 : zc % 21 < 21 := by omega
    refine ⟨_, rfl, a, 0, ns, rfl, hS, hn, fun z0 => ⟨z0, 12, rfl, by decide, fun ln nms H2 hln s2 h2 hnm => ?_⟩⟩
    refine ⟨smallE (by simp), fun l hl => ?_⟩
    have fl0' : H l = none := s2.free hl
    have lnl' : ln ≠ l := fun z => by rw [← z, h2] at hl; cases hl
    have s3 : Same H2 (upd H2 l (.lst [])) := Same.put (Same.refl _) hl
    have h3 : (upd H2 l (.lst [])) l = some (.lst []) := upd_same
    generalize upd H2 l (.lst []) = H3 at *
    have s03 := s2.trans s3
    refine ⟨_, rfl, _, rfl, _, rfl, a, _, rfl, s03.seq hS, fun lc hlc => ?_⟩
    have ecut : cutV (ns.map V.int) (some 3) (some 15) = (cellsOf 3 15 ns).map V.int := cells_cut 3 15 ns
    have ecl := cells_len 3 15 ns
    rw [ecut]
    generalize cellsOf 3 15 ns = cs0 at *
    have s4 : Same H3 (upd H3 lc (.lst (cs0.map V.int))) := Same.put (Same.refl _) hlc
    have h4 : (upd H3 lc (.lst (cs0.map V.int))) lc = some (.lst (cs0.map V.int)) := upd_same
    generalize upd H3 lc (.lst (cs0.map V.int)) = H4 at *
    refine ⟨_, rfl, _, _, rfl, rfl, .inl ⟨by decide, by decide⟩, _, rfl, lc, _, rfl, SqL.of h4, fun l5 hl5 => ?_⟩
    have ecut2 : cutV (cs0.map V.int) none (some (12 * (zc % 21))) = (cs0.take (12 * (zc % 21)).toNat).map V.int := by
      rw [show (12 * (zc % 21)) = (((12 * (zc % 21)).toNat : Nat) : Int) by omega, cut_to', List.map_take, Int.toNat_natCast]
    rw [ecut2]
    have hcs : (cs0.take (12 * (zc % 21)).toNat).length ≤ 12 := by rw [List.length_take]; omega
    have hWp : cs0.take (12 * (zc % 21)).toNat ≠ [] → 0 < (zc % 21) := fun z => by
      rcases Int.lt_or_le 0 (zc % 21) with y | y
      · exact y
      · have e0 : (12 * (zc % 21)).toNat = 0 := by omega
        rw [e0] at z; simp at z
    generalize cs0.take (12 * (zc % 21)).toNat = cs at *
    have s5 : Same H4 (upd H4 l5 (.lst (cs.map V.int))) := Same.put (Same.refl _) hl5
    have h5 : (upd H4 l5 (.lst (cs.map V.int))) l5 = some (.lst (cs.map V.int)) := upd_same
    generalize upd H4 l5 (.lst (cs.map V.int)) = H5 at *
    have s25 := s3.trans (s4.trans s5)
    have hn5 := s25 _ _ h2
    have l5f := (s4.trans s5) _ _ h3
    have nl5 : l5 ≠ l := fun z => by rw [z, (s4 _ _ h3)] at hl5; cases hl5
    refine ⟨l5, rfl, ⟨_, SqL.of h5⟩, ?_⟩
    refine for_en (Sq := fun H xs => SqL K H l5 xs) (k := 0) (xs := cs.map V.int) (fun i σ H9 => ∃ (fa : List Addr) (fls : List Fl) (v4 v5 v6 v7 v8 v9 v10 v11 v12 v13 : Option V), σ = [some (.ref a), some (.int (zc % 21)), some (.ref ln), some (.ref l), v4, v5, v6, v7, v8, v9, v10, v11, v12, v13] ∧ Same H2 H9 ∧ H9 l5 = some (.lst (cs.map V.int)) ∧ H9 l = some (.lst (fa.map V.ref)) ∧ RowsOf H9 fa (fls.map flRow) ∧ fls.length = i ∧ FlsOk (zc % 21) fls)
      ⟨[], [], _, _, _, _, _, _, _, _, _, _, rfl, s25, h5, l5f, RowsOf.nil, rfl, fun f hf => by cases hf⟩ (fun i σ H9 _ ⟨_, _, _, _, _, _, _, _, _, _, _, _, _, _, c9, _⟩ => SqL.of c9) ?_ ?_
    · rintro i x p σ H9 hx hp ⟨fa, fls, v4, v5, v6, v7, v8, v9, v10, v11, v12, v13, rfl, s9, c9, h9, hrow, hlen, hok⟩
      have hW : 0 < (zc % 21) := hWp (fun z => by rw [z] at hx; simp at hx)
      obtain ⟨z, rfl, hz⟩ := int_at hx
      have hi : i < cs.length := get_lt hz
      have s10 : Same H9 (upd H9 p (.tup [.int (0 + (i : Int)), .int z])) := Same.put (Same.refl _) hp
      have hp10 : (upd H9 p (.tup [.int (0 + (i : Int)), .int z])) p = some (.tup [.int (0 + (i : Int)), .int z]) := upd_same
      have h10 := s10 _ _ h9
      have r10 := hrow.same s10
      generalize upd H9 p (.tup [.int (0 + (i : Int)), .int z]) = H10 at *
      refine ⟨p, _, rfl, SqT.of hp10, rfl, _, _, rfl, _, _, rfl, rfl, ?_⟩
      refine ⟨_, rfl, z, 3, rfl, by decide, fun ls nn H11 hls s11 h11 hnn => ?_⟩
      have s0 := Same.trans s9 (Same.trans s10 s11)
      have hn11 := s0 _ _ h2
      have hl11 := s11 _ _ h10
      have r11 := r10.same s11
      have sl : ls ≠ l := fun z => by rw [z, h10] at hls; cases hls
      refine ⟨_, rfl, .inl ⟨rfl, _, SqL.of hl11⟩, ?_⟩
      have en : (nms.map V.str)[i]? = some (V.str (nms.getD i "")) := by
        rw [List.getElem?_map, List.getElem?_eq_getElem (by omega), List.getD_eq_getElem?_getD, List.getElem?_eq_getElem (by omega)]
        rfl
      refine ⟨_, rfl, _, rfl, ln, _, _, _, rfl, rfl, SqL.of hn11, atI_of (j := i) (by omega) en, (by show 2 ≤ sizeLine; decide), fun l2 hl2 => ?_⟩
      have s12 : Same H11 (upd H11 l2 (.lst [.str "left", .str "right"])) := Same.put (Same.refl _) hl2
      have h12 : (upd H11 l2 (.lst [.str "left", .str "right"])) l2 = some (.lst [.str "left", .str "right"]) := upd_same
      generalize upd H11 l2 (.lst [.str "left", .str "right"]) = H12 at *
      obtain ⟨b, hb⟩ := side_at (gi nn 0)
      refine ⟨_, rfl, ls, _, _, _, rfl, rfl, SqL.of (s12 _ _ h11), atI_nat (j := 0) (gi_at (by omega)), _, _, rfl, rfl, (by show (0 : Int) < 2; decide), l2, _, _, _, rfl, rfl, SqL.of h12, hb, ?_⟩
      refine ⟨_, rfl, ls, _, _, _, rfl, rfl, SqL.of (s12 _ _ h11), atI_nat (j := 1) (gi_at (by omega)), _, rfl, _, _, rfl, rfl, hW, _, _, rfl, rfl, ?_⟩
      refine ⟨_, rfl, ls, _, _, _, rfl, rfl, SqL.of (s12 _ _ h11), atI_nat (j := 2) (gi_at (by omega)), _, _, rfl, rfl, (by show (0 : Int) < 5; decide), _, _, rfl, rfl, (by show 4 ≤ sizeLine; decide), fun tp htp => ?_⟩
      have w1 : 0 ≤ gi nn 1 % (zc % 21) := Int.emod_nonneg _ (by omega)
      have w2 : gi nn 1 % (zc % 21) < (zc % 21) := Int.emod_lt_of_pos _ hW
      have hfl : 0 < (1 + gi nn 1 % (zc % 21)) ∧ 1 + gi nn 1 % (zc % 21) ≤ (zc % 21) ∧ 0 < 1 + gi nn 2 % 5 := ⟨by omega, by omega, by omega⟩
      let fl : Fl := ⟨nms.getD i "", b, 1 + gi nn 1 % (zc % 21), 1 + gi nn 2 % 5⟩
      have s13 : Same H12 (upd H12 tp (.tup (flRow fl))) := Same.put (Same.refl _) htp
      have h13 : (upd H12 tp (.tup (flRow fl))) tp = some (.tup (flRow fl)) := upd_same
      have hl13 := s13 _ _ (s12 _ _ hl11)
      have r13 := r11.same (Same.trans s12 s13)
      have lfa : fa.length = fls.length := by rw [hrow.1, List.length_map]
      refine (show ∃ l' _, _ from ?_)
      refine ⟨l, _, _, rfl, rfl, hl13, small (by rw [List.length_map]; omega), ?_⟩
      have S13 : Same H2 (upd H12 tp (.tup (flRow fl))) := Same.trans s0 (Same.trans s12 s13)
      refine (show ∃ fa' fls' v4 v5 v6 v7 v8 v9 v10 v11 v12 v13, _ from ⟨fa ++ [tp], fls ++ [fl], _, _, _, _, _, _, _, _, _, _, rfl, Same.put S13 hl, ?_, ?_, ?_, by rw [List.length_append, hlen]; rfl, ?_⟩)
      · exact (upd_ne nl5).trans (s13 _ _ (s12 _ _ (s11 _ _ (s10 _ _ c9))))
      · rw [upd_same, List.map_append]
        rfl
      · rw [List.map_append]
        exact RowsOf.snoc (r13.updL hl13) (Same.refl _) (by rw [upd_ne (ne_of h13 hl13 (by intro z; cases z))]; exact h13)
      · intro f hf
        rcases List.mem_append.mp hf with z | z
        · exact hok f z
        · rw [List.mem_singleton.mp z]
          exact hfl
    · rintro σ H9 ⟨fa, fls, v4, v5, v6, v7, v8, v9, v10, v11, v12, v13, rfl, s9, c9, h9, hrow, hlen, hok⟩
      have f12 : fls.length ≤ 12 := by rw [List.length_map] at hlen; omega
      have hF : FlAt H9 l fa fls := ⟨h9, hrow, by omega⟩
      have s09 := s2.trans s9
      refine ⟨_, rfl, _, rfl, l, fa, fls, zc % 21, rfl, hF, fun f hf => (hok f hf).2.1, fun t ls lp pa qa H10 hls hlp nlp s10 ht hPl _ _ _ => ?_⟩
      refine ⟨t, _, _, _, rfl, rfl, SqT.of ht, atI_nat (j := 0) rfl, ?_⟩
      have aln := (allF_len (zc % 21) fls fls.length).1
      have hin := (allF_ok hok fls.length (Nat.le_refl _)).2
      have hy0 := allF_y0 hok (Nat.le_refl fls.length)
      generalize (allF (zc % 21) fls fls.length).1 = pls at *
      generalize (allF (zc % 21) fls fls.length) = nothing at *
      have hF10 := hF.same s10
      have lpa : pa.length = fls.length := by rw [hPl.2.1.1, List.length_map, aln]
      refine ⟨_, rfl, l, _, rfl, .inl (SqL.of hF10.1), fun l1 hl1 => ?_⟩
      have s11 : Same H10 (upd H10 l1 (.lst (fa.map V.ref))) := Same.put (Same.refl _) hl1
      have h11 : (upd H10 l1 (.lst (fa.map V.ref))) l1 = some (.lst (fa.map V.ref)) := upd_same
      generalize upd H10 l1 (.lst (fa.map V.ref)) = H11 at *
      refine ⟨_, rfl, ls, _, rfl, .inl (SqL.of (s11 _ _ hPl.1)), fun l2 hl2 => ?_⟩
      have s12 : Same H11 (upd H11 l2 (.lst (pa.map V.ref))) := Same.put (Same.refl _) hl2
      have h12 : (upd H11 l2 (.lst (pa.map V.ref))) l2 = some (.lst (pa.map V.ref)) := upd_same
      generalize upd H11 l2 (.lst (pa.map V.ref)) = H12 at *
      refine ⟨(by show 2 ≤ sizeLine; decide), fun lh hlh => ?_⟩
      have s13 : Same H12 (upd H12 lh (.lst [.ref l1, .ref l2])) := Same.put (Same.refl _) hlh
      have h13 : (upd H12 lh (.lst [.ref l1, .ref l2])) lh = some (.lst [.ref l1, .ref l2]) := upd_same
      generalize upd H12 lh (.lst [.ref l1, .ref l2]) = H13 at *
      have s1013 := s11.trans (s12.trans s13)
      have hF13 := hF10.same s1013
      have hPl13 := hPl.same s1013
      have a13 : H13 l1 = some (.lst (fa.map V.ref)) := s13 _ _ (s12 _ _ h11)
      have b13 : H13 l2 = some (.lst (pa.map V.ref)) := s13 _ _ h12
      refine ⟨_, rfl, _, rfl, lh, _, _, _, rfl, rfl, SqL.of h13, atI_nat (j := 0) rfl, _, rfl, lh, _, _, _, rfl, rfl, SqL.of h13, atI_nat (j := 1) rfl, l1, l2, fa, pa, fls, pls, zc % 21, rfl, ⟨a13, hF13.2⟩, ⟨b13, hPl13.2⟩, by omega, fun tt ta bs H14 htt s14 hT hbs hbm hbl => ?_⟩
      have hTo := told_ok (fls := fls) hin hy0 hbs hbm hbl
      generalize sq (eF (zc % 21) fls pls) bs = ts at *
      have hF14 := hF13.same s14
      have hPl14 := hPl13.same s14
      have tl := hTo.len
      obtain ⟨rl, hrl, hrm⟩ := hTo.last
      have lta : ta.length = ts.length := by rw [hT.2.1, List.length_map]
      -- in order
      refine ⟨_, rfl, _, rfl, _, rfl, ls, rfl, ⟨_, SqL.of hPl14.1⟩, comp_list (K := K) (a := ls) (xs := pa.map V.ref) (endV H14) (SqL.of hPl14.1) (small (by rw [List.length_map]; omega)) (fun D i x l Q' hD hx hq => ?_) fun D hD => ?_⟩
      · obtain ⟨p, r, rfl, ep, er, hp⟩ := hPl14.2.1.get hx
        obtain ⟨pl, epl, rfl⟩ := row_map er
        rw [endV_of hp] at hq
        have hp' : (upd H14 D (.lst l)) p = some (.tup (plRow pl)) := (upd_ne (fun z => by rw [z, hD] at hp; cases hp)).trans hp
        exact ⟨_, rfl, p, _, _, _, rfl, rfl, SqT.of hp', atI_nat (j := 2) rfl, _, rfl, p, _, _, _, rfl, rfl, SqT.of hp', atI_nat (j := 4) rfl, _, _, rfl, rfl, hq⟩
      rw [ends_map hPl14]
      have s15 : Same H14 (upd H14 D (.lst ((pls.map fun p => p.y + p.h).map V.int))) := Same.put (Same.refl _) hD
      have h15 : (upd H14 D (.lst ((pls.map fun p => p.y + p.h).map V.int))) D = some (.lst ((pls.map fun p => p.y + p.h).map V.int)) := upd_same
      generalize upd H14 D (.lst ((pls.map fun p => p.y + p.h).map V.int)) = H15 at *
      refine ⟨tt, D, ta, ts, pls.map fun p => p.y + p.h, zc % 21, rl, rfl, hT.same s15, by omega, h15, by rw [List.length_map]; omega, hTo.fst, hrl, fun k x y ex ey => ⟨?_, hTo.unl k x y ex ey⟩, ?_, fun H16 s16 => ⟨_, rfl, iteF ?_⟩⟩
      · have hk := get_lt ey
        have h1 := (List.pairwise_iff_getElem.mp hTo.rise) k (k + 1) (by omega) hk (by omega)
        rw [List.getElem?_eq_getElem (by omega)] at ex ey
        rw [← Option.some.inj ex, ← Option.some.inj ey]
        exact h1
      · rcases hrm with z | ⟨p, hp, z⟩
        · exact .inl z
        · exact .inr ⟨_, List.mem_map_of_mem hp, z⟩
      -- held
      have s1416 := s15.trans s16
      have s1316 := s14.trans s1416
      refine ⟨_, rfl, _, rfl, _, rfl, (by show 2 ≤ sizeLine; decide), fun lg hlg => ?_⟩
      have s17 : Same H16 (upd H16 lg (.lst [.ref l, .ref ls])) := Same.put (Same.refl _) hlg
      have h17 : (upd H16 lg (.lst [.ref l, .ref ls])) lg = some (.lst [.ref l, .ref ls]) := upd_same
      generalize upd H16 lg (.lst [.ref l, .ref ls]) = H17 at *
      have s1317 := s1316.trans s17
      have hF17 := hF13.same s1317
      have hPl17 := hPl13.same s1317
      have hT17 := hT.same (s1416.trans s17)
      refine ⟨lh, lg, _, _, fun _ => true, rfl, rfl, .inl ⟨SqL.of (s1317 _ _ h13), SqL.of h17⟩, rfl, (fun j x y e1 e2 => ?_), _, rfl, ?_⟩
      · match j, e1, e2 with
        | 0, e1, e2 =>
          cases e1
          cases e2
          exact EqD.lstT (SqL.of (s1317 _ _ a13)) (SqL.of hF17.1) rfl eqRefs
        | 1, e1, e2 =>
          cases e1
          cases e2
          exact EqD.lstT (SqL.of (s1317 _ _ b13)) (SqL.of hPl17.1) rfl eqRefs
      rw [all_true_range]
      refine iteF ?_
      -- how many rows
      have s017 := s09.trans (s10.trans (s1013.trans s1317))
      refine ⟨_, rfl, a, 2, ns, rfl, s017.seq hS, hn, fun z2 => ?_⟩
      refine ⟨_, _, rfl, rfl, (by show (0 : Int) < 64; decide), ?_⟩
      obtain ⟨m, em, hm⟩ := nat_of (z := z2 % 64) (n := 64) (by omega) (by omega)
      refine ⟨smallE (by simp), fun ld hld => ?_⟩
      have s18 : Same H17 (upd H17 ld (.lst [])) := Same.put (Same.refl _) hld
      have h18 : (upd H17 ld (.lst [])) ld = some (.lst (((List.range 0).map fun (r : Nat) => (eF (zc % 21) fls pls (r : Int)).2).map V.int)) := upd_same
      generalize upd H17 ld (.lst []) = H18 at *
      obtain ⟨e0, t0, ets⟩ := hTo.fst
      refine ⟨_, rfl, by decide, by decide, ?_⟩
      refine for_range (n := 64) (fun i σ H9 => ∃ (kk : Nat) (x : Str3) (v4 v5 v6 v13 : Option V), σ = [some (.ref a), some (.int (zc % 21)), some (.ref ln), some (.ref l), v4, v5, v6, some (.ref ls), some (.ref lh), some (.ref tt), some (.int (z2 % 64)), some (.ref ld), some (.int (kk : Int)), v13] ∧ Same H17 H9 ∧ H9 ld = some (.lst (((List.range i).map fun (r : Nat) => (eF (zc % 21) fls pls (r : Int)).2).map V.int)) ∧ ts[kk]? = some x ∧ x.1 ≤ (i : Int))
        ⟨0, (0, e0), _, _, _, _, rfl, s18, h18, by rw [ets]; rfl, Int.le_refl _⟩ ?_ ?_
      · rintro i σ H19 hi ⟨kk, x, v4, v5, v6, v13, rfl, s19, h19, ex, hx⟩
        have hT19 := hT17.same s19
        have hF19 := hF17.same s19
        have hPl19 := hPl17.same s19
        refine while_ex (fun m' σ H20 => ∃ (kk : Nat) (x : Str3), σ = [some (.ref a), some (.int (zc % 21)), some (.ref ln), some (.ref l), v4, v5, v6, some (.ref ls), some (.ref lh), some (.ref tt), some (.int (z2 % 64)), some (.ref ld), some (.int (kk : Int)), some (.int (0 + (i : Int)))] ∧ H20 = H19 ∧ ts[kk]? = some x ∧ x.1 ≤ (i : Int) ∧ m' = ts.length - kk)
          (fun σ H20 => ∃ (kk : Nat) (x : Str3), σ = [some (.ref a), some (.int (zc % 21)), some (.ref ln), some (.ref l), v4, v5, v6, some (.ref ls), some (.ref lh), some (.ref tt), some (.int (z2 % 64)), some (.ref ld), some (.int (kk : Int)), some (.int (0 + (i : Int)))] ∧ H20 = H19 ∧ ts[kk]? = some x ∧ x.1 ≤ (i : Int) ∧ ∀ c, ts[kk + 1]? = some c → (i : Int) < c.1) (m0 := ts.length - kk) ⟨kk, x, rfl, rfl, ex, hx, rfl⟩ ?_ ?_
        · rintro σ H20 ⟨kk, x, rfl, rfl, ex, hx, hnx⟩
          obtain ⟨px, epx, hpx⟩ := hT19.get ex
          have hat : atI (ta.map V.ref) (kk : Int) = some (.ref px) := atI_nat (by rw [List.getElem?_map, epx]; rfl)
          have hcov := hTo.cov (i : Int) (by omega) kk x ex hx hnx
          refine ⟨_, rfl, _, rfl, tt, _, _, _, rfl, rfl, SqL.of hT19.1, hat, _, rfl, px, _, rfl, SqT.of hpx, fun z => absurd z.1 (show HT.sIx 3 0 (some 1) ≠ 0 by decide), fun p2 hp2 => ?_⟩
          rw [cut3, hcov]
          have s21 : Same H20 (upd H20 p2 (.tup [.int (eF (zc % 21) fls pls (i : Int)).1, .int (eF (zc % 21) fls pls (i : Int)).2])) := Same.put (Same.refl _) hp2
          have h21 : (upd H20 p2 (.tup [.int (eF (zc % 21) fls pls (i : Int)).1, .int (eF (zc % 21) fls pls (i : Int)).2])) p2 = some (.tup [.int (eF (zc % 21) fls pls (i : Int)).1, .int (eF (zc % 21) fls pls (i : Int)).2]) := upd_same
          generalize upd H20 p2 (.tup [.int (eF (zc % 21) fls pls (i : Int)).1, .int (eF (zc % 21) fls pls (i : Int)).2]) = H21 at *
          refine ⟨_, rfl, _, rfl, _, rfl, _, rfl, l, ls, fa, pa, fls, pls, zc % 21, (0 + (i : Int)), _, rfl, hF19.same s21, hPl19.same s21, by omega, hin, fun p3 H22 hp3 s22 h22 => ?_⟩
          rw [Int.zero_add] at h22
          refine ⟨p2, p3, _, _, fun j => true, rfl, rfl, .inr ⟨SqT.of (s22 _ _ h21), SqT.of h22⟩, rfl, ?_, _, rfl, ?_⟩
          · intro j x y hx hy
            rw [hx] at hy
            cases hy
            match j, hx with
            | 0, hx => cases hx; exact EqD.refl rfl
            | 1, hx => cases hx; exact EqD.refl rfl
          rw [all_true_range]
          refine iteF ?_
          have s2022 := s21.trans s22
          have hT22 := hT19.same s2022
          have hpx22 := s2022 _ _ hpx
          refine ⟨_, rfl, _, rfl, _, rfl, _, rfl, tt, _, _, _, rfl, rfl, SqL.of hT22.1, hat, px, _, _, _, rfl, rfl, SqT.of hpx22, atI_nat (j := 1) rfl, _, rfl, _, rfl, tt, _, _, _, rfl, rfl, SqL.of hT22.1, hat, px, _, _, _, rfl, rfl, SqT.of hpx22, atI_nat (j := 2) rfl, ?_⟩
          refine ⟨ls, pa, pls, (0 + (i : Int)), _, _, rfl, hPl19.same s2022, fun p hp h1 h2 h3 h4 => ?_, _, rfl, iteF ?_⟩
          · rw [hcov] at h3 h4
            rw [Int.zero_add] at h1 h2
            exact (free_told (by omega) hp h1 h2 h3 h4).elim
          have hld22 := s2022 _ _ h19
          refine ⟨_, rfl, .inl ⟨rfl, _, SqL.of hld22⟩, _, rfl, _, rfl, tt, _, _, _, rfl, rfl, SqL.of hT22.1, hat, px, _, _, _, rfl, rfl, SqT.of hpx22, atI_nat (j := 2) rfl, ld, _, _, rfl, rfl, hld22, small (by simp; omega), ?_⟩
          refine ⟨kk, x, _, _, _, _, rfl, Same.put (s19.trans s2022) hld, ?_, ex, by omega⟩
          rw [upd_same, hcov, List.range_succ, List.map_append, List.map_append]
          rfl
        · rintro R out m' σ H20 ⟨kk, x, rfl, rfl, ex, hx, rfl⟩
          refine ⟨_, rfl, _, _, rfl, rfl, _, rfl, tt, _, rfl, .inl (SqL.of hT19.1), _, _, rfl, rfl, _, rfl, ite2 (fun c1 => ?_) (fun c1 => iteF ?_)⟩
          · have c1' := of_decide_eq_true c1
            rw [List.length_map, lta] at c1'
            have hk1 : kk + 1 < ts.length := by omega
            have ey : ts[kk + 1]? = some ts[kk + 1] := List.getElem?_eq_getElem hk1
            obtain ⟨py, epy, hpy⟩ := hT19.get ey
            have haty : atI (ta.map V.ref) ((kk : Int) + 1) = some (.ref py) := atI_of (j := kk + 1) (by omega) (by rw [List.getElem?_map, epy]; rfl)
            refine ⟨_, rfl, _, rfl, _, _, rfl, rfl, tt, _, _, _, rfl, rfl, SqL.of hT19.1, haty, py, _, _, _, rfl, rfl, SqT.of hpy, atI_nat (j := 0) rfl, _, rfl, _, _, rfl, rfl, _, rfl, ite2 (fun c2 => ?_) (fun c2 => ?_)⟩
            · have c2' := of_decide_eq_true c2
              refine ⟨fun σ' H' => ∃ (kk' : Nat) (x : Str3), σ' = [some (.ref a), some (.int (zc % 21)), some (.ref ln), some (.ref l), v4, v5, v6, some (.ref ls), some (.ref lh), some (.ref tt), some (.int (z2 % 64)), some (.ref ld), some (.int (kk' : Int)), some (.int (0 + (i : Int)))] ∧ H' = H20 ∧ ts[kk']? = some x ∧ x.1 ≤ (i : Int) ∧ kk' = kk + 1, fun σ' H' ⟨kk', x', q1, q2, q3, q4, q5⟩ => ⟨ts.length - kk', by omega, kk', x', q1, q2, q3, q4, rfl⟩, ?_⟩
              refine ⟨_, rfl, _, _, rfl, rfl, ?_⟩
              exact ⟨kk + 1, _, by rw [Int.natCast_add]; rfl, rfl, ey, by omega, rfl⟩
            · refine out _ _ ⟨kk, x, rfl, rfl, ex, hx, fun c ec => ?_⟩
              rw [ey] at ec
              cases ec
              have : ¬ (ts[kk + 1].1 ≤ 0 + (i : Int)) := fun z => c2 (decide_eq_true z)
              omega
          · refine out _ _ ⟨kk, x, rfl, rfl, ex, hx, fun c ec => ?_⟩
            have h1 := get_lt ec
            exact absurd (decide_eq_true (by rw [List.length_map, lta]; omega)) c1
      · rintro σ H19 ⟨kk, x, v4, v5, v6, v13, rfl, s19, h19, ex, hx⟩
        have hT19 := hT17.same s19
        refine ⟨_, rfl, _, rfl, tt, ta, ts, z2 % 64, rfl, hT19, hTo.ne, by omega, by omega, by omega, fun y hy => ?_, fun lw H20 hlw s20 h20 => ?_⟩
        · rw [ets] at hy
          rcases List.mem_cons.mp hy with z | z
          · rw [z]; exact Int.le_refl _
          · have h1 := hTo.rise
            rw [ets] at h1
            have := (List.pairwise_cons.mp h1).1 y z
            dsimp only at this
            omega
        rw [em, wid_told hTo m] at h20
        refine ⟨_, rfl, _, rfl, _, rfl, ld, _, rfl, SqL.of (s20 _ _ h19), fun lc2 hlc2 => ?_⟩
        have ec : cutV (((List.range 64).map fun (r : Nat) => (eF (zc % 21) fls pls (r : Int)).2).map V.int) none (some (z2 % 64)) = ((List.range m).map fun (r : Nat) => (eF (zc % 21) fls pls (r : Int)).2).map V.int := by
          rw [em, cut_to', ← List.map_take, ← List.map_take, List.take_range, Nat.min_eq_left (by omega)]
        rw [ec]
        have s21 : Same H20 (upd H20 lc2 (.lst (((List.range m).map fun (r : Nat) => (eF (zc % 21) fls pls (r : Int)).2).map V.int))) := Same.put (Same.refl _) hlc2
        have h21 : (upd H20 lc2 (.lst (((List.range m).map fun (r : Nat) => (eF (zc % 21) fls pls (r : Int)).2).map V.int))) lc2 = some (.lst (((List.range m).map fun (r : Nat) => (eF (zc % 21) fls pls (r : Int)).2).map V.int)) := upd_same
        generalize upd H20 lc2 (.lst (((List.range m).map fun (r : Nat) => (eF (zc % 21) fls pls (r : Int)).2).map V.int)) = H21 at *
        refine ⟨lw, lc2, _, _, fun _ => true, rfl, rfl, .inl ⟨SqL.of (s21 _ _ h20), SqL.of h21⟩, rfl, eqInts, ?_⟩
        rw [all_true_range]
        refine ⟨_, rfl, iteT ?_⟩
        refine ⟨_, rfl, (by show 3 ≤ sizeLine; decide), fun p3 hp3 => ⟨(by show 1 ≤ sizeLine; decide), fun l3 hl3 => ?_⟩⟩
        have s22 : Same H21 (upd H21 p3 (.tup (s3V (0, 0, zc % 21)))) := Same.put (Same.refl _) hp3
        have h22 : (upd H21 p3 (.tup (s3V (0, 0, zc % 21)))) p3 = some (.tup (s3V (0, 0, zc % 21))) := upd_same
        have s23 : Same (upd H21 p3 (.tup (s3V (0, 0, zc % 21)))) (upd (upd H21 p3 (.tup (s3V (0, 0, zc % 21)))) l3 (.lst [.ref p3])) := Same.put (Same.refl _) hl3
        have h23 : (upd (upd H21 p3 (.tup (s3V (0, 0, zc % 21)))) l3 (.lst [.ref p3])) l3 = some (.lst ([p3].map V.ref)) := upd_same
        have r23 : RowsOf (upd (upd H21 p3 (.tup (s3V (0, 0, zc % 21)))) l3 (.lst [.ref p3])) [p3] ([(0, 0, zc % 21)].map s3V) := RowsOf.snoc (as := []) (rows := []) RowsOf.nil (Same.refl _) (s23 _ _ h22)
        refine ⟨_, rfl, l3, [p3], [(0, 0, zc % 21)], z2 % 64, rfl, ⟨h23, r23⟩, by simp, by simp, by omega, by omega, fun y hy => by rw [List.mem_singleton.mp hy]; exact Int.le_refl _, fun lw2 H24 hlw2 s24 h24 => ?_⟩
        rw [em, wid_bare] at h24
        refine ⟨_, rfl, (by show 1 ≤ sizeLine; decide), fun l4 hl4 => ?_⟩
        have n4 : lw2 ≠ l4 := fun z => by rw [← z, h24] at hl4; cases hl4
        refine ⟨_, rfl, l4, z2 % 64, _, rfl, rfl, upd_same, by omega, by omega, ?_, fun l5 hl5 => ?_⟩
        · show 1 * (z2 % 64).toNat ≤ sizeLine
          exact Nat.le_of_lt (small (by omega))
        have n5 : lw2 ≠ l5 := fun z => by rw [← z, upd_ne n4, h24] at hl5; cases hl5
        refine ⟨lw2, l5, _, _, fun _ => true, rfl, rfl, .inl ⟨SqL.of ((upd_ne n5).trans ((upd_ne n4).trans h24)), SqL.of upd_same⟩, ?_, ?_, ?_⟩
        · rw [rep_flat, em]; simp
        · rw [rep_flat, em, Int.toNat_natCast, show List.replicate m (V.int (zc % 21)) = (List.replicate m (zc % 21)).map V.int by rw [List.map_replicate]]
          exact eqInts
        rw [all_true_range]
        exact k _
end
end B71
namespace B71
open PySem L2 S2
set_option maxHeartbeats 4000000 in
theorem all_mk {l : PySem.W.OpenLaw} {w : World} {K : PySem.W.Frag} {h : Heap} {mg : Str → Option Value} {fa f1 f2 f3 f4 f5 f6 f7 f8 f9 f10 f11 f12 f13 f14 f15 f16 f17 f18 f19 : Addr} (X : K.In h) (G : h.Ns mainGlobals mg) (hfa : mg "law" = some (.ref fa))
    {od1 an1 od2 an2 od3 an3 od4 an4 od5 an5 od6 an6 od7 an7 od8 an8 od9 an9 od10 an10 od11 an11 od12 an12 od13 an13 od14 an14 od15 an15 od16 an16 od17 an17 od18 an18 od19 an19 : Option Addr} {sl1 sl2 sl3 sl4 sl5 sl6 sl7 sl8 sl9 sl10 sl11 sl12 sl13 sl14 sl15 sl16 sl17 sl18 sl19 : Array (Option Value)} {oc1 kV1 dc1 pm1 cd1 ct1 oc2 kV2 dc2 pm2 cd2 ct2 oc3 kV3 dc3 pm3 cd3 ct3 oc4 kV4 dc4 pm4 cd4 ct4 oc5 kV5 dc5 pm5 cd5 ct5 oc6 kV6 dc6 pm6 cd6 ct6 oc7 kV7 dc7 pm7 cd7 ct7 oc8 kV8 dc8 pm8 cd8 ct8 oc9 kV9 dc9 pm9 cd9 ct9 oc10 kV10 dc10 pm10 cd10 ct10 oc11 kV11 dc11 pm11 cd11 ct11 oc12 kV12 dc12 pm12 cd12 ct12 oc13 kV13 dc13 pm13 cd13 ct13 oc14 kV14 dc14 pm14 cd14 ct14 oc15 kV15 dc15 pm15 cd15 ct15 oc16 kV16 dc16 pm16 cd16 ct16 oc17 kV17 dc17 pm17 cd17 ct17 oc18 kV18 dc18 pm18 cd18 ct18 oc19 kV19 dc19 pm19 cd19 ct19 : Value}
    (a1 : PySem.W.nsIn K mainGlobals "touches" = some (some (.ref f1))) (l1 : K.lookup f1 = some ⟨oc1, od1, .func (PySem.W.fnOf "touches" "touches" (defArgs sTou) (defBody sTou) (defScope sTou) .none kV1 dc1 pm1 an1 cd1 ct1), sl1⟩) (c1 : PySem.W.codeIn K cd1 "touches" = true) (k1 : PySem.W.keepIn K (.ref f1) = true)
    (a2 : PySem.W.nsIn K mainGlobals "touching" = some (some (.ref f2))) (l2 : K.lookup f2 = some ⟨oc2, od2, .func (PySem.W.fnOf "touching" "touching" (defArgs sTouching) (defBody sTouching) (defScope sTouching) .none kV2 dc2 pm2 an2 cd2 ct2), sl2⟩) (c2 : PySem.W.codeIn K cd2 "touching" = true) (k2 : PySem.W.keepIn K (.ref f2) = true)
    (a3 : PySem.W.nsIn K mainGlobals "left_end" = some (some (.ref f3))) (l3 : K.lookup f3 = some ⟨oc3, od3, .func (PySem.W.fnOf "left_end" "left_end" (defArgs sLEnd) (defBody sLEnd) (defScope sLEnd) .none kV3 dc3 pm3 an3 cd3 ct3), sl3⟩) (c3 : PySem.W.codeIn K cd3 "left_end" = true) (k3 : PySem.W.keepIn K (.ref f3) = true)
    (a4 : PySem.W.nsIn K mainGlobals "right_end" = some (some (.ref f4))) (l4 : K.lookup f4 = some ⟨oc4, od4, .func (PySem.W.fnOf "right_end" "right_end" (defArgs sREnd) (defBody sREnd) (defScope sREnd) .none kV4 dc4 pm4 an4 cd4 ct4), sl4⟩) (c4 : PySem.W.codeIn K cd4 "right_end" = true) (k4 : PySem.W.keepIn K (.ref f4) = true)
    (a5 : PySem.W.nsIn K mainGlobals "nearest" = some (some (.ref f5))) (l5 : K.lookup f5 = some ⟨oc5, od5, .func (PySem.W.fnOf "nearest" "nearest" (defArgs sNear) (defBody sNear) (defScope sNear) .none kV5 dc5 pm5 an5 cd5 ct5), sl5⟩) (c5 : PySem.W.codeIn K cd5 "nearest" = true) (k5 : PySem.W.keepIn K (.ref f5) = true)
    (a6 : PySem.W.nsIn K mainGlobals "edges_at" = some (some (.ref f6))) (l6 : K.lookup f6 = some ⟨oc6, od6, .func (PySem.W.fnOf "edges_at" "edges_at" (defArgs sEdges) (defBody sEdges) (defScope sEdges) .none kV6 dc6 pm6 an6 cd6 ct6), sl6⟩) (c6 : PySem.W.codeIn K cd6 "edges_at" = true) (k6 : PySem.W.keepIn K (.ref f6) = true)
    (a7 : PySem.W.nsIn K mainGlobals "place_across" = some (some (.ref f7))) (l7 : K.lookup f7 = some ⟨oc7, od7, .func (PySem.W.fnOf "place_across" "place_across" (defArgs sAcross) (defBody sAcross) (defScope sAcross) .none kV7 dc7 pm7 an7 cd7 ct7), sl7⟩) (c7 : PySem.W.codeIn K cd7 "place_across" = true) (k7 : PySem.W.keepIn K (.ref f7) = true)
    (a8 : PySem.W.nsIn K mainGlobals "triple_of" = some (some (.ref f8))) (l8 : K.lookup f8 = some ⟨oc8, od8, .func (PySem.W.fnOf "triple_of" "triple_of" (defArgs sTriple) (defBody sTriple) (defScope sTriple) .none kV8 dc8 pm8 an8 cd8 ct8), sl8⟩) (c8 : PySem.W.codeIn K cd8 "triple_of" = true) (k8 : PySem.W.keepIn K (.ref f8) = true)
    (a9 : PySem.W.nsIn K mainGlobals "stand_float" = some (some (.ref f9))) (l9 : K.lookup f9 = some ⟨oc9, od9, .func (PySem.W.fnOf "stand_float" "stand_float" (defArgs sStand) (defBody sStand) (defScope sStand) .none kV9 dc9 pm9 an9 cd9 ct9), sl9⟩) (c9 : PySem.W.codeIn K cd9 "stand_float" = true) (k9 : PySem.W.keepIn K (.ref f9) = true)
    (a10 : PySem.W.nsIn K mainGlobals "stand_floats" = some (some (.ref f10))) (l10 : K.lookup f10 = some ⟨oc10, od10, .func (PySem.W.fnOf "stand_floats" "stand_floats" (defArgs sStandAll) (defBody sStandAll) (defScope sStandAll) .none kV10 dc10 pm10 an10 cd10 ct10), sl10⟩) (c10 : PySem.W.codeIn K cd10 "stand_floats" = true) (k10 : PySem.W.keepIn K (.ref f10) = true)
    (a11 : PySem.W.nsIn K mainGlobals "stretches" = some (some (.ref f11))) (l11 : K.lookup f11 = some ⟨oc11, od11, .func (PySem.W.fnOf "stretches" "stretches" (defArgs sStretches) (defBody sStretches) (defScope sStretches) .none kV11 dc11 pm11 an11 cd11 ct11), sl11⟩) (c11 : PySem.W.codeIn K cd11 "stretches" = true) (k11 : PySem.W.keepIn K (.ref f11) = true)
    (a12 : PySem.W.nsIn K mainGlobals "widths_of" = some (some (.ref f12))) (l12 : K.lookup f12 = some ⟨oc12, od12, .func (PySem.W.fnOf "widths_of" "widths_of" (defArgs sWidths) (defBody sWidths) (defScope sWidths) .none kV12 dc12 pm12 an12 cd12 ct12), sl12⟩) (c12 : PySem.W.codeIn K cd12 "widths_of" = true) (k12 : PySem.W.keepIn K (.ref f12) = true)
    (a13 : PySem.W.nsIn K mainGlobals "_law_cell_at" = some (some (.ref f13))) (l13 : K.lookup f13 = some ⟨oc13, od13, .func (PySem.W.fnOf "_law_cell_at" "_law_cell_at" (defArgs sCell) (defBody sCell) (defScope sCell) .none kV13 dc13 pm13 an13 cd13 ct13), sl13⟩) (c13 : PySem.W.codeIn K cd13 "_law_cell_at" = true) (k13 : PySem.W.keepIn K (.ref f13) = true)
    (a14 : PySem.W.nsIn K mainGlobals "_law_numbers" = some (some (.ref f14))) (l14 : K.lookup f14 = some ⟨oc14, od14, .func (PySem.W.fnOf "_law_numbers" "_law_numbers" (defArgs sNumbers) (defBody sNumbers) (defScope sNumbers) .none kV14 dc14 pm14 an14 cd14 ct14), sl14⟩) (c14 : PySem.W.codeIn K cd14 "_law_numbers" = true) (k14 : PySem.W.keepIn K (.ref f14) = true)
    (a15 : PySem.W.nsIn K mainGlobals "_law_names" = some (some (.ref f15))) (l15 : K.lookup f15 = some ⟨oc15, od15, .func (PySem.W.fnOf "_law_names" "_law_names" (defArgs sLNames) (defBody sLNames) (defScope sLNames) .none kV15 dc15 pm15 an15 cd15 ct15), sl15⟩) (c15 : PySem.W.codeIn K cd15 "_law_names" = true) (k15 : PySem.W.keepIn K (.ref f15) = true)
    (a16 : PySem.W.nsIn K mainGlobals "_law_row_due" = some (some (.ref f16))) (l16 : K.lookup f16 = some ⟨oc16, od16, .func (PySem.W.fnOf "_law_row_due" "_law_row_due" (defArgs sLRowDue) (defBody sLRowDue) (defScope sLRowDue) .none kV16 dc16 pm16 an16 cd16 ct16), sl16⟩) (c16 : PySem.W.codeIn K cd16 "_law_row_due" = true) (k16 : PySem.W.keepIn K (.ref f16) = true)
    (a17 : PySem.W.nsIn K mainGlobals "_law_free" = some (some (.ref f17))) (l17 : K.lookup f17 = some ⟨oc17, od17, .func (PySem.W.fnOf "_law_free" "_law_free" (defArgs sLFree) (defBody sLFree) (defScope sLFree) .none kV17 dc17 pm17 an17 cd17 ct17), sl17⟩) (c17 : PySem.W.codeIn K cd17 "_law_free" = true) (k17 : PySem.W.keepIn K (.ref f17) = true)
    (a18 : PySem.W.nsIn K mainGlobals "_law_in_order" = some (some (.ref f18))) (l18 : K.lookup f18 = some ⟨oc18, od18, .func (PySem.W.fnOf "_law_in_order" "_law_in_order" (defArgs sLInOrder) (defBody sLInOrder) (defScope sLInOrder) .none kV18 dc18 pm18 an18 cd18 ct18), sl18⟩) (c18 : PySem.W.codeIn K cd18 "_law_in_order" = true) (k18 : PySem.W.keepIn K (.ref f18) = true)
    (a19 : PySem.W.nsIn K mainGlobals "law" = some (some (.ref f19))) (l19 : K.lookup f19 = some ⟨oc19, od19, .func (PySem.W.fnOf "law" "law" (defArgs sLaw) (defBody sLaw) (defScope sLaw) .none kV19 dc19 pm19 an19 cd19 ct19), sl19⟩) (c19 : PySem.W.codeIn K cd19 "law" = true) (k19 : PySem.W.keepIn K (.ref f19) = true)
    (z0 : PySem.W.nsIn K mainGlobals "len" = some none) (z1 : PySem.W.nsIn K mainGlobals "max" = some none) (z2 : PySem.W.nsIn K mainGlobals "min" = some none) (z3 : PySem.W.nsIn K mainGlobals "zip" = some none) (z4 : PySem.W.nsIn K mainGlobals "list" = some none) (z5 : PySem.W.nsIn K mainGlobals "tuple" = some none) (z6 : PySem.W.nsIn K mainGlobals "int" = some none) (z7 : PySem.W.nsIn K mainGlobals "isinstance" = some none) (z8 : PySem.W.nsIn K mainGlobals "enumerate" = some none) (z9 : PySem.W.nsIn K mainGlobals "range" = some none) (z10 : PySem.W.nsIn K mainGlobals "sorted" = some none) (z11 : PySem.W.nsIn K mainGlobals "set" = some none) :
    ∃ fd : FuncData, (∀ (s : Shared) (v : Value), BindsTo s fd ⟨[v], []⟩ [("_law_script", v)]) ∧ ∀ base : Heap, K.In base → base.Ns mainGlobals mg → FnOk l.prog w K mg base CX0 7 fa fd ["_law_script"] (spLaw K) := by
  have e := hfa.symm.trans (PySem.W.mg_of X G a19)
  cases e
  have N : Names mg := ⟨PySem.W.mg_none_of X G z0, PySem.W.mg_none_of X G z1, PySem.W.mg_none_of X G z2, PySem.W.mg_none_of X G z3, PySem.W.mg_none_of X G z4, PySem.W.mg_none_of X G z5, PySem.W.mg_none_of X G z6, PySem.W.mg_none_of X G z7, PySem.W.mg_none_of X G z8, PySem.W.mg_none_of X G z9, PySem.W.mg_none_of X G z10, PySem.W.mg_none_of X G z11⟩
  have F1 := fun_mk (st := sTou) l1 c1 k1
  have b1 := F1.binds (ps := ["placed", "row", "high"]) fun _ _ _ _ _ _ us hl => match us, hl with | [_, _, _], _ => rfl
  have m1 := PySem.W.mg_of X G a1
  have F2 := fun_mk (st := sTouching) l2 c2 k2
  have b2 := F2.binds (ps := ["floats", "standing", "side", "row", "high"]) fun _ _ _ _ _ _ us hl => match us, hl with | [_, _, _, _, _], _ => rfl
  have m2 := PySem.W.mg_of X G a2
  have F3 := fun_mk (st := sLEnd) l3 c3 k3
  have b3 := F3.binds (ps := ["placed"]) fun _ _ _ _ _ _ us hl => match us, hl with | [_], _ => rfl
  have m3 := PySem.W.mg_of X G a3
  have F4 := fun_mk (st := sREnd) l4 c4 k4
  have b4 := F4.binds (ps := ["placed"]) fun _ _ _ _ _ _ us hl => match us, hl with | [_], _ => rfl
  have m4 := PySem.W.mg_of X G a4
  have F5 := fun_mk (st := sNear) l5 c5 k5
  have b5 := F5.binds (ps := ["floats", "standing", "row", "high"]) fun _ _ _ _ _ _ us hl => match us, hl with | [_, _, _, _], _ => rfl
  have m5 := PySem.W.mg_of X G a5
  have F6 := fun_mk (st := sEdges) l6 c6 k6
  have b6 := F6.binds (ps := ["W", "floats", "standing", "row", "high"]) fun _ _ _ _ _ _ us hl => match us, hl with | [_, _, _, _, _], _ => rfl
  have m6 := PySem.W.mg_of X G a6
  have F7 := fun_mk (st := sAcross) l7 c7 k7
  have b7 := F7.binds (ps := ["side", "wide", "edges"]) fun _ _ _ _ _ _ us hl => match us, hl with | [_, _, _], _ => rfl
  have m7 := PySem.W.mg_of X G a7
  have F8 := fun_mk (st := sTriple) l8 c8 k8
  have b8 := F8.binds (ps := ["near"]) fun _ _ _ _ _ _ us hl => match us, hl with | [_], _ => rfl
  have m8 := PySem.W.mg_of X G a8
  have F9 := fun_mk (st := sStand) l9 c9 k9
  have b9 := F9.binds (ps := ["W", "floats", "standing", "row"]) fun _ _ _ _ _ _ us hl => match us, hl with | [_, _, _, _], _ => rfl
  have m9 := PySem.W.mg_of X G a9
  have F10 := fun_mk (st := sStandAll) l10 c10 k10
  have b10 := F10.binds (ps := ["W", "floats"]) fun _ _ _ _ _ _ us hl => match us, hl with | [_, _], _ => rfl
  have m10 := PySem.W.mg_of X G a10
  have F11 := fun_mk (st := sStretches) l11 c11 k11
  have b11 := F11.binds (ps := ["W", "floats", "standing"]) fun _ _ _ _ _ _ us hl => match us, hl with | [_, _, _], _ => rfl
  have m11 := PySem.W.mg_of X G a11
  have F12 := fun_mk (st := sWidths) l12 c12 k12
  have b12 := F12.binds (ps := ["told", "many"]) fun _ _ _ _ _ _ us hl => match us, hl with | [_, _], _ => rfl
  have m12 := PySem.W.mg_of X G a12
  have F13 := fun_mk (st := sCell) l13 c13 k13
  have b13 := F13.binds (ps := ["_law_script", "_law_k"]) fun _ _ _ _ _ _ us hl => match us, hl with | [_, _], _ => rfl
  have m13 := PySem.W.mg_of X G a13
  have F14 := fun_mk (st := sNumbers) l14 c14 k14
  have b14 := F14.binds (ps := ["_law_cell", "_law_many"]) fun _ _ _ _ _ _ us hl => match us, hl with | [_, _], _ => rfl
  have m14 := PySem.W.mg_of X G a14
  have F15 := fun_mk (st := sLNames) l15 c15 k15
  have b15 := F15.binds (ps := ["_law_cell", "_law_many"]) fun _ _ _ _ _ _ us hl => match us, hl with | [_, _], _ => rfl
  have m15 := PySem.W.mg_of X G a15
  have F16 := fun_mk (st := sLRowDue) l16 c16 k16
  have b16 := F16.binds (ps := ["_law_wide", "_law_floats", "_law_standing", "_law_row"]) fun _ _ _ _ _ _ us hl => match us, hl with | [_, _, _, _], _ => rfl
  have m16 := PySem.W.mg_of X G a16
  have F17 := fun_mk (st := sLFree) l17 c17 k17
  have b17 := F17.binds (ps := ["_law_standing", "_law_row", "_law_x", "_law_width"]) fun _ _ _ _ _ _ us hl => match us, hl with | [_, _, _, _], _ => rfl
  have m17 := PySem.W.mg_of X G a17
  have F18 := fun_mk (st := sLInOrder) l18 c18 k18
  have b18 := F18.binds (ps := ["_law_told", "_law_wide", "_law_ends"]) fun _ _ _ _ _ _ us hl => match us, hl with | [_, _, _], _ => rfl
  have m18 := PySem.W.mg_of X G a18
  have F19 := fun_mk (st := sLaw) l19 c19 k19
  refine ⟨PySem.W.fnOf "law" "law" (defArgs sLaw) (defBody sLaw) (defScope sLaw) .none kV19 dc19 pm19 an19 cd19 ct19, fun s v => .of_eq rfl, fun base _ _ => ?_⟩
  have GT := ok_tou (P := l.prog) (w := w) (base := base) F1 N
  have GTg := ok_touching (P := l.prog) (w := w) (base := base) F2 N GT b1 m1 k1
  have GL := ok_lend (P := l.prog) (w := w) (mg := mg) (base := base) F3
  have GR := ok_rend (P := l.prog) (w := w) (mg := mg) (base := base) F4
  have GN := ok_near (P := l.prog) (w := w) (base := base) F5 N GTg b2 m2 k2 GR b4 m4 GL b3 m3
  have GE := ok_edges (P := l.prog) (w := w) (base := base) F6 GN b5 m5 k5 GR b4 m4 k4 GL b3 m3 k3
  have GS := ok_stand (P := l.prog) (w := w) (base := base) F9 N GE b6 m6 k6 GN b5 m5 k5 (ok_triple F8 N) b8 m8 k8 (ok_across F7) b7 m7 k7
  have GA := ok_standAll (P := l.prog) (w := w) (base := base) F10 N GS b9 m9 k9
  have GU := ok_numbers (P := l.prog) (w := w) (base := base) F14 N
  exact ok_law F19 N (ok_cell F13 N) b13 m13 k13 (ok_lnames F15 N GU b14 m14 k14) b15 m15 k15 GU b14 m14 k14 GA b10 m10 k10 (ok_stretches F11 N GE b6 m6 k6) b11 m11 k11 (ok_inOrder F18 N) b18 m18 k18 (ok_rowDue F16 N) b16 m16 k16 (ok_free F17) b17 m17 k17 (ok_widths F12 N) b12 m12 k12
theorem walk {l : PySem.W.OpenLaw} {q : Program} {loose : List Str} {XP : (Str → Option Value) → Heap → Prop} {YP : World → Heap → Prop} {d : DefRec} {K : Params → PySem.W.Frag} (hn : l.most = some 63) (hdf : d.params.defaults = [])
    (hY : ∀ (w : World) (h : Heap), YP w h → (K w.params).In h)
    (F : ∀ (w : World) (mg : Str → Option Value) (fa : Addr) (h : Heap), (K w.params).In h → h.Ns mainGlobals mg → mg d.name = some (.ref fa) →
      ∃ fd : FuncData, (∀ (s : Shared) (u : Value), BindsTo s fd ⟨[u], []⟩ [("_law_script", u)]) ∧ ∀ base : Heap, (K w.params).In base → base.Ns mainGlobals mg → FnOk l.prog w (K w.params) mg base CX0 7 fa fd ["_law_script"] (spLaw (K w.params))) :
    PySem.W.WalkO q loose XP YP l.row.toRowW d [] (fun f vs => PySem.call f vs) :=
  L2.walk_of (n := 63) (k := 7) (x := "_law_script") (CX := fun _ => CX0) (sp := fun w => spLaw (K w.params)) hn (by decide) hdf ⟨rfl, by decide, by decide⟩ hY F (fun _ _ a ns hl _ hS => ⟨a, ns, rfl, hS, hl, fun _ => rfl⟩) fun _ _ _ _ _ z => z
end B71
open PySem PySem.W PyProof.Rows
set_option maxRecDepth 100000 in
set_option maxHeartbeats 0 in
theorem PySem.Challenge.cw_boxgalley_k71_whole_stretches_holds : PySem.Challenge.rw_boxgalley_k71_whole_stretches.Holds := by
  w_on; o_law; k_head; (case hw => w_witness2)
  k_fill
  refine B71.walk (l := PySem.Challenge.rw_boxgalley_k71_whole_stretches) rfl rfl (fun w h Y => PySem.W.kIn_of Y) ?F
  case F =>
    intro w mg fa h KX G hmg
    refine' B71.all_mk KX G hmg ?a1 ?l1 ?c1 ?k1 ?a2 ?l2 ?c2 ?k2 ?a3 ?l3 ?c3 ?k3 ?a4 ?l4 ?c4 ?k4 ?a5 ?l5 ?c5 ?k5 ?a6 ?l6 ?c6 ?k6 ?a7 ?l7 ?c7 ?k7 ?a8 ?l8 ?c8 ?k8 ?a9 ?l9 ?c9 ?k9 ?a10 ?l10 ?c10 ?k10 ?a11 ?l11 ?c11 ?k11 ?a12 ?l12 ?c12 ?k12 ?a13 ?l13 ?c13 ?k13 ?a14 ?l14 ?c14 ?k14 ?a15 ?l15 ?c15 ?k15 ?a16 ?l16 ?c16 ?k16 ?a17 ?l17 ?c17 ?k17 ?a18 ?l18 ?c18 ?k18 ?a19 ?l19 ?c19 ?k19 ?z0 ?z1 ?z2 ?z3 ?z4 ?z5 ?z6 ?z7 ?z8 ?z9 ?z10 ?z11
    (case a1 => k_is); (case l1 => k_is); (case c1 => k_is); (case k1 => k_is); (case a2 => k_is); (case l2 => k_is)
    (case c2 => k_is); (case k2 => k_is); (case a3 => k_is); (case l3 => k_is); (case c3 => k_is); (case k3 => k_is)
    (case a4 => k_is); (case l4 => k_is); (case c4 => k_is); (case k4 => k_is); (case a5 => k_is); (case l5 => k_is)
    (case c5 => k_is); (case k5 => k_is); (case a6 => k_is); (case l6 => k_is); (case c6 => k_is); (case k6 => k_is)
    (case a7 => k_is); (case l7 => k_is); (case c7 => k_is); (case k7 => k_is); (case a8 => k_is); (case l8 => k_is)
    (case c8 => k_is); (case k8 => k_is); (case a9 => k_is); (case l9 => k_is); (case c9 => k_is); (case k9 => k_is)
    (case a10 => k_is); (case l10 => k_is); (case c10 => k_is); (case k10 => k_is); (case a11 => k_is); (case l11 => k_is)
    (case c11 => k_is); (case k11 => k_is); (case a12 => k_is); (case l12 => k_is); (case c12 => k_is); (case k12 => k_is)
    (case a13 => k_is); (case l13 => k_is); (case c13 => k_is); (case k13 => k_is); (case a14 => k_is); (case l14 => k_is)
    (case c14 => k_is); (case k14 => k_is); (case a15 => k_is); (case l15 => k_is); (case c15 => k_is); (case k15 => k_is)
    (case a16 => k_is); (case l16 => k_is); (case c16 => k_is); (case k16 => k_is); (case a17 => k_is); (case l17 => k_is)
    (case c17 => k_is); (case k17 => k_is); (case a18 => k_is); (case l18 => k_is); (case c18 => k_is); (case k18 => k_is)
    (case a19 => k_is); (case l19 => k_is); (case c19 => k_is); (case k19 => k_is); (case z0 => k_is); (case z1 => k_is)
    (case z2 => k_is); (case z3 => k_is); (case z4 => k_is); (case z5 => k_is); (case z6 => k_is); (case z7 => k_is)
    (case z8 => k_is); (case z9 => k_is); (case z10 => k_is); (case z11 => k_is)
