import PyProof.Rows.All
import Wide.All
import OpenK.AllK
import Wide.FinOn
import Lean
import PyProof.EqAt
import PyProof.EqKinds
import PyProof.TupleCall
import PyProof.MinMaxWalk
import PyProof.PassesOwn
import PyProof.StationsW
import PyProof.ExcClass3
import OpenK.KMake
import PyProof.InstStoreFacts
import PyProof.ExcAttrAll.ValueError
import OpenK.KDescr
import OpenK.KOwn
import KE.KIsAll
import PyProof.NsDelKeeps
import PyProof.NeKinds
import PyProof.Rows.ZipGen
import KE.KRevIter
import KE.KMinKey
import PyProof.Rows.Range3
import PySem.Challenge.RW_boxgalley_k70_floats_too_wide
set_option Elab.async false
set_option linter.all false
set_option maxRecDepth 100000
namespace L2
open PySem PySem.Spec PyProof.Rows
abbrev Key := Sum Int Str
def keyIs : Key → Value → Bool
  | .inl k, v => Value.isInt k v
  | .inr x, v => Value.isStrOf x v
def keyH (w : World) : Key → Int
  | .inl k => hashInt k
  | .inr x => hashStr w x
theorem keyIs_shape : ∀ {k : Key} {v : Value}, keyIs k v = true → (∃ i t, k = Sum.inl i ∧ v = Value.int i t) ∨ (∃ x t, k = Sum.inr x ∧ v = Value.str x t)
  | .inl i, v, h => by
    obtain ⟨t, e⟩ := Value.isInt_shape (k := i) (v := v) h
    exact .inl ⟨i, t, rfl, e⟩
  | .inr x, v, h => by
    obtain ⟨t, e⟩ := Value.isStrOf_shape (x := x) (v := v) h
    exact .inr ⟨x, t, rfl, e⟩
theorem key_ll (a b : Int) : decide ((Sum.inl a : Key) = Sum.inl b) = (a == b) := by
  by_cases e : a = b
  · subst e; simp
  · have h : ¬ (Sum.inl a : Key) = Sum.inl b := fun q => e (Sum.inl.inj q)
    rw [decide_eq_false h]
    exact (beq_eq_false_iff_ne.mpr e).symm
theorem key_rr (a b : Str) : decide ((Sum.inr a : Key) = Sum.inr b) = decide (a = b) := by
  by_cases e : a = b
  · subst e; simp
  · have h : ¬ (Sum.inr a : Key) = Sum.inr b := fun q => e (Sum.inr.inj q)
    rw [decide_eq_false h, decide_eq_false e]
theorem key_lr (a : Int) (b : Str) : decide ((Sum.inl a : Key) = Sum.inr b) = false := decide_eq_false (fun q => nomatch q)
theorem key_rl (a : Str) (b : Int) : decide ((Sum.inr a : Key) = Sum.inl b) = false := decide_eq_false (fun q => nomatch q)
def mixKind (prog : Program) (w : World) : PySem.KeyKind prog w Key where
  is := keyIs
  hash := keyH w
  inj := fun v a b ha hb => by
    rcases keyIs_shape ha with ⟨i, t, rfl, rfl⟩ | ⟨x, t, rfl, rfl⟩
    · rcases keyIs_shape hb with ⟨j, u, rfl, e⟩ | ⟨y, u, rfl, e⟩
      · injection e with e1 _; rw [e1]
      · exact nomatch e
    · rcases keyIs_shape hb with ⟨j, u, rfl, e⟩ | ⟨y, u, rfl, e⟩
      · exact nomatch e
      · injection e with e1 _; rw [e1]
  byValue := fun k v h => by
    rcases keyIs_shape h with ⟨i, t, rfl, rfl⟩ | ⟨x, t, rfl, rfl⟩ <;> rfl
  pyHash := fun hv h => by
    rcases keyIs_shape hv with ⟨i, t, rfl, rfl⟩ | ⟨x, t, rfl, rfl⟩
    · exact wpAny_pyHash_int h
    · exact wpAny_pyHash_str h
  eqBool := fun hu hv h => by
    rcases keyIs_shape hu with ⟨i, t, rfl, rfl⟩ | ⟨x, t, rfl, rfl⟩
    · rcases keyIs_shape hv with ⟨j, u, rfl, rfl⟩ | ⟨y, u, rfl, rfl⟩
      · rw [key_ll] at h; exact wpAny_eqBool_int h
      · rw [key_lr] at h; exact SeqAt.EqAt.int_str i t y u _ _ _ _ h
    · rcases keyIs_shape hv with ⟨j, u, rfl, rfl⟩ | ⟨y, u, rfl, rfl⟩
      · rw [key_rl] at h; exact SeqAt.EqAt.str_int x t j u _ _ _ _ h
      · rw [key_rr] at h; exact wpAny_eqBool_str h
  «strs» := fun k x t v h => by
    rcases keyIs_shape h with ⟨i, u, rfl, e⟩ | ⟨y, u, rfl, e⟩
    · exact nomatch e
    · injection e with e1 _
      subst e1
      cases v <;> rfl
end L2
namespace L2
open PySem PySem.Spec PyProof.Rows
inductive V where
  | non | bl (b : Bool) | int (i : Int) | str (x : Str) | byt (b : Array UInt8) | flt (b : UInt64) | ref (a : Addr) | ty (n : String)
  deriving DecidableEq
def RelV : V → Value → Prop
  | .non, u => u = Value.none
  | .bl b, u => u = Value.bool b
  | .int i, u => ∃ t, u = Value.int i t
  | .str x, u => ∃ t, u = Value.str x t
  | .byt b, u => ∃ t, u = Value.bytes b t
  | .flt b, u => ∃ t, u = Value.float b t
  | .ref a, u => u = Value.ref a
  | .ty n, u => u = Value.type n
abbrev Vals : List V → List Value → Prop := Paired RelV
theorem Vals.length {xs : List V} {us : List Value} (r : Vals xs us) : xs.length = us.length := Paired.length r
theorem Vals.get : ∀ {xs : List V} {us : List Value} {i : Nat} {x : V}, Vals xs us → xs[i]? = some x → ∃ u, us[i]? = some u ∧ RelV x u
  | _, _, _, _, .nil, e => by simp at e
  | _, _, 0, _, .cons r _, e => by simp at e; subst e; exact ⟨_, rfl, r⟩
  | _, _, i + 1, x, .cons _ t, e => by
    obtain ⟨u, h1, h2⟩ := Vals.get (i := i) (x := x) t (by simpa using e)
    exact ⟨u, by simpa using h1, h2⟩
theorem Vals.append : ∀ {xs ys : List V} {us ws : List Value}, Vals xs us → Vals ys ws → Vals (xs ++ ys) (us ++ ws)
  | _, _, _, _, .nil, s => s
  | _, _, _, _, .cons r t, s => .cons r (Vals.append t s)
theorem Vals.take : ∀ {xs : List V} {us : List Value} (n : Nat), Vals xs us → Vals (xs.take n) (us.take n)
  | _, _, 0, _ => .nil
  | _, _, _ + 1, .nil => .nil
  | _, _, n + 1, .cons r t => .cons r (Vals.take n t)
theorem Vals.drop : ∀ {xs : List V} {us : List Value} (n : Nat), Vals xs us → Vals (xs.drop n) (us.drop n)
  | _, _, 0, r => r
  | _, _, _ + 1, .nil => .nil
  | _, _, n + 1, .cons _ t => Vals.drop n t
def RelO : Option V → Option Value → Prop
  | some v, some u => RelV v u
  | none, none => True
  | _, _ => False
def KV {κ : Type} : List (κ × V) → List (κ × Value) → Prop := Paired fun (p : κ × V) (q : κ × Value) => p.1 = q.1 ∧ RelV p.2 q.2
def kV : Key → V
  | .inl i => .int i
  | .inr x => .str x
inductive HO where
  /-- a list -/
  | lst (xs : List V)
  /-- a tuple (never changes) -/
  | tup (xs : List V)
  /-- a dict whose keys are ints and texts; one whose keys are tuples of ints and texts (the empty one is both) -/
  | dK (kvs : List (Key × V)) | dT (kvs : List (List Key × V))
  /-- a set of ints: its members, its size -/
  | set (S : Int → Bool) (n : Nat)
  /-- an instance of the class at C, its dict at dx, its attributes -/
  | ins (C dx : Addr) (fs : List (Str × V))
  /-- the dict of the instance at x -/
  | own (x : Addr)
  /-- the dict of an exception -/
  | xd (fs : List (Str × V))
  /-- a bound method, f of x -/
  | met (f x : Addr)
  /-- a range object lo, lo + 1, .. below hi -/
  | rng (lo hi : Int)
  /-- a thing that is known to the object (the script; a dict while a loop walks it): read, never written while it is so -/
  | frz (o : Obj) (u : HO)
  /-- a code object's table -/
  | tbl (ps : Array Value)
  /-- any other thing, by what is true of its one object (a def of one's own: SetO a S n := HO.ext fun h => ..) -/
  | ext (φ : Heap → Prop)
abbrev Hp := Addr → Option HO
def upd (H : Hp) (a : Addr) (o : HO) : Hp := fun b => if b = a then some o else H b
theorem upd_same {H : Hp} {a : Addr} {o : HO} : upd H a o a = some o := by unfold upd; rw [if_pos rfl]
theorem upd_ne {H : Hp} {a b : Addr} {o : HO} (h : b ≠ a) : upd H a o b = H b := by unfold upd; rw [if_neg h]
theorem ne_of {H : Hp} {a b : Addr} {o u : HO} (h : H a = some o) (h' : H b = some u) (d : o ≠ u) : a ≠ b := by
  intro e; subst e; rw [h] at h'; exact d (Option.some.inj h')
theorem ne_of_none {H : Hp} {a b : Addr} {o : HO} (h : H a = some o) (h' : H b = none) : a ≠ b := by
  intro e; subst e; rw [h] at h'; cases h'
section
variable (P : Program) (w : World)
def ObjOk (H : Hp) (h : Heap) (a : Addr) : HO → Prop
  | .lst xs => xs.length ≤ sizeLine ∧ ∃ (its : List Value) (n : Nat), Vals xs its ∧ h.get? a = some { cls := .type "list", data := .seq its.toArray n }
  | .tup xs => xs.length ≤ sizeLine ∧ ∃ its : List Value, Vals xs its ∧ IsTup h a its.toArray
  | .dK kvs => kvs.length ≤ sizeLine ∧ (a == sysModules) = false ∧ ∃ vs, KV kvs vs ∧ h.DictOf (mixKind P w) a vs
  | .dT kvs => kvs.length ≤ sizeLine ∧ (a == sysModules) = false ∧ ∃ xs : List (List Key × Addr × Value),
      Paired (fun (p : List Key × V) (q : List Key × Addr × Value) => p.1 = q.1 ∧ H q.2.1 = some (.tup (p.1.map kV)) ∧ RelV p.2 q.2.2) kvs xs ∧
      ∃ o es ep, h.get? a = some o ∧ o.ExactDict ∧ o.data = .dict es ep ∧ es.toList = xs.map (entryOfKey (tupleKind (mixKind P w))) ∧ (xs.map (·.1)).Nodup
  | .set S n => h.SetOf (intKind P w) a S n
  | .ins C dx fs => H dx = some (.own a) ∧ fs.length ≤ 1000 ∧ dx ≠ a ∧ h.get? a = some (PySem.W.instObj C dx) ∧
      ∃ mA, h.Ns1 dx mA ∧ (∀ f, RelO (fs.lookup f) (mA f)) ∧ PySem.Within mA (fs.map (·.1))
  | .own _ => ∃ o, h.get? a = some o
  | .xd fs => ∃ mA, h.Ns1 a mA ∧ ∀ f, RelO (fs.lookup f) (mA f)
  | .rng lo hi => ∃ t u v, h.get? a = some { cls := .type "range", data := .fields #[.int lo t, .int hi u, .int 1 v] }
  | .frz o u => h.get? a = some o ∧ ObjOk H h a u
  | .tbl ps => h.get? a = some { cls := .none, data := .fields ps }
  | .met f x => h.get? a = some (PySem.W.methodObj (.ref f) (.ref x))
  | .ext φ => φ h ∧ (∃ o, h.get? a = some o) ∧ ∀ h1 h2 : Heap, φ h1 → (∀ o, h1.get? a = some o → h2.get? a = some o) → φ h2
def HOk (H : Hp) (h : Heap) : Prop := ∀ a o, H a = some o → ObjOk P w H h a o
end
section
variable {P : Program} {w : World} {H H' : Hp} {h h' : Heap} {a : Addr} {o : HO}
theorem ObjOk.lt (x : ObjOk P w H h a o) : a < h.objs.size := by
  cases o with
  | lst xs => obtain ⟨_, _, _, _, e⟩ := x; exact Heap.lt_size e
  | tup xs => obtain ⟨_, _, _, p⟩ := x; exact p.lt
  | dK kvs => obtain ⟨_, _, _, _, o, _, _, e, _⟩ := x; exact Heap.lt_size e
  | dT kvs => obtain ⟨_, _, _, _, o, _, _, e, _⟩ := x; exact Heap.lt_size e
  | set S n => obtain ⟨o, _, _, _, e, _⟩ := x; exact Heap.lt_size e
  | ins C dx fs => obtain ⟨_, _, _, e, _⟩ := x; exact Heap.lt_size e
  | own y => obtain ⟨_, e⟩ := x; exact Heap.lt_size e
  | xd fs => obtain ⟨_, ⟨_, _, _, e, _⟩, _⟩ := x; exact Heap.lt_size e
  | rng lo hi => obtain ⟨_, _, _, e⟩ := x; exact Heap.lt_size e
  | frz ob u => obtain ⟨e, _⟩ := x; exact Heap.lt_size e
  | tbl ps => exact Heap.lt_size (show h.get? a = some _ from x)
  | met f y => exact Heap.lt_size (show h.get? a = some _ from x)
  | ext φ => obtain ⟨_, ⟨_, e⟩, _⟩ := x; exact Heap.lt_size e
theorem Paired.mapP {α β : Type} {F G : α → β → Prop} : ∀ {l₁ : List α} {l₂ : List β}, Paired F l₁ l₂ → (∀ a b, F a b → G a b) → Paired G l₁ l₂
  | _, _, .nil, _ => .nil
  | _, _, .cons r t, f => .cons (f _ _ r) (Paired.mapP t f)
theorem ObjOk.stay (x : ObjOk P w H h a o) (k : ∀ b u, (b = a ∨ H b = some (.own a)) → h.get? b = some u → h'.get? b = some u)
    (ho : ∀ b, H b = some (.own a) → H' b = some (.own a)) (ht : ∀ b xs, H b = some (.tup xs) → H' b = some (.tup xs)) : ObjOk P w H' h' a o := by
  induction o with
  | lst xs => obtain ⟨z, its, n, r, e⟩ := x; exact ⟨z, its, n, r, k _ _ (.inl rfl) e⟩
  | tup xs => obtain ⟨z, its, r, ob, e, c⟩ := x; exact ⟨z, its, r, ob, k _ _ (.inl rfl) e, c⟩
  | dK kvs => obtain ⟨z, y, vs, r, ob, es, ep, e, c⟩ := x; exact ⟨z, y, vs, r, ob, es, ep, k _ _ (.inl rfl) e, c⟩
  | dT kvs =>
    obtain ⟨z, y, xs, r, ob, es, ep, e, c⟩ := x
    exact ⟨z, y, xs, Paired.mapP r fun p q z => ⟨z.1, ht _ _ z.2.1, z.2.2⟩, ob, es, ep, k _ _ (.inl rfl) e, c⟩
  | set S n => obtain ⟨ob, es, ep, t, e, c⟩ := x; exact ⟨ob, es, ep, t, k _ _ (.inl rfl) e, c⟩
  | ins C dx fs =>
    obtain ⟨d, z, ne, e, mA, ⟨od, es, ep, e2, c⟩, r⟩ := x
    exact ⟨ho _ d, z, ne, k _ _ (.inl rfl) e, mA, ⟨od, es, ep, k _ _ (.inr d) e2, c⟩, r⟩
  | own y => obtain ⟨ob, e⟩ := x; exact ⟨ob, k _ _ (.inl rfl) e⟩
  | xd fs => obtain ⟨mA, ⟨od, es, ep, e, c⟩, r⟩ := x; exact ⟨mA, ⟨od, es, ep, k _ _ (.inl rfl) e, c⟩, r⟩
  | rng lo hi => obtain ⟨t, u, v, e⟩ := x; exact ⟨t, u, v, k _ _ (.inl rfl) e⟩
  | frz ob u ih => obtain ⟨e, q⟩ := x; exact ⟨k _ _ (.inl rfl) e, ih q⟩
  | tbl ps =>
    have e : h.get? a = some { cls := .none, data := .fields ps } := x
    show h'.get? a = some { cls := .none, data := .fields ps }
    exact k a _ (.inl rfl) e
  | met f y =>
    have e : h.get? a = some (PySem.W.methodObj (.ref f) (.ref y)) := x
    show h'.get? a = some (PySem.W.methodObj (.ref f) (.ref y))
    exact k a _ (.inl rfl) e
  | ext φ => obtain ⟨p, ⟨o, e⟩, st⟩ := x; exact ⟨st _ _ p fun o q => k _ _ (.inl rfl) q, ⟨o, k _ _ (.inl rfl) e⟩, st⟩
theorem HOk.lt (x : HOk P w H h) (e : H a = some o) : a < h.objs.size := (x a o e).lt
theorem HOk.fresh (x : HOk P w H h) (e : h.objs.size ≤ a) : H a = none := by
  cases q : H a with
  | none => rfl
  | some u => exact absurd (Nat.lt_of_lt_of_le (x.lt q) e) (Nat.lt_irrefl _)
theorem HOk.kept (x : HOk P w H h) (k : ∀ b u, h.get? b = some u → h'.get? b = some u) : HOk P w H h' := fun a o e =>
  (x a o e).stay (fun b u _ q => k b u q) (fun _ q => q) fun _ _ q => q
theorem HOk.laid (x : HOk P w H h) (k : ∀ b u, h.get? b = some u → h'.get? b = some u) (hp : h.objs.size ≤ a) (new : ObjOk P w (upd H a o) h' a o) : HOk P w (upd H a o) h' := fun b u e => by
  have hn := x.fresh hp
  by_cases hb : b = a
  · subst hb; rw [upd_same] at e; cases e; exact new
  · rw [upd_ne hb] at e
    exact (x b u e).stay (fun c v _ q => k c v q) (fun c q => by rw [upd_ne (ne_of_none q hn)]; exact q) fun c xs q => by rw [upd_ne (ne_of_none q hn)]; exact q
end
def Rd (H : Hp) (a : Addr) (u : HO) : Prop := H a = some u ∨ ∃ o, H a = some (.frz o u)
theorem Rd.ok {P : Program} {w : World} {H : Hp} {h : Heap} {a : Addr} {u : HO} (r : Rd H a u) (x : HOk P w H h) : ObjOk P w H h a u := by
  rcases r with r | ⟨o, r⟩
  · exact x a u r
  · obtain ⟨_, q⟩ := x a _ r
    exact q
def Mut : Option HO → Prop
  | some (.lst _) => True
  | some (.dK _) => True
  | some (.dT _) => True
  | some (.set _ _) => True
  | some (.ins _ _ _) => True
  | some (.ext _) => True
  | _ => False
section
variable {P : Program} {w : World} {H : Hp} {h h' : Heap} {x e : Addr} {o' : HO}
theorem HOk.write (ok : HOk P w H h) (mu : Mut (H x)) (he : e = x ∨ H e = some (.own x)) (k : ∀ b u, b ≠ e → h.get? b = some u → h'.get? b = some u) (heo : ∃ u, h'.get? e = some u)
    (new : ObjOk P w (upd H x o') h' x o') : HOk P w (upd H x o') h' := fun b u q => by
  have nown : ∀ c y, H c = some (.own y) → c ≠ x := fun c y r z => by subst z; rw [r] at mu; exact mu
  have ntup : ∀ c xs, H c = some (.tup xs) → c ≠ x := fun c xs r z => by subst z; rw [r] at mu; exact mu
  by_cases hb : b = x
  · subst hb; rw [upd_same] at q; cases q; exact new
  · rw [upd_ne hb] at q
    by_cases hbe : b = e
    · have q' : H b = some (.own x) := by
        rcases he with z | z
        · exact absurd (hbe.trans z) hb
        · rw [hbe]; exact z
      rw [q] at q'; cases q'
      obtain ⟨v, hv⟩ := heo
      exact ⟨v, by rw [hbe]; exact hv⟩
    · refine (ok b u q).stay (fun c v hc r => k c v ?_ r) (fun c r => by rw [upd_ne (nown c b r)]; exact r) fun c xs r => by rw [upd_ne (ntup c xs r)]; exact r
      rcases hc with rfl | hc
      · exact hbe
      · rintro rfl
        rcases he with z | z
        · exact nown c b hc z
        · rw [hc] at z; cases z; exact hb rfl
end
structure Un (fs ex : List Addr) (H H' : Hp) (h h' : Heap) : Prop where
  keep : ∀ b o, h.get? b = some o → H b = none → b ∉ fs → b ∉ ex → h'.get? b = some o
  slot : ∀ b o, h.get? b = some o → H b = none → b ∈ fs → b ∉ ex → ∃ sl, h'.get? b = some { o with slots := sl }
  free : ∀ b o, h.get? b = some o → H b = none → b ∉ ex → H' b = none
  there : ∀ b o, h.get? b = some o → b ∉ ex → ∃ o', h'.get? b = some o'
  tups : ∀ b xs, H b = some (.tup xs) → H' b = some (.tup xs)
  frzs : ∀ b o u, H b = some (.frz o u) → H' b = some (.frz o u)
  tbls : ∀ b ps, H b = some (.tbl ps) → ∃ more, H' b = some (.tbl (ps ++ more))
section
variable {fs fs' ex ex' : List Addr} {H H1 H2 : Hp} {h h1 h2 h' : Heap} {a x e : Addr} {o : HO}
theorem Un.any (u : Un fs ex H H1 h h1) {b : Addr} {ob : Obj} (q : h.get? b = some ob) (n : H b = none) (hx : b ∉ ex) : ∃ sl, h1.get? b = some { ob with slots := sl } := by
  by_cases hb : b ∈ fs
  · exact u.slot b ob q n hb hx
  · exact ⟨ob.slots, u.keep b ob q n hb hx⟩
theorem Un.kept (k : ∀ b u, h.get? b = some u → h'.get? b = some u) : Un fs ex H H h h' :=
  ⟨fun b ob q _ _ _ => k b ob q, fun b ob q _ _ _ => ⟨ob.slots, k b ob q⟩, fun _ _ _ n _ => n, fun b ob q _ => ⟨ob, k b ob q⟩, fun _ _ q => q, fun _ _ _ q => q, fun _ ps q => ⟨#[], by rw [q]; simp⟩⟩
theorem Un.refl : Un fs ex H H h h := Un.kept fun _ _ q => q
theorem Un.laid (k : ∀ b u, h.get? b = some u → h'.get? b = some u) (hp : h.objs.size ≤ a) (hn : H a = none) : Un fs ex H (upd H a o) h h' where
  keep := fun b u q _ _ _ => k b u q
  slot := fun b u q _ _ _ => ⟨u.slots, k b u q⟩
  free := fun b u q n _ => by rw [upd_ne (Nat.ne_of_lt (Nat.lt_of_lt_of_le (Heap.lt_size q) hp))]; exact n
  there := fun b u q _ => ⟨u, k b u q⟩
  tups := fun b xs q => by rw [upd_ne (ne_of_none q hn)]; exact q
  frzs := fun b u xs q => by rw [upd_ne (ne_of_none q hn)]; exact q
  tbls := fun b ps q => ⟨#[], by rw [upd_ne (ne_of_none q hn), q]; simp⟩
theorem Un.write (mu : Mut (H x)) (he : e = x ∨ H e = some (.own x)) (k : ∀ b u, b ≠ e → h.get? b = some u → h'.get? b = some u) (heo : ∃ u, h'.get? e = some u) : Un fs ex H (upd H x o) h h' := by
  have hx : ∀ b, H b = none → b ≠ x := fun b n z => by subst z; rw [n] at mu; exact mu
  have hb : ∀ b, H b = none → b ≠ e := fun b n z => by
    subst z
    rcases he with r | r
    · exact hx b n r
    · rw [n] at r; cases r
  have hm : ∀ b u, H b = some u → ¬ Mut (some u) → b ≠ x := fun b u q nm z => by subst z; rw [q] at mu; exact nm mu
  refine ⟨fun b u q n _ _ => k b u (hb b n) q, fun b u q n _ _ => ⟨u.slots, k b u (hb b n) q⟩, fun b u q n _ => by rw [upd_ne (hx b n)]; exact n, fun b u q _ => ?_,
    fun b xs q => by rw [upd_ne (hm b _ q fun z => z)]; exact q, fun b u xs q => by rw [upd_ne (hm b _ q fun z => z)]; exact q, fun b ps q => ⟨#[], by rw [upd_ne (hm b _ q fun z => z), q]; simp⟩⟩
  by_cases hbe : b = e
  · subst hbe; exact heo
  · exact ⟨u, k b u hbe q⟩
end
def trk (h : Heap) (H : Hp) : List Addr := (List.range h.objs.size).filter fun a => (H a).isSome
def hidT (h : Heap) (H : Hp) : Heap := PySem.W.hideAll h (trk h H)
theorem hidT_size (h : Heap) (H : Hp) : (hidT h H).objs.size = h.objs.size := PySem.W.hideAll_size _ _
theorem hidT_get {h : Heap} {H : Hp} {b : Addr} {o : Obj} (e : h.get? b = some o) (n : H b = none) : (hidT h H).get? b = some o :=
  PySem.W.hideAll_get _ e fun hm => by
    have q : (H b).isSome = true := (List.mem_filter.mp hm).2
    rw [n] at q; simp at q
theorem of_hidT {h : Heap} {H : Hp} {b : Addr} {o : Obj} (e : (hidT h H).get? b = some o) : h.get? b = some o ∧ H b = none := by
  have e' : h.get? b = some o := PySem.W.of_hideAll (trk h H) e
  refine ⟨e', ?_⟩
  cases q : H b with
  | none => rfl
  | some x =>
    have hm : b ∈ trk h H := List.mem_filter.mpr ⟨List.mem_range.mpr (Heap.lt_size e'), by simp [q]⟩
    have z : (hidT h H).get? b = none := PySem.W.hideAll_none (trk h H) hm
    rw [z] at e; cases e
end L2
namespace L2
open PySem PySem.Spec PyProof.Rows
structure Mod (K : PySem.W.Frag) (mg : Str → Option Value) (base : Heap) : Prop where
  kin : K.In base
  glob : base.Ns mainGlobals mg
  blt : ∃ mb, base.Ns builtinsNs mb ∧ ∀ x : Str, x ≠ "__name__" → mb x = bootBuiltins x
  nolimit : base.NoLimit
structure Cx where
  prog : Program
  w : World
  K : PySem.W.Frag
  mg : Str → Option Value
  base : Heap
  A : Around
  N : List Str
  s₀ : Shared
  H₀ : Hp
  env : Env
  outer : List Env
  stack : List Env
  ex : List Addr
  fn : Str → Bool
  calm : Bool
  pn : List (Addr × Obj)
  xe : Value → Shared → Prop
def frs (l : List Env) : List Addr := l.filterMap (·.frame)
abbrev Cx.fs (X : Cx) : List Addr := frs X.outer
def Vis (sc : Scope) (x : Str) : Prop := sc.names.lookup x = some .local ∨ sc.names.lookup x = some .cell ∨ sc.names.lookup x = some .free
def Loc (sc : Scope) (x : Str) : Prop := sc.names.lookup x = some .local ∨ sc.names.lookup x = some .cell
def Look (env : Env) (h : Heap) (m : Str → Option Value) (x : Str) (u : Value) : Prop :=
  (env.kindOf x = some .local ∧ m x = some u) ∨ ((env.kindOf x = some .cell ∨ env.kindOf x = some .free) ∧ ∃ c, env.cells.lookup x = some c ∧ h.IsCell c (some u))
structure Cx.Ok (X : Cx) : Prop where
  mod : Mod X.K X.mg X.base
  kind : X.env.scope.kind = .function
  glob : X.env.globals = mainGlobals
  blt : X.env.builtins = builtinsNs
  above : X.s₀.heap.objs.size ≤ X.env.locals
  inj : ∀ x y c, X.env.cells.lookup x = some c → X.env.cells.lookup y = some c → x = y
  has : ∀ x, (X.env.kindOf x = some .cell ∨ X.env.kindOf x = some .free) → ∃ c, X.env.cells.lookup x = some c
  cab : ∀ x c, X.fn x = true → X.env.cells.lookup x = some c → X.s₀.heap.objs.size ≤ c
  hd : X.calm = true → X.A.handled = none
  frames : X.A.frames = some X.stack
  stk : X.stack = X.outer ∨ (X.stack = X.env :: X.outer ∧ X.env.frame = some X.env.locals)
  exf : ∀ b ∈ X.ex, b ≠ X.env.locals ∧ ∀ x c, X.env.cells.lookup x = some c → c ≠ b
  bs : ∀ b o, X.base.get? b = some o → X.s₀.heap.get? b = some o ∧ X.H₀ b = none
  bsz : X.base.objs.size ≤ X.s₀.heap.objs.size
  noex : ∀ b o, X.base.get? b = some o → b ∉ X.ex
  exfs : ∀ b ∈ X.ex, b ∉ X.fs
  funs : X.s₀.heap.FunFrames X.base X.outer
  frf : ∀ b ∈ X.fs, X.H₀ b = none
structure Inv (X : Cx) (pins : List (Addr × Obj)) (σ : List (Option V)) (H : Hp) (s : Shared) : Prop where
  ok : X.Ok
  os : s.os = X.s₀.os
  bare : AllBare s.gens
  base : Un X.fs X.ex X.H₀ H X.s₀.heap s.heap
  loc : ∃ m, s.heap.Ns X.env.locals m ∧ ∀ (i : Nat) (x : Str) (v : V), X.N[i]? = some x → σ[i]? = some (some v) → Vis X.env.scope x → ∃ u, RelV v u ∧ Look X.env s.heap m x u
  cell : ∀ x c, X.env.cells.lookup x = some c → ∃ v, s.heap.IsCell c v
  free : H X.env.locals = none
  freeC : ∀ x c, X.env.cells.lookup x = some c → H c = none
  pin : ∀ p ∈ X.pn ++ pins, s.heap.get? p.1 = some p.2 ∧ H p.1 = none ∧ p.1 ≠ X.env.locals ∧ p.1 ∉ X.fs ∧ ∀ v, p.2.data ≠ .cell v
  hok : HOk X.prog X.w H s.heap
  len : σ.length = X.N.length
section
variable {X : Cx} {pins : List (Addr × Obj)} {σ : List (Option V)} {H H' : Hp} {s : Shared} {h' : Heap}
theorem Cx.Ok.nofr (ok : X.Ok) {b : Addr} {o : Obj} (e : X.base.get? b = some o) : b ∉ X.fs := fun hb => by
  have := (ok.funs.mem hb).1
  rw [e] at this; cases this
theorem Inv.bs (I : Inv X pins σ H s) : ∀ b o, X.base.get? b = some o → s.heap.get? b = some o ∧ H b = none := fun b o e =>
  ⟨I.base.keep b o (I.ok.bs b o e).1 (I.ok.bs b o e).2 (I.ok.nofr e) (I.ok.noex b o e), I.base.free b o (I.ok.bs b o e).1 (I.ok.bs b o e).2 (I.ok.noex b o e)⟩
theorem Inv.bk (I : Inv X pins σ H s) : ∀ b o, X.base.get? b = some o → s.heap.get? b = some o := fun b o e => (I.bs b o e).1
theorem Inv.mod (I : Inv X pins σ H s) : Mod X.K X.mg X.base := I.ok.mod
theorem Inv.kIn (I : Inv X pins σ H s) : X.K.In s.heap := I.ok.mod.kin.keeps I.bk
theorem Inv.lt (I : Inv X pins σ H s) : X.env.locals < s.heap.objs.size := let ⟨_, hn, _⟩ := I.loc; hn.lt
theorem Inv.sz (I : Inv X pins σ H s) : X.s₀.heap.objs.size ≤ s.heap.objs.size := Nat.le_trans I.ok.above (Nat.le_of_lt I.lt)
theorem Inv.nofs (I : Inv X pins σ H s) {a : Addr} (h : s.heap.objs.size ≤ a) : a ∉ X.fs := fun hb => by
  obtain ⟨_, o, ho, _⟩ := I.ok.funs.mem hb
  exact absurd (Nat.lt_of_lt_of_le (Heap.lt_size ho) (Nat.le_trans I.sz h)) (Nat.lt_irrefl _)
theorem Inv.cne (I : Inv X pins σ H s) : ∀ x c, X.env.cells.lookup x = some c → c ≠ X.env.locals := fun x c e z => by
  obtain ⟨v, o, ho, hd⟩ := I.cell x c e
  obtain ⟨m, ⟨o', es, ep, ho', hd', _⟩, _⟩ := I.loc
  rw [z, ho'] at ho; cases ho; rw [hd'] at hd; cases hd
theorem Inv.funs (I : Inv X pins σ H s) : s.heap.FunFrames X.base X.outer := by
  have all : ∀ (l : List Env), (∀ b ∈ frs l, b ∈ X.fs) → X.s₀.heap.FunFrames X.base l → s.heap.FunFrames X.base l := by
    intro l
    induction l with
    | nil => intro _ _; trivial
    | cons env r ih =>
      intro hs hl
      obtain ⟨hk, ⟨L, o, hf, hn, ho, hd⟩, hr⟩ := hl
      have hL : L ∈ X.fs := hs L (by unfold frs; rw [List.filterMap_cons, hf]; exact List.mem_cons_self)
      obtain ⟨sl, e⟩ := I.base.slot L o ho (I.ok.frf L hL) hL fun z => I.ok.exfs L z hL
      exact ⟨hk, ⟨L, _, hf, hn, e, hd⟩, ih (fun b hb => hs b (by unfold frs; rw [List.filterMap_cons, hf]; exact List.mem_cons_of_mem _ hb)) hr⟩
  exact all X.outer (fun _ hb => hb) I.ok.funs
theorem Inv.stack (I : Inv X pins σ H s) : s.heap.FunFrames X.base X.stack := by
  rcases I.ok.stk with e | ⟨e, hf⟩
  · rw [e]; exact I.funs
  · rw [e]
    obtain ⟨m, hn, _⟩ := I.loc
    refine .cons (by rw [I.ok.kind]; decide) hf hn ?_ I.funs
    exact Heap.get?_none_of_le (Nat.le_trans I.ok.bsz I.ok.above)
theorem Inv.stkSub (I : Inv X pins σ H s) : ∀ b ∈ frs X.stack, b ∈ X.env.locals :: X.fs := fun b hb => by
  rcases I.ok.stk with e | ⟨e, hf⟩
  · rw [e] at hb; exact List.mem_cons_of_mem _ hb
  · rw [e] at hb
    unfold frs at hb
    rw [List.filterMap_cons, hf] at hb
    exact hb
theorem Inv.stkFree (I : Inv X pins σ H s) : ∀ b ∈ frs X.stack, H b = none := fun b hb => by
  rcases List.mem_cons.mp (I.stkSub b hb) with e | hb
  · rw [e]; exact I.free
  · obtain ⟨_, o, ho, _⟩ := I.ok.funs.mem hb
    exact I.base.free b o ho (I.ok.frf b hb) fun z => I.ok.exfs b z hb
theorem Inv.step {g' : Array GenState} {t' : Nat} {d' : Drawn} {ch : List Addr} (I : Inv X pins σ H s)
    (hch : ∀ b ∈ ch, (b ∈ X.ex ∨ X.s₀.heap.objs.size ≤ b) ∧ b ≠ X.env.locals ∧ (∀ x c, X.env.cells.lookup x = some c → c ≠ b) ∧ ∀ p ∈ X.pn ++ pins, p.1 ≠ b)
    (keep : ∀ b o, b ≠ X.env.locals → b ∉ X.fs → b ∉ ch → s.heap.get? b = some o → H b = none → h'.get? b = some o)
    (slot : ∀ b o, b ≠ X.env.locals → b ∈ X.fs → b ∉ ch → s.heap.get? b = some o → H b = none → ∃ sl, h'.get? b = some { o with slots := sl }) (free : ∀ b o, b ∉ ch → s.heap.get? b = some o → H b = none → H' b = none)
    (there : ∀ b o, b ∉ ch → s.heap.get? b = some o → ∃ o', h'.get? b = some o')
    (tups : ∀ b xs, H b = some (.tup xs) → H' b = some (.tup xs)) (frzs : ∀ b o u, H b = some (.frz o u) → H' b = some (.frz o u)) (tbls : ∀ b ps, H b = some (.tbl ps) → ∃ more, H' b = some (.tbl (ps ++ more)))
    (ns : ∀ m, s.heap.Ns X.env.locals m → h'.Ns X.env.locals m) (hok : HOk X.prog X.w H' h') (hg : AllBare g') :
    Inv X pins σ H' { s with heap := h', gens := g', drawn := d', toks := t' } := by
  have neL : ∀ b o, X.s₀.heap.get? b = some o → b ≠ X.env.locals := fun b o e => Nat.ne_of_lt (Nat.lt_of_lt_of_le (Heap.lt_size e) I.ok.above)
  have neC : ∀ b o, X.s₀.heap.get? b = some o → b ∉ X.ex → b ∉ ch := fun b o e hx hb => by
    rcases (hch b hb).1 with z | z
    · exact hx z
    · exact absurd (Nat.lt_of_lt_of_le (Heap.lt_size e) z) (Nat.lt_irrefl _)
  have cellK : ∀ x c, X.env.cells.lookup x = some c → ∀ v, s.heap.IsCell c v → h'.IsCell c v := fun x c e v ⟨o, ho, hd⟩ => by
    have nch : c ∉ ch := fun z => (hch c z).2.2.1 x c e rfl
    by_cases hc : c ∈ X.fs
    · obtain ⟨sl, q⟩ := slot c o (I.cne x c e) hc nch ho (I.freeC x c e)
      exact ⟨_, q, hd⟩
    · exact ⟨o, keep c o (I.cne x c e) hc nch ho (I.freeC x c e), hd⟩
  refine ⟨I.ok, I.os, hg, ⟨fun b o e n hb hx => ?_, fun b o e n hb hx => ?_, fun b o e n hx => ?_, fun b o e hx => ?_, fun b xs e => tups b xs (I.base.tups b xs e), fun b o xs e => frzs b o xs (I.base.frzs b o xs e), fun b ps e => ?_⟩, ?_, fun x c e => ?_, ?_, fun x c e => ?_, fun p hp => ?_, hok, I.len⟩
  · exact keep b o (neL b o e) hb (neC b o e hx) (I.base.keep b o e n hb hx) (I.base.free b o e n hx)
  · obtain ⟨sl, e1⟩ := I.base.slot b o e n hb hx
    obtain ⟨sl', e2⟩ := slot b _ (neL b o e) hb (neC b o e hx) e1 (I.base.free b o e n hx)
    exact ⟨sl', e2⟩
  · obtain ⟨o', e1⟩ := I.base.there b o e hx
    exact free b o' (neC b o e hx) e1 (I.base.free b o e n hx)
  · obtain ⟨o', e1⟩ := I.base.there b o e hx
    exact there b o' (neC b o e hx) e1
  · obtain ⟨m1, e1⟩ := I.base.tbls b ps e
    obtain ⟨m2, e2⟩ := tbls b _ e1
    exact ⟨m1 ++ m2, by rw [e2, Array.append_assoc]⟩
  · obtain ⟨m, hn, hl⟩ := I.loc
    refine ⟨m, ns m hn, fun i x v e1 e2 e3 => ?_⟩
    obtain ⟨u, r, l⟩ := hl i x v e1 e2 e3
    refine ⟨u, r, ?_⟩
    rcases l with l | ⟨k, c, e, z⟩
    · exact .inl l
    · exact .inr ⟨k, c, e, cellK x c e _ z⟩
  · obtain ⟨v, z⟩ := I.cell x c e
    exact ⟨v, cellK x c e v z⟩
  · obtain ⟨m, ⟨o, _, _, ho, _⟩, _⟩ := I.loc
    exact free _ o (fun z => (hch _ z).2.1 rfl) ho I.free
  · obtain ⟨v, o, ho, hd⟩ := I.cell x c e
    exact free c o (fun z => (hch c z).2.2.1 x c e rfl) ho (I.freeC x c e)
  · obtain ⟨e, n, ne, nf, d⟩ := I.pin p hp
    have nch : p.1 ∉ ch := fun z => (hch p.1 z).2.2.2 p hp rfl
    exact ⟨keep p.1 p.2 ne nf nch e n, free p.1 p.2 nch e n, ne, nf, d⟩
theorem Inv.un {t' : Nat} (I : Inv X pins σ H s) (u : Un X.fs [] H H' s.heap h') (hok : HOk X.prog X.w H' h') : Inv X pins σ H' { s with heap := h', toks := t' } := by
  obtain ⟨m, ⟨o, es, ep, ho, r⟩, _⟩ := id I.loc
  obtain ⟨sl, hL⟩ := u.any ho I.free (by simp)
  exact I.step (g' := s.gens) (d' := s.drawn) (ch := []) (fun _ z => nomatch z) (fun b o _ hb _ e n => u.keep b o e n hb (by simp)) (fun b o _ hb _ e n => u.slot b o e n hb (by simp)) (fun b o _ e n => u.free b o e n (by simp)) (fun b o _ e => u.there b o e (by simp)) u.tups u.frzs u.tbls (fun m' hm => by
    obtain ⟨o', es', ep', ho', r'⟩ := hm
    rw [ho] at ho'; cases ho'
    exact ⟨_, es', ep', hL, r'⟩) hok I.bare
theorem Inv.call {g' : Array GenState} {t' : Nat} {d' : Drawn} {ch : List Addr} (I : Inv X pins σ H s) (u : Un (frs X.stack) ch H H' s.heap h') (hok : HOk X.prog X.w H' h') (hg : AllBare g')
    (hch : ∀ b ∈ ch, (b ∈ X.ex ∨ X.s₀.heap.objs.size ≤ b) ∧ b ≠ X.env.locals ∧ (∀ x c, X.env.cells.lookup x = some c → c ≠ b) ∧ ∀ p ∈ X.pn ++ pins, p.1 ≠ b) :
    Inv X pins σ H' { s with heap := h', gens := g', drawn := d', toks := t' } := by
  obtain ⟨m, ⟨o, es, ep, ho, r⟩, _⟩ := id I.loc
  obtain ⟨sl, hL⟩ := u.any ho I.free fun z => (hch _ z).2.1 rfl
  exact I.step (ch := ch) hch (fun b o hL hb hc e n => u.keep b o e n (fun z => (List.mem_cons.mp (I.stkSub b z)).elim hL hb) hc) (fun b o _ _ hc e n => u.any e n hc) (fun b o hc e n => u.free b o e n hc) (fun b o hc e => u.there b o e hc) u.tups u.frzs u.tbls (fun m' hm => by
    obtain ⟨o', es', ep', ho', r'⟩ := hm
    rw [ho] at ho'; cases ho'
    exact ⟨_, es', ep', hL, r'⟩) hok hg
theorem Inv.turned {t' : Nat} {it : Addr} (I : Inv X pins σ H s) (k : ∀ b o, b ≠ it → s.heap.get? b = some o → h'.get? b = some o) (hn : H it = none) (hL : it ≠ X.env.locals)
    (h1 : it ∈ X.ex ∨ X.s₀.heap.objs.size ≤ it) (h2 : ∀ x c, X.env.cells.lookup x = some c → c ≠ it) (h3 : ∀ p ∈ X.pn ++ pins, p.1 ≠ it) : Inv X pins σ H { s with heap := h', toks := t' } := by
  have nit : ∀ b u, H b = some u → b ≠ it := fun b u e z => by rw [z, hn] at e; cases e
  refine I.step (g' := s.gens) (d' := s.drawn) (ch := [it]) (fun b hb => ?_) (fun b o _ _ hc e _ => k b o (fun z => hc (by simp [z])) e) (fun b o _ _ hc e _ => ⟨o.slots, k b o (fun z => hc (by simp [z])) e⟩) (fun _ _ _ _ n => n)
    (fun b o hc e => ⟨o, k b o (fun z => hc (by simp [z])) e⟩) (fun _ _ e => e) (fun _ _ _ e => e) (fun b ps e => ⟨#[], by rw [e]; simp⟩) (fun m hm => ?_) (fun b u e => ?_) I.bare
  · have e : b = it := by simpa using hb
    subst e
    exact ⟨h1, hL, h2, h3⟩
  · obtain ⟨o, es, ep, ho, r⟩ := hm
    exact ⟨o, es, ep, k _ o (Ne.symm hL) ho, r⟩
  · refine (I.hok b u e).stay (fun c v hc q => k c v ?_ q) (fun _ q => q) fun _ _ q => q
    rcases hc with z | z
    · rw [z]; exact nit b u e
    · exact nit c _ z
theorem Inv.tok (I : Inv X pins σ H s) (t : Nat) : Inv X pins σ H { s with toks := t } := I.un (h' := s.heap) (t' := t) Un.refl I.hok
theorem Inv.kept {t' : Nat} (I : Inv X pins σ H s) (k : ∀ b u, s.heap.get? b = some u → h'.get? b = some u) : Inv X pins σ H { s with heap := h', toks := t' } := I.un (Un.kept k) (I.hok.kept k)
theorem Inv.laid {a : Addr} {o : HO} {t' : Nat} (I : Inv X pins σ H s) (k : ∀ b u, s.heap.get? b = some u → h'.get? b = some u) (hp : s.heap.objs.size ≤ a) (new : ObjOk X.prog X.w (upd H a o) h' a o) :
    Inv X pins σ (upd H a o) { s with heap := h', toks := t' } := I.un (Un.laid k hp (I.hok.fresh hp)) (I.hok.laid k hp new)
theorem Inv.write {x e : Addr} {o : HO} {t' : Nat} (I : Inv X pins σ H s) (mu : Mut (H x)) (he : e = x ∨ H e = some (.own x)) (k : ∀ b u, b ≠ e → s.heap.get? b = some u → h'.get? b = some u) (heo : ∃ u, h'.get? e = some u)
    (new : ObjOk X.prog X.w (upd H x o) h' x o) : Inv X pins σ (upd H x o) { s with heap := h', toks := t' } := I.un (Un.write mu he k heo) (I.hok.write mu he k heo new)
theorem Inv.pins_of {pins' : List (Addr × Obj)} (I : Inv X pins σ H s) (h : ∀ p ∈ pins', s.heap.get? p.1 = some p.2 ∧ H p.1 = none ∧ p.1 ≠ X.env.locals ∧ p.1 ∉ X.fs ∧ ∀ v, p.2.data ≠ .cell v) : Inv X pins' σ H s :=
  ⟨I.ok, I.os, I.bare, I.base, I.loc, I.cell, I.free, I.freeC, fun p hp => (List.mem_append.mp hp).elim (fun z => I.pin p (List.mem_append_left _ z)) (h p), I.hok, I.len⟩
theorem nodup_ix {N : List Str} (hN : N.Nodup) {i j : Nat} {x : Str} (a : N[i]? = some x) (b : N[j]? = some x) : i = j := by
  obtain ⟨h1, e1⟩ := List.getElem?_eq_some_iff.mp a
  obtain ⟨h2, e2⟩ := List.getElem?_eq_some_iff.mp b
  exact (List.getElem_inj hN).mp (e1.trans e2.symm)
theorem store_ok2 {M : Model} {A : Around} {E : Value → Shared → Prop} {i : Nat} {x : Str} {v : V} {u : Value} {Q : Unit → Shared → Prop} (I : Inv X pins σ H s) (hN : X.N.Nodup) (hi : X.N[i]? = some x) (hx : Loc X.env.scope x) (r : RelV v u)
    (h : ∀ s', Inv X pins (σ.set i (some v)) H s' → (∃ a, Heap.SameBut a s.heap s'.heap ∧ (a = X.env.locals ∨ X.env.cells.lookup x = some a)) → Q () s') (hf : X.fn x = true ∨ X.env.scope.names.lookup x = some .local := by first | exact .inl rfl | exact .inr rfl | assumption) : wpAny M A (storeName X.env x u) Q E s := by
  obtain ⟨m, hn, hl⟩ := id I.loc
  have hcls : (X.env.scope.kind == .class || (X.env.scope.kind == .module && X.env.locals != X.env.globals)) = false := by rw [I.ok.kind]; rfl
  have hiσ : i < σ.length := by rw [I.len]; exact (List.getElem?_eq_some_iff.mp hi).1
  have cne := I.cne
  have tracked : ∀ {a : Addr} {h' : Heap}, (∃ o, s.heap.get? a = some o ∧ H a = none) → Heap.SameBut a s.heap h' → HOk X.prog X.w H h' := fun {a h'} ha hs b ob e => by
    obtain ⟨_, _, hfree⟩ := ha
    refine (I.hok b ob e).stay (fun c w' hc q => (hs.2 c ?_).trans q) (fun _ q => q) fun _ _ q => q
    rintro rfl
    rcases hc with rfl | hc
    · rw [hfree] at e; cases e
    · rw [hfree] at hc; cases hc
  rcases hx with hk | hk
  · refine wpAny_storeName_local hk hn (fun h' hn' hs => ?_) hcls
    obtain ⟨oL, _, _, hoL, _⟩ := id hn
    refine h _ ⟨I.ok, I.os, I.bare, ⟨fun b o e n hb hx => ?_, fun b o e n hb hx => ?_, I.base.free, fun b o e hx => ?_, I.base.tups, I.base.frzs, I.base.tbls⟩, ⟨_, hn', fun j y v' e1 e2 e3 => ?_⟩, fun y c e => ?_, I.free, I.freeC, fun p hp => ?_, tracked ⟨oL, hoL, I.free⟩ hs, by simpa using I.len⟩ ⟨_, hs, .inl rfl⟩
    · exact (hs.2 b (Nat.ne_of_lt (Nat.lt_of_lt_of_le (Heap.lt_size e) I.ok.above))).trans (I.base.keep b o e n hb hx)
    · obtain ⟨sl, e1⟩ := I.base.slot b o e n hb hx
      exact ⟨sl, (hs.2 b (Nat.ne_of_lt (Nat.lt_of_lt_of_le (Heap.lt_size e) I.ok.above))).trans e1⟩
    · obtain ⟨o', e1⟩ := I.base.there b o e hx
      exact ⟨o', (hs.2 b (Nat.ne_of_lt (Nat.lt_of_lt_of_le (Heap.lt_size e) I.ok.above))).trans e1⟩
    · by_cases hj : j = i
      · subst hj
        rw [hi] at e1; cases e1
        rw [List.getElem?_set_self hiσ] at e2
        cases e2
        exact ⟨u, r, .inl ⟨hk, by simp⟩⟩
      · rw [List.getElem?_set_ne (Ne.symm hj)] at e2
        obtain ⟨u', r', q⟩ := hl j y v' e1 e2 e3
        refine ⟨u', r', ?_⟩
        rcases q with ⟨k, e⟩ | ⟨k, c, e, z⟩
        · refine .inl ⟨k, ?_⟩
          have : y ≠ x := fun e => hj (nodup_ix hN e1 (e ▸ hi))
          simp [this, e]
        · exact .inr ⟨k, c, e, z.sameBut hs (cne y c e)⟩
    · obtain ⟨w', z⟩ := I.cell y c e
      exact ⟨w', z.sameBut hs (cne y c e)⟩
    · obtain ⟨e, n, ne, nf, d⟩ := I.pin p hp
      exact ⟨(hs.2 p.1 ne).trans e, n, ne, nf, d⟩
  · have hfn : X.fn x = true := by
      rcases hf with z | z
      · exact z
      · rw [z] at hk; cases hk
    obtain ⟨c, hc⟩ := I.ok.has x (.inl hk)
    obtain ⟨w', z⟩ := I.cell x c hc
    refine wpAny_storeName_cell I.ok.kind hk hc z (fun h' hc' hs => ?_)
    obtain ⟨oc, hoc, hocd⟩ := id z
    refine h { s with heap := h' } ⟨I.ok, I.os, I.bare, ⟨fun b o e n hb hx => ?_, fun b o e n hb hx => ?_, I.base.free, fun b o e hx => ?_, I.base.tups, I.base.frzs, I.base.tbls⟩, ⟨m, hn.sameBut hs (Ne.symm (cne x c hc)), fun j y v' e1 e2 e3 => ?_⟩, fun y c' e => ?_, I.free, I.freeC, fun p hp => ?_, tracked ⟨oc, hoc, I.freeC x c hc⟩ hs, by simpa using I.len⟩ ⟨c, hs, .inr hc⟩
    · exact (hs.2 b (Nat.ne_of_lt (Nat.lt_of_lt_of_le (Heap.lt_size e) (I.ok.cab x c hfn hc)))).trans (I.base.keep b o e n hb hx)
    · obtain ⟨sl, e1⟩ := I.base.slot b o e n hb hx
      exact ⟨sl, (hs.2 b (Nat.ne_of_lt (Nat.lt_of_lt_of_le (Heap.lt_size e) (I.ok.cab x c hfn hc)))).trans e1⟩
    · obtain ⟨o', e1⟩ := I.base.there b o e hx
      exact ⟨o', (hs.2 b (Nat.ne_of_lt (Nat.lt_of_lt_of_le (Heap.lt_size e) (I.ok.cab x c hfn hc)))).trans e1⟩
    · by_cases hj : j = i
      · subst hj
        rw [hi] at e1; cases e1
        rw [List.getElem?_set_self hiσ] at e2
        cases e2
        exact ⟨u, r, .inr ⟨.inl hk, c, hc, hc'⟩⟩
      · rw [List.getElem?_set_ne (Ne.symm hj)] at e2
        obtain ⟨u', r', q⟩ := hl j y v' e1 e2 e3
        refine ⟨u', r', ?_⟩
        rcases q with q | ⟨k, c', e, z'⟩
        · exact .inl q
        · refine .inr ⟨k, c', e, z'.sameBut hs ?_⟩
          rintro rfl
          exact hj (nodup_ix hN e1 (I.ok.inj _ _ _ e hc ▸ hi))
    · by_cases hcc : c' = c
      · subst hcc; exact ⟨_, hc'⟩
      · obtain ⟨w2, z2⟩ := I.cell y c' e
        exact ⟨w2, z2.sameBut hs hcc⟩
    · obtain ⟨e, n, ne, nf, d⟩ := I.pin p hp
      refine ⟨(hs.2 p.1 ?_).trans e, n, ne, nf, d⟩
      intro q
      rw [q, hoc] at e
      have q' : oc = p.2 := Option.some.inj e
      exact d w' (by rw [← q']; exact hocd)
theorem store_ok {M : Model} {A : Around} {E : Value → Shared → Prop} {i : Nat} {x : Str} {v : V} {u : Value} {Q : Unit → Shared → Prop} (I : Inv X pins σ H s) (hN : X.N.Nodup) (hi : X.N[i]? = some x) (hx : Loc X.env.scope x) (r : RelV v u)
    (h : ∀ s', Inv X pins (σ.set i (some v)) H s' → Q () s') (hf : X.fn x = true ∨ X.env.scope.names.lookup x = some .local := by first | exact .inl rfl | exact .inr rfl | assumption) : wpAny M A (storeName X.env x u) Q E s :=
  store_ok2 I hN hi hx r (fun s' I' _ => h s' I') hf
theorem Inv.call' {s' : Shared} {ch : List Addr} (I : Inv X pins σ H s) (ho : s'.os = s.os) (u : Un (frs X.stack) ch H H' s.heap s'.heap) (hok : HOk X.prog X.w H' s'.heap) (hg : AllBare s'.gens)
    (hch : ∀ b ∈ ch, (b ∈ X.ex ∨ X.s₀.heap.objs.size ≤ b) ∧ b ≠ X.env.locals ∧ (∀ x c, X.env.cells.lookup x = some c → c ≠ b) ∧ ∀ p ∈ X.pn ++ pins, p.1 ≠ b) : Inv X pins σ H' s' := by
  obtain ⟨h', g', d', t', o'⟩ := s'
  have e : o' = s.os := ho
  subst e
  exact I.call (g' := g') (t' := t') (d' := d') u hok hg hch
end
abbrev XK := Value → Option Addr → Hp → Prop
abbrev St := List (Option V)
abbrev VK := V → Hp → Prop
abbrev TE := St → Hp → VK → Prop
abbrev TT := St → Hp → (Bool → Hp → Prop) → Prop
abbrev TA := St → Hp → (List V → Hp → Prop) → Prop
structure Ends where
  nx : St → Hp → Prop
  rt : VK
  bk : St → Hp → Prop := fun _ _ => False
  ct : St → Hp → Prop := fun _ _ => False
abbrev TS := Ends → St → Hp → Prop
def EP (X : Cx) (pins : List (Addr × Obj)) (σ : St) (Q : VK) (u : Value) (s' : Shared) : Prop := ∃ v H', Inv X pins σ H' s' ∧ RelV v u ∧ Q v H'
def TP (X : Cx) (pins : List (Addr × Obj)) (σ : St) (Q : Bool → Hp → Prop) (b : Bool) (s' : Shared) : Prop := ∃ H', Inv X pins σ H' s' ∧ Q b H'
def AP (X : Cx) (pins : List (Addr × Obj)) (σ : St) (Q : List V → Hp → Prop) (us : List Value) (s' : Shared) : Prop := ∃ vs H', Inv X pins σ H' s' ∧ Vals vs us ∧ Q vs H'
def SP (X : Cx) (pins : List (Addr × Obj)) (D : Ends) (f : Flow) (s' : Shared) : Prop :=
  match f with
  | .next => ∃ σ' H', Inv X pins σ' H' s' ∧ D.nx σ' H'
  | .brk => ∃ σ' H', Inv X pins σ' H' s' ∧ D.bk σ' H'
  | .cont => ∃ σ' H', Inv X pins σ' H' s' ∧ D.ct σ' H'
  | .ret u => ∃ v σ' H', Inv X pins σ' H' s' ∧ RelV v u ∧ D.rt v H'
def PE (X : Cx) (e : Expr) (t : TE) : Prop :=
  ∀ (pins : List (Addr × Obj)) (s : Shared) (σ : St) (H : Hp) (Q : VK), Inv X pins σ H s → t σ H Q → wpAny (model X.prog X.w) X.A (eval e X.env) (EP X pins σ Q) X.xe s
def PT (X : Cx) (e : Expr) (t : TT) : Prop :=
  ∀ (pins : List (Addr × Obj)) (s : Shared) (σ : St) (H : Hp) (Q : Bool → Hp → Prop), Inv X pins σ H s → t σ H Q → wpAny (model X.prog X.w) X.A (isTrue e X.env (eval e X.env)) (TP X pins σ Q) X.xe s
def PW (X : Cx) (e : Expr) (t : TT) : Prop :=
  ∀ (whole : Sem Value) (pins : List (Addr × Obj)) (s : Shared) (σ : St) (H : Hp) (Q : Bool → Hp → Prop), Inv X pins σ H s → t σ H Q → wpAny (model X.prog X.w) X.A (isTrue e X.env whole) (TP X pins σ Q) X.xe s
theorem PW.pt {X : Cx} {e : Expr} {t : TT} (h : PW X e t) : PT X e t := h _
def PA (X : Cx) (es : List Expr) (t : TA) : Prop :=
  ∀ (pos : Pos) (pins : List (Addr × Obj)) (s : Shared) (σ : St) (H : Hp) (Q : List V → Hp → Prop), Inv X pins σ H s → t σ H Q → wpAny (model X.prog X.w) X.A (spliced (backTo pos (starEach es X.env))) (AP X pins σ Q) X.xe s
def PS (X : Cx) (st : Stmt) (t : TS) : Prop :=
  ∀ (pins : List (Addr × Obj)) (s : Shared) (σ : St) (H : Hp) (D : Ends), Inv X pins σ H s → t D σ H → wpAny (model X.prog X.w) X.A (exec st X.env) (SP X pins D) X.xe s
def PSs (X : Cx) (st : List Stmt) (t : TS) : Prop :=
  ∀ (pins : List (Addr × Obj)) (s : Shared) (σ : St) (H : Hp) (D : Ends), Inv X pins σ H s → t D σ H → wpAny (model X.prog X.w) X.A (execs st X.env) (SP X pins D) X.xe s
theorem thn {α : Type} {t : Sem α} {Q Q' : α → Shared → Prop} {M : Model} {A : Around} {E : Value → Shared → Prop} {s : Shared} (h : wpAny M A t Q E s) (hQ : ∀ a s, Q a s → Q' a s) : wpAny M A t Q' E s := wpAny_mono h hQ fun _ _ x => x
end L2
namespace L2
open PySem PySem.Spec PyProof.Rows
section
variable {X : Cx}
def tVar (i : Nat) : TE := fun σ H Q => ∃ v, σ[i]? = some (some v) ∧ Q v H
def tC (v : V) : TE := fun _ H Q => Q v H
theorem pe_var {i : Nat} {x : Str} {pos : Pos} (hN : X.N[i]? = some x) (hv : Vis X.env.scope x) (hd : (x == ("__debug__" : Str)) = false := by decide) (hcd : (x == ("__classdict__" : Str)) = false := by decide) : PE X (.Name x pos) (tVar i) := by
  intro pins s σ H Q I h
  obtain ⟨v, e, h⟩ := h
  obtain ⟨m, hn, hl⟩ := I.loc
  obtain ⟨u, r, l⟩ := hl i x v hN e hv
  have fin : EP X pins σ Q u s := ⟨v, H, I, r, h⟩
  rcases l with ⟨hk, hm⟩ | ⟨hk, c, hc, hcell⟩
  · exact wpAny_Name (wpAny_loadName_local I.ok.kind hk hn hm fin) hd
  · rcases hk with hk | hk
    · exact wpAny_Name (wpAny_loadName_cell I.ok.kind hk hc hcell fin) hd
    · exact wpAny_Name (wpAny_loadName_free I.ok.kind hk hc hcell fin hcd) hd
theorem pe_int {i j pos} : PE X (.Constant (.int i) j pos) (tC (.int i)) := fun _ _ _ H _ I h => wpAny_Constant_int ⟨.int i, H, I.tok _, ⟨_, rfl⟩, h⟩
theorem pe_bl {b j pos} : PE X (.Constant (.bool b) j pos) (tC (.bl b)) := fun _ _ _ H _ I h => Constant_bool ⟨.bl b, H, I, rfl, h⟩
theorem pe_non {j pos} : PE X (.Constant .none j pos) (tC .non) := fun _ _ _ H _ I h => Constant_none ⟨.non, H, I, rfl, h⟩
theorem pe_str {x j pos} : PE X (.Constant (.str x) j pos) (tC (.str x)) := fun _ _ _ H _ I h => Calls.Constant_str ⟨.str x, H, I.tok _, ⟨_, rfl⟩, h⟩
def Gl (X : Cx) (x : Str) : Prop := X.env.kindOf x = some .globalImplicit
theorem ld_glob {E : Value → Shared → Prop} {pins : List (Addr × Obj)} {s : Shared} {σ : St} {H : Hp} {x : Str} {u : Value} {pos : Pos} {Q : Value → Shared → Prop} (I : Inv X pins σ H s) (hg : Gl X x) (hm : X.mg x = some u) (h : Q u s)
    (hd : (x == ("__debug__" : Str)) = false := by decide) : wpAny (model X.prog X.w) X.A (eval (.Name x pos) X.env) Q E s :=
  Calls.Name_function_global I.ok.kind hg (Calls.loadGlobal_global (by rw [I.ok.glob]; exact I.mod.glob.keeps I.bk) hm h) hd
theorem ld_blt {E : Value → Shared → Prop} {pins : List (Addr × Obj)} {s : Shared} {σ : St} {H : Hp} {x : Str} {u : Value} {pos : Pos} {Q : Value → Shared → Prop} (I : Inv X pins σ H s) (hg : Gl X x) (hm : X.mg x = none) (hv : bootBuiltins x = some u) (h : Q u s)
    (hn : x ≠ "__name__" := by decide) (hd : (x == ("__debug__" : Str)) = false := by decide) : wpAny (model X.prog X.w) X.A (eval (.Name x pos) X.env) Q E s := by
  obtain ⟨mb, h1, h2⟩ := I.mod.blt
  exact Calls.Name_function_global I.ok.kind hg (Calls.loadGlobal_builtin (by rw [I.ok.glob]; exact I.mod.glob.keeps I.bk) hm (by rw [I.ok.blt]; exact h1.keeps I.bk) ((h2 x hn).trans hv) h) hd
theorem pe_glob {x : Str} {v : V} {u : Value} {pos : Pos} (hg : Gl X x) (hm : X.mg x = some u) (r : RelV v u) (hd : (x == ("__debug__" : Str)) = false := by decide) : PE X (.Name x pos) (tC v) :=
  fun _ _ _ H _ I h => ld_glob I hg hm ⟨v, H, I, r, h⟩ hd
theorem pe_bltn {x : Str} {v : V} {u : Value} {pos : Pos} (hg : Gl X x) (hm : X.mg x = none) (hv : bootBuiltins x = some u) (r : RelV v u) (hn : x ≠ "__name__" := by decide) (hd : (x == ("__debug__" : Str)) = false := by decide) : PE X (.Name x pos) (tC v) :=
  fun _ _ _ H _ I h => ld_blt I hg hm hv ⟨v, H, I, r, h⟩ hn hd
variable {a b : Expr} {ta tb : TE} {pos : Pos}
def PC (X : Cx) (op : CmpOp) (a b : Expr) (t : TE) : Prop :=
  ∀ (pins : List (Addr × Obj)) (s : Shared) (σ : St) (H : Hp) (Q : VK), Inv X pins σ H s → t σ H Q →
    wpAny (model X.prog X.w) X.A (eval a X.env) (fun v s₁ => wpAny (model X.prog X.w) X.A (eval b X.env) (fun u s₂ => wpAny (model X.prog X.w) X.A (compareOp op v u) (EP X pins σ Q) X.xe s₂) X.xe s₁) X.xe s
theorem nobehind (b : Expr) {op : CmpOp} (h : op ≠ .In) (h2 : op ≠ .NotIn) : behindInMarks op b = false := by
  have e1 : (op == CmpOp.In) = false := by cases op <;> first | rfl | exact absurd rfl h
  have e2 : (op == CmpOp.NotIn) = false := by cases op <;> first | rfl | exact absurd rfl h2
  cases b <;> simp [behindInMarks, e1, e2]
def tIsN (ta : TE) : TE := fun σ H Q => ta σ H fun x H1 => Q (.bl (decide (x = .non))) H1
def tNotN (ta : TE) : TE := fun σ H Q => ta σ H fun x H1 => Q (.bl (!decide (x = .non))) H1
theorem RelV.none_iff {x : V} {v : Value} (r : RelV x v) : (v == Value.none) = decide (x = .non) := by
  cases x with
  | non => cases r; rfl
  | bl _ => cases r; rfl
  | int _ => obtain ⟨t, rfl⟩ := r; rfl
  | str _ => obtain ⟨t, rfl⟩ := r; rfl
  | byt _ => obtain ⟨t, rfl⟩ := r; rfl
  | flt _ => obtain ⟨t, rfl⟩ := r; rfl
  | ref _ => cases r; rfl
  | ty _ => cases r; rfl
theorem pc_isN {j pos'} (ha : PE X a ta) : PC X .Is a (.Constant .none j pos') (tIsN ta) := by
  intro pins s σ H Q I h
  refine thn (ha pins s σ H _ I h) fun v s1 ⟨x, H1, I1, r1, q1⟩ => ?_
  exact Constant_none (is_none_gen ⟨.bl _, H1, I1, by rw [r1.none_iff]; rfl, q1⟩)
theorem pc_notN {j pos'} (ha : PE X a ta) : PC X .IsNot a (.Constant .none j pos') (tNotN ta) := by
  intro pins s σ H Q I h
  refine thn (ha pins s σ H _ I h) fun v s1 ⟨x, H1, I1, r1, q1⟩ => ?_
  exact Constant_none (isnot_none_gen ⟨.bl _, H1, I1, by rw [r1.none_iff]; rfl, q1⟩)
def tB (t : TE) : TT := fun σ H Q => t σ H fun x H1 => ∃ c, x = .bl c ∧ Q c H1
theorem pt_cmp {op : CmpOp} {t : TE} (h : PC X op a b t) (h1 : behindInMarks op b = false := by first | exact nobehind _ (by decide) (by decide) | rfl) : PT X (.Compare a [op] [b] pos) (tB t) := by
  intro pins s σ H Q I hw
  refine wpAny_isTrue_Compare1 (thn (h pins s σ H _ I hw) fun v s1 h1 => thn h1 fun u s2 h2 => thn h2 fun c s3 ⟨x, H1, I1, r1, q1⟩ => ?_) h1
  obtain ⟨d, rfl, q⟩ := q1
  cases r1
  exact wpAny_truthy_bool ⟨H1, I1, q⟩
theorem pt_val {e : Expr} {t : TE} (h : PE X e t) (he : ∀ whole, isTrue e X.env whole = (do let v ← whole; standAt e.pos; holding [v] (truthy v)) := by intro _; rfl) : PT X e (tB t) := by
  intro pins s σ H Q I hw
  refine isTrue_plain (thn (h pins s σ H _ I hw) fun v s1 ⟨x, H1, I1, r1, q1⟩ => ?_) (he _)
  obtain ⟨d, rfl, q⟩ := q1
  cases r1
  exact wpAny_truthy_bool ⟨H1, I1, q⟩
variable {tA tB' : TT} {rest : List Expr}
def tAnd (t u : TT) : TT := fun σ H Q => t σ H fun c H1 => if c = true then u σ H1 Q else Q false H1
def tOr (t u : TT) : TT := fun σ H Q => t σ H fun c H1 => if c = true then Q true H1 else u σ H1 Q
theorem pw_and1 (ha : PT X a tA) : PW X (.BoolOp .And [a] pos) tA := by
  intro wh pins s σ H Q I h
  refine isTrue_and (thn (ha pins s σ H Q I h) fun c s1 e => ?_)
  cases c with
  | true => exact isTrue_and_nil e
  | false => exact e
theorem pw_or1 (ha : PT X a tA) : PW X (.BoolOp .Or [a] pos) tA := by
  intro wh pins s σ H Q I h
  refine isTrue_or (thn (ha pins s σ H Q I h) fun c s1 e => ?_)
  cases c with
  | false => exact isTrue_or_nil e
  | true => exact e
theorem pw_and (ha : PT X a tA) (hb : PW X (.BoolOp .And (b :: rest) pos) tB') : PW X (.BoolOp .And (a :: b :: rest) pos) (tAnd tA tB') := by
  intro wh pins s σ H Q I h
  refine isTrue_and (thn (ha pins s σ H _ I h) fun c s1 ⟨H1, I1, q1⟩ => ?_)
  cases c with
  | true => exact hb wh pins s1 σ H1 Q I1 q1
  | false => exact ⟨H1, I1, q1⟩
theorem pw_or (ha : PT X a tA) (hb : PW X (.BoolOp .Or (b :: rest) pos) tB') : PW X (.BoolOp .Or (a :: b :: rest) pos) (tOr tA tB') := by
  intro wh pins s σ H Q I h
  refine isTrue_or (thn (ha pins s σ H _ I h) fun c s1 ⟨H1, I1, q1⟩ => ?_)
  cases c with
  | true => exact ⟨H1, I1, q1⟩
  | false => exact hb wh pins s1 σ H1 Q I1 q1
def tIf (t : TT) (ta tb : TE) : TE := fun σ H Q => t σ H fun c H1 => if c = true then ta σ H1 Q else tb σ H1 Q
theorem pe_ifExp {c : Expr} (hc : PT X c tA) (ha : PE X a ta) (hb : PE X b tb) : PE X (.IfExp c a b pos) (tIf tA ta tb) := by
  intro pins s σ H Q I h
  refine wpAny_IfExp (thn (hc pins s σ H _ I h) fun d s1 ⟨H1, I1, q1⟩ => ?_)
  cases d with
  | true => exact ha pins s1 σ H1 Q I1 q1
  | false => exact hb pins s1 σ H1 Q I1 q1
end
end L2
namespace L2
open PySem PySem.Spec PyProof.Rows
def SqL (K : PySem.W.Frag) (H : Hp) (a : Addr) (xs : List V) : Prop :=
  Rd H a (.lst xs) ∨
    ∃ (o : Obj) (its : Array Value) (n : Nat), K.lookup a = some o ∧ o.cls = .type "list" ∧ o.dict = none ∧ o.data = .seq its n ∧ its.size ≤ sizeLine ∧ Vals xs its.toList
def SqT (K : PySem.W.Frag) (H : Hp) (a : Addr) (xs : List V) : Prop :=
  Rd H a (.tup xs) ∨
    ∃ (o : Obj) (its : Array Value) (n : Nat), K.lookup a = some o ∧ o.cls = .type "tuple" ∧ o.data = .seq its n ∧ its.size ≤ sizeLine ∧ Vals xs its.toList
def absV : Value → Option V
  | .none => some .non
  | .bool b => some (.bl b)
  | .int i _ => some (.int i)
  | .str x _ => some (.str x)
  | .bytes b _ => some (.byt b)
  | .float b _ => some (.flt b)
  | .ref a => some (.ref a)
  | .type n => some (.ty n)
  | _ => none
theorem RelV.abs {x : V} {u : Value} (r : RelV x u) : absV u = some x := by
  cases x with
  | non => cases r; rfl
  | bl _ => cases r; rfl
  | int _ => obtain ⟨t, rfl⟩ := r; rfl
  | str _ => obtain ⟨t, rfl⟩ := r; rfl
  | byt _ => obtain ⟨t, rfl⟩ := r; rfl
  | flt _ => obtain ⟨t, rfl⟩ := r; rfl
  | ref _ => cases r; rfl
  | ty _ => cases r; rfl
theorem RelV.inj {x y : V} {u : Value} (r : RelV x u) (q : RelV y u) : x = y := Option.some.inj (r.abs.symm.trans q.abs)
theorem Vals.inj : ∀ {xs ys : List V} {us : List Value}, Vals xs us → Vals ys us → xs = ys
  | _, _, _, .nil, .nil => rfl
  | _, _, _, .cons r t, .cons r' t' => by rw [r.inj r', Vals.inj t t']
section
variable {X : Cx} {pins : List (Addr × Obj)} {σ : St} {H : Hp} {s : Shared} {a : Addr} {xs ys : List V}
theorem SqL.of {K : PySem.W.Frag} (h : H a = some (.lst xs)) : SqL K H a xs := .inl (.inl h)
theorem SqT.of {K : PySem.W.Frag} (h : H a = some (.tup xs)) : SqT K H a xs := .inl (.inl h)
theorem Inv.list (I : Inv X pins σ H s) (h : SqL X.K H a xs) : ∃ its : List Value, Vals xs its ∧ PlainL s.heap a its.toArray ∧ xs.length ≤ sizeLine := by
  rcases h with h | ⟨o, its, n, hk, hc, hd, hs, hz, r⟩
  · obtain ⟨z, its, n, r, e⟩ := h.ok I.hok
    exact ⟨its, r, ⟨_, n, e, rfl, rfl, rfl⟩, z⟩
  · refine ⟨its.toList, r, ⟨o, n, I.kIn a o hk, hc, hd, by simpa using hs⟩, ?_⟩
    have e := r.length
    simp only [Array.length_toList] at e
    omega
theorem Inv.tuple (I : Inv X pins σ H s) (h : SqT X.K H a xs) : ∃ its : List Value, Vals xs its ∧ IsTup s.heap a its.toArray ∧ xs.length ≤ sizeLine := by
  rcases h with h | ⟨o, its, n, hk, hc, hs, hz, r⟩
  · obtain ⟨z, its, r, p⟩ := h.ok I.hok
    exact ⟨its, r, p, z⟩
  · refine ⟨its.toList, r, ⟨o, I.kIn a o hk, hc, n, by simpa using hs⟩, ?_⟩
    have e := r.length
    simp only [Array.length_toList] at e
    omega
theorem Inv.list_inj (I : Inv X pins σ H s) (h : SqL X.K H a xs) (h' : SqL X.K H a ys) : xs = ys := by
  obtain ⟨its, r, ⟨o, n, e, _, _, d⟩, _⟩ := I.list h
  obtain ⟨its', r', ⟨o', n', e', _, _, d'⟩, _⟩ := I.list h'
  rw [e] at e'; cases e'
  rw [d] at d'
  injection d' with d1 _
  have : its = its' := by simpa using congrArg Array.toList d1
  subst this
  exact r.inj r'
theorem Inv.tuple_inj (I : Inv X pins σ H s) (h : SqT X.K H a xs) (h' : SqT X.K H a ys) : xs = ys := by
  obtain ⟨its, r, ⟨o, e, _, n, d⟩, _⟩ := I.tuple h
  obtain ⟨its', r', ⟨o', e', _, n', d'⟩, _⟩ := I.tuple h'
  rw [e] at e'; cases e'
  rw [d] at d'
  injection d' with d1 _
  have : its = its' := by simpa using congrArg Array.toList d1
  subst this
  exact r.inj r'
end
abbrev Cx.wish (X : Cx) (E : Value → Shared → Prop) : Cx := { X with xe := E }
abbrev Cx.nox (X : Cx) : Cx := X.wish fun _ _ => False
theorem Cx.Ok.wish {X : Cx} (ok : X.Ok) (E : Value → Shared → Prop) : (X.wish E).Ok :=
  ⟨ok.mod, ok.kind, ok.glob, ok.blt, ok.above, ok.inj, ok.has, ok.cab, ok.hd, ok.frames, ok.stk, ok.exf, ok.bs, ok.bsz, ok.noex, ok.exfs, ok.funs, ok.frf⟩
theorem Cx.Ok.unwish {X : Cx} {E : Value → Shared → Prop} (ok : (X.wish E).Ok) : X.Ok :=
  ⟨ok.mod, ok.kind, ok.glob, ok.blt, ok.above, ok.inj, ok.has, ok.cab, ok.hd, ok.frames, ok.stk, ok.exf, ok.bs, ok.bsz, ok.noex, ok.exfs, ok.funs, ok.frf⟩
section
variable {X : Cx} {pins : List (Addr × Obj)} {σ : St} {H : Hp} {s : Shared} {E : Value → Shared → Prop}
theorem Inv.wish (I : Inv X pins σ H s) (E : Value → Shared → Prop) : Inv (X.wish E) pins σ H s := ⟨I.ok.wish E, I.os, I.bare, I.base, I.loc, I.cell, I.free, I.freeC, I.pin, I.hok, I.len⟩
theorem Inv.unwish (I : Inv (X.wish E) pins σ H s) : Inv X pins σ H s := ⟨I.ok.unwish, I.os, I.bare, I.base, I.loc, I.cell, I.free, I.freeC, I.pin, I.hok, I.len⟩
theorem SP.unwish {D : Ends} {f : Flow} {s' : Shared} (h : SP (X.wish E) pins D f s') : SP X pins D f s' := by
  cases f with
  | next => obtain ⟨σ', H', I, q⟩ := h; exact ⟨σ', H', I.unwish, q⟩
  | brk => obtain ⟨σ', H', I, q⟩ := h; exact ⟨σ', H', I.unwish, q⟩
  | cont => obtain ⟨σ', H', I, q⟩ := h; exact ⟨σ', H', I.unwish, q⟩
  | ret u => obtain ⟨v, σ', H', I, r, q⟩ := h; exact ⟨v, σ', H', I.unwish, r, q⟩
theorem PSs.nox {st : List Stmt} {t : TS} (h : PSs X.nox st t) : PSs X st t := fun pins s σ H D I hw =>
  wpAny_mono (h pins s σ H D (I.wish _) hw) (fun _ _ q => q.unwish) fun _ _ z => False.elim z
end
section
variable {X : Cx} {st : Stmt} {rest : List Stmt} {t u : TS} {e : Expr} {te : TE} {pos : Pos}
def tNext : TS := fun D σ H => D.nx σ H
def tSeq (t u : TS) : TS := fun D σ H => t { D with nx := u D } σ H
theorem pss_nil : PSs X [] tNext := fun _ _ σ H _ I h => wpAny_execs_nil ⟨σ, H, I, h⟩
theorem pss_cons (h1 : PS X st t) (h2 : PSs X rest u) : PSs X (st :: rest) (tSeq t u) := by
  intro pins s σ H D I h
  refine wpAny_execs_cons (thn (h1 pins s σ H { D with nx := u D } I h) fun f s1 q => ?_)
  cases f with
  | next =>
    obtain ⟨σ', H', I', q⟩ := q
    exact h2 pins s1 σ' H' D I' q
  | ret v => exact q
  | brk => exact q
  | cont => exact q
theorem pss_one (h1 : PS X st t) : PSs X [st] t := by
  intro pins s σ H D I h
  refine wpAny_execs_cons (thn (h1 pins s σ H D I h) fun f s1 q => ?_)
  cases f with
  | next => exact wpAny_execs_nil q
  | ret v => exact q
  | brk => exact q
  | cont => exact q
theorem Inv.quiet {pins : List (Addr × Obj)} {σ : St} {H : Hp} {s : Shared} (I : Inv X pins σ H s) : interactive X.env = false := by simp [interactive, I.ok.kind]
def tDrop (te : TE) : TS := fun D σ H => te σ H fun _ H1 => D.nx σ H1
theorem ps_expr (he : PE X e te) (hs : swapsWith e none pos.line X.env = pure false := by rfl) : PS X (.Expr e pos) (tDrop te) := by
  intro pins s σ H D I h
  exact wpAny_Expr_any (thn (he pins s σ H _ I h) fun v s1 ⟨x, H1, I1, r1, q1⟩ => ⟨σ, H1, I1, q1⟩) I.quiet hs
def tRet (te : TE) : TS := fun D σ H => te σ H D.rt
theorem ps_ret (he : PE X e te) : PS X (.Return (some e) pos) (tRet te) := by
  intro pins s σ H D I h
  exact wpAny_Return_some (thn (he pins s σ H _ I h) fun v s1 ⟨x, H1, I1, r1, q1⟩ => ⟨x, σ, H1, I1, r1, q1⟩)
def tIfS (c : TT) (t u : TS) : TS := fun D σ H => c σ H fun b H1 => if b = true then t D σ H1 else u D σ H1
theorem ps_if {c : Expr} {a b : List Stmt} {tc : TT} (hc : PT X c tc) (ha : PSs X a t) (hb : PSs X b u) : PS X (.If c a b pos) (tIfS tc t u) := by
  intro pins s σ H D I h
  refine wpAny_If (thn (hc pins s σ H _ I h) fun d s1 ⟨H1, I1, q1⟩ => ?_)
  cases d with
  | true => exact ha pins s1 σ H1 D I1 q1
  | false => exact hb pins s1 σ H1 D I1 q1
end
abbrev TG := V → St → Hp → (St → Hp → Prop) → Prop
abbrev TGs := List V → St → Hp → (St → Hp → Prop) → Prop
def PG (X : Cx) (target : Expr) (t : TG) : Prop :=
  ∀ (pins : List (Addr × Obj)) (s : Shared) (σ : St) (H : Hp) (v : V) (u : Value) (Q : St → Hp → Prop), Inv X pins σ H s → RelV v u → t v σ H Q →
    wpAny (model X.prog X.w) X.A (assign target X.env u) (fun _ s' => ∃ σ' H', Inv X pins σ' H' s' ∧ Q σ' H') X.xe s
def PGs (X : Cx) (ts : List Expr) (t : TGs) : Prop :=
  ∀ (pins : List (Addr × Obj)) (s : Shared) (σ : St) (H : Hp) (vs : List V) (us : List Value) (Q : St → Hp → Prop), Inv X pins σ H s → Vals vs us → t vs σ H Q →
    wpAny (model X.prog X.w) X.A (assignInOrder ((assignEach ts X.env).map (·.2)) us) (fun _ s' => ∃ σ' H', Inv X pins σ' H' s' ∧ Q σ' H') X.xe s
section
variable {X : Cx} {pos : Pos}
def gName (i : Nat) : TG := fun v σ H Q => Q (σ.set i (some v)) H
theorem pg_name {i : Nat} {x : Str} (hN : X.N.Nodup) (hi : X.N[i]? = some x) (hx : Loc X.env.scope x) (hf : X.fn x = true ∨ X.env.scope.names.lookup x = some .local := by first | exact .inl rfl | exact .inr rfl | assumption) : PG X (.Name x pos) (gName i) := by
  intro pins s σ H v u Q I r h
  exact wpAny_assign_Name (store_ok I hN hi hx r (fun s' I' => ⟨_, H, I', h⟩) hf)
def gNil : TGs := fun vs σ H Q => vs = [] ∧ Q σ H
def gCons (t : TG) (u : TGs) : TGs := fun vs σ H Q => ∃ v r, vs = v :: r ∧ t v σ H fun σ' H' => u r σ' H' Q
theorem pgs_nil : PGs X [] gNil := by
  intro pins s σ H vs us Q I r h
  obtain ⟨e, h⟩ := h
  subst e
  cases r
  exact assignInOrder_nil ⟨σ, H, I, h⟩
theorem pgs_cons {e : Expr} {es : List Expr} {t : TG} {u : TGs} (h1 : PG X e t) (h2 : PGs X es u)
    (hs : (assignEach (e :: es) X.env).map (·.2) = assign e X.env :: (assignEach es X.env).map (·.2) := by rfl) : PGs X (e :: es) (gCons t u) := by
  intro pins s σ H vs us Q I r h
  obtain ⟨v, vr, e1, h⟩ := h
  subst e1
  cases r with
  | cons r rr =>
    rw [hs]
    refine assignInOrder_cons (thn (h1 pins s σ H _ _ _ I r h) fun _ s1 ⟨σ1, H1, I1, q1⟩ => ?_)
    exact h2 pins s1 σ1 H1 _ _ Q I1 rr q1
def gTup (K : PySem.W.Frag) (n : Nat) (t : TGs) : TG := fun v σ H Q => ∃ a xs, v = .ref a ∧ SqT K H a xs ∧ xs.length = n ∧ t xs σ H Q
theorem pg_tup {es : List Expr} {k : Nat} {t : TGs} {n : Nat} (hc : X.calm = true) (h : PGs X es t)
    (hn : (assignEach es X.env).length = n := by rfl) (hst : (assignEach es X.env).findIdx? (·.1) = none := by rfl) : PG X (.Tuple es k pos) (gTup X.K n t) := by
  intro pins s σ H v u Q I r hw
  obtain ⟨a, xs, e1, hq, hl, hw⟩ := hw
  subst e1
  cases r
  obtain ⟨its, rv, ht, hz⟩ := I.tuple hq
  refine assign_Tuple_tuple (I.ok.hd hc) ht (by simp [hn, ← hl, rv.length]) hst fun h' hx => ?_
  have I1 : Inv X pins σ H { s with heap := h' } := I.kept (t' := s.toks) fun b o e => hx b o (Nat.ne_of_lt (Heap.lt_size e)) e
  exact h pins _ σ H xs _ Q I1 (by simpa using rv) hw
def tAsg (te : TE) (g : TG) : TS := fun D σ H => te σ H fun x H1 => g x σ H1 D.nx
theorem ps_set {i : Nat} {x : Str} {e : Expr} {te : TE} {pos' : Pos} (hN : X.N.Nodup) (hi : X.N[i]? = some x) (hx : Loc X.env.scope x) (he : PE X e te) (hs : swapsWith e (some (.Name x pos')) pos.line X.env = pure false := by rfl) (hf : X.fn x = true ∨ X.env.scope.names.lookup x = some .local := by first | exact .inl rfl | exact .inr rfl | assumption) :
    PS X (.Assign [.Name x pos'] e pos) (tAsg te (gName i)) := by
  intro pins s σ H D I h
  refine wpAny_Assign_Name (thn (he pins s σ H _ I h) fun v s1 ⟨y, H1, I1, r1, q1⟩ => ?_) hs
  exact store_ok I1 hN hi hx r1 (fun s2 I2 => ⟨_, H1, I2, q1⟩) hf
end
section
variable {X : Cx} {pos : Pos}
def tWhile (c : TT) (tb : TS) : TS := fun D σ H => ∃ W : Nat → St → Hp → Prop, (∃ m, W m σ H) ∧ ∀ m σ H, W m σ H →
  c σ H fun b H1 => if b = true then ∃ N : St → Hp → Prop, (∀ σ' H', N σ' H' → ∃ m', m' < m ∧ W m' σ' H') ∧ tb { D with nx := N, ct := N, bk := D.nx } σ H1 else D.nx σ H1
theorem ps_while {c : Expr} {body : List Stmt} {tc : TT} {tb : TS} (hp : PassesOwn (model X.prog X.w) X.A X.env X.xe) (hc : PT X c tc) (hb : PSs X body tb) : PS X (.While c body [] pos) (tWhile tc tb) := by
  intro pins s σ H D I h
  obtain ⟨W, ⟨m0, w0⟩, turn⟩ := h
  refine wpAny_While (codeAny_whileLoop (fun n s' => ∃ σ' H', Inv X pins σ' H' s' ∧ W n σ' H') ?_ m0 ⟨σ, H, I, w0⟩)
  rintro n s1 ⟨σ1, H1, I1, w1⟩
  refine wpAny_passesOwn hp (thn (hc pins s1 σ1 H1 _ I1 (turn n σ1 H1 w1)) fun b s2 ⟨H2, I2, q2⟩ => ?_)
  cases b with
  | true =>
    obtain ⟨N, hN, q2⟩ := q2
    rw [if_pos rfl]
    refine wpAny_passesOwn hp (thn (hb pins s2 σ1 H2 _ I2 q2) fun f s3 q3 => ?_)
    cases f with
    | next =>
      obtain ⟨σ3, H3, I3, n3⟩ := q3
      obtain ⟨m', hm, w3⟩ := hN σ3 H3 n3
      exact ⟨m', hm, σ3, H3, I3, w3⟩
    | cont =>
      obtain ⟨σ3, H3, I3, n3⟩ := q3
      obtain ⟨m', hm, w3⟩ := hN σ3 H3 n3
      exact ⟨m', hm, σ3, H3, I3, w3⟩
    | brk => exact q3
    | ret v => exact q3
  | false =>
    rw [if_neg Bool.false_ne_true]
    exact wpAny_execs_nil ⟨σ1, H2, I2, q2⟩
end
structure It where
  go : Nat → Hp → Prop
  yld : Nat → Hp → V → Hp → Prop
  stop : Nat → Hp → Prop
def FpOk (X : Cx) (pins : List (Addr × Obj)) (H : Hp) (b : Addr) : Prop :=
  H b = none ∧ b ≠ X.env.locals ∧ b ∉ X.fs ∧ (b ∈ X.ex ∨ X.s₀.heap.objs.size ≤ b) ∧ (∀ x c, X.env.cells.lookup x = some c → c ≠ b) ∧ ∀ p ∈ X.pn ++ pins, p.1 ≠ b
theorem Inv.fpOk {X : Cx} {pins : List (Addr × Obj)} {σ : St} {H H' : Hp} {s : Shared} {b : Addr} (I : Inv X pins σ H s) (hb : s.heap.objs.size ≤ b) (hn : H' b = none) : FpOk X pins H' b := by
  refine ⟨hn, Nat.ne_of_gt (Nat.lt_of_lt_of_le I.lt hb), I.nofs hb, .inr (Nat.le_trans I.sz hb), fun x c e z => ?_, fun p hp z => ?_⟩
  · obtain ⟨v, q⟩ := I.cell x c e
    exact absurd (Nat.lt_of_lt_of_le q.lt (by rw [z]; exact hb)) (Nat.lt_irrefl _)
  · exact absurd (Nat.lt_of_lt_of_le (Heap.lt_size (I.pin p hp).1) (by rw [z]; exact hb)) (Nat.lt_irrefl _)
structure Turn (P : Program) (w : World) (K : PySem.W.Frag) (tg : Expr) (J : It) (fp : List Addr) (it : Addr) (tn : Nat → Heap → Prop) : Prop where
  mem : it ∈ fp
  obj : ∀ i h, tn i h → ∀ b ∈ fp, ∃ o, h.get? b = some o ∧ ∀ v, o.data ≠ .cell v
  keep : ∀ i h h', tn i h → (∀ b ∈ fp, ∀ o, h.get? b = some o → h'.get? b = some o) → tn i h'
  item : ∀ (X : Cx), X.prog = P → X.w = w → X.K = K → X.calm = true → ∀ (i : Nat) (pins : List (Addr × Obj)) (s : Shared) (σ : St) (H : Hp) (E : Value → Shared → Prop), Inv X pins σ H s → (∀ b ∈ fp, FpOk X pins H b) → tn i s.heap → J.go i H →
    wpAny (model P w) X.A (pyNext (.ref it)) (fun r s1 => ∃ u, r = some u ∧
      wpAny (model P w) X.A (letOwnedTupleGo tg (.ref it) u) (fun _ s2 => ∃ x H', Inv X pins σ H' s2 ∧ RelV x u ∧ J.yld i H x H' ∧ tn (i + 1) s2.heap ∧ ∀ b ∈ fp, H' b = none) E s1) E s
  done : ∀ (X : Cx), X.prog = P → X.w = w → X.K = K → X.calm = true → ∀ (i : Nat) (pins : List (Addr × Obj)) (s : Shared) (σ : St) (H : Hp) (E : Value → Shared → Prop), Inv X pins σ H s → (∀ b ∈ fp, FpOk X pins H b) → tn i s.heap → J.stop i H →
    wpAny (model P w) X.A (pyNext (.ref it)) (fun r s1 => r = none ∧ Inv X pins σ H s1) E s
  self : ∀ (A : Around) (i : Nat) (s : Shared) (Q : Value → Shared → Prop) (E : Value → Shared → Prop), tn i s.heap → Q (.ref it) s → wpAny (model P w) A (pyIter (.ref it)) Q E s
abbrev TI := St → Hp → (It → Hp → Prop) → Prop
def PIE (X : Cx) (pins : List (Addr × Obj)) (σ : St) (tg : Expr) (R : It → Hp → Prop) (itv : Value) (s2 : Shared) : Prop :=
  ∃ (it : Addr) (fp : List Addr) (tn : Nat → Heap → Prop) (J : It) (H' : Hp), itv = .ref it ∧ Inv X pins σ H' s2 ∧ Turn X.prog X.w X.K tg J fp it tn ∧ tn 0 s2.heap ∧ (∀ b ∈ fp, FpOk X pins H' b) ∧ R J H'
def PI (X : Cx) (tg iter : Expr) (wi : TI) : Prop :=
  ∀ (pins : List (Addr × Obj)) (s : Shared) (σ : St) (H : Hp) (R : It → Hp → Prop), Inv X pins σ H s → wi σ H R →
    wpAny (model X.prog X.w) X.A (eval iter X.env) (fun v s1 => wpAny (model X.prog X.w) X.A (pyIter v) (PIE X pins σ tg R) X.xe s1) X.xe s
theorem go_of {M : Model} {A : Around} {E : Value → Shared → Prop} {s : Shared} {tg : Expr} {it : Addr} {u : Value} {o : Obj} {n : String} {vs : Array Value} {Q : Unit → Shared → Prop} (ho : s.heap.get? it = some o) (hc : o.cls = .type n) (hd : o.data = .fields vs)
    (hn : ["enumerate", "zip", "dict_itemiterator", "dict_reverseitemiterator", "odict_iterator", "itertools.zip_longest", "itertools.pairwise"].contains n = false) (hQ : Q () s) : wpAny M A (letOwnedTupleGo tg (.ref it) u) Q E s := by
  unfold letOwnedTupleGo
  cases tg <;> first
    | exact wpAny_pure hQ
    | (cases u <;> first
        | exact wpAny_pure hQ
        | (refine wpAny_bind (wpAny_load ho ?_)
           rw [hc, hd]
           show wpAny M A (if (["enumerate", "zip", "dict_itemiterator", "dict_reverseitemiterator", "odict_iterator", "itertools.zip_longest", "itertools.pairwise"].contains n && vs[0]? == some (rawInt _)) = true then _ else _) Q E s
           rw [if_neg (by intro h; rw [hn, Bool.false_and] at h; cases h)]
           exact wpAny_pure hQ))
def Itl (K : PySem.W.Frag) (a : Addr) : It :=
  ⟨fun i H => ∃ xs x, SqL K H a xs ∧ xs[i]? = some x, fun i H x H' => H' = H ∧ ∀ xs, SqL K H a xs → xs[i]? = some x, fun i H => ∃ xs, SqL K H a xs ∧ xs.length ≤ i⟩
def Itt (K : PySem.W.Frag) (a : Addr) : It :=
  ⟨fun i H => ∃ xs x, SqT K H a xs ∧ xs[i]? = some x, fun i H x H' => H' = H ∧ ∀ xs, SqT K H a xs → xs[i]? = some x, fun i H => ∃ xs, SqT K H a xs ∧ xs.length ≤ i⟩
def Itr (lo : Int) (n : Nat) : It := ⟨fun i _ => i < n, fun i H x H' => H' = H ∧ x = .int (lo + i), fun i _ => n ≤ i⟩
theorem turn_list {P : Program} {w : World} {K : PySem.W.Frag} {tg : Expr} (a it : Addr) : Turn P w K tg (Itl K a) [it] it (fun i h => h.IsListIter it a i) where
  mem := by simp
  obj := fun i h st b hb => by
    have e : b = it := by simpa using hb
    subst e
    obtain ⟨o, e, c, d⟩ := st
    exact ⟨o, e, fun v z => by rw [d] at z; cases z⟩
  keep := fun i h h' st k => st.at fun o e => k it (by simp) o e
  item := by
    intro X hP hw hK hc i pins s σ H E I hf st hg
    subst hP hw hK
    obtain ⟨xs, x, hq, hx⟩ := hg
    obtain ⟨its, rv, p, hz⟩ := I.list hq
    obtain ⟨u, hu, ru⟩ := rv.get hx
    obtain ⟨f0, f1, f2, f3, f4, f5⟩ := hf it (by simp)
    refine wpAny_pyNext_list_item st p.isList (x := u) (by simpa using hu) fun h' st' sb => ?_
    have I1 : Inv X pins σ H { s with heap := h' } := I.turned (t' := s.toks) (fun b o hb e => (sb.2 b hb).trans e) f0 f1 f3 f4 f5
    obtain ⟨o, e, c, d⟩ := id st'
    exact ⟨u, rfl, go_of (s := { s with heap := h' }) e c d (by decide) ⟨x, H, I1, ru, ⟨rfl, fun ys hy => by rw [I.list_inj hy hq]; exact hx⟩, st', fun b hb => (hf b hb).1⟩⟩
  done := by
    intro X hP hw hK hc i pins s σ H E I hf st hg
    subst hP hw hK
    obtain ⟨xs, hq, hx⟩ := hg
    obtain ⟨its, rv, p, hz⟩ := I.list hq
    obtain ⟨f0, f1, f2, f3, f4, f5⟩ := hf it (by simp)
    have hl := rv.length
    exact wpAny_pyNext_list_end (I.ok.hd hc) st p.isList (by simp; omega) fun h' eb => ⟨rfl, I.turned (t' := s.toks) (fun b o hb e => eb b o hb e) f0 f1 f3 f4 f5⟩
  self := fun _ _ _ _ _ st h => wpAny_pyIter_listiter st h
theorem turn_tuple {P : Program} {w : World} {K : PySem.W.Frag} {tg : Expr} (a it : Addr) : Turn P w K tg (Itt K a) [it] it (fun i h => h.IsTupleIter it a i) where
  mem := by simp
  obj := fun i h st b hb => by
    have e : b = it := by simpa using hb
    subst e
    obtain ⟨o, e, c, d⟩ := st
    exact ⟨o, e, fun v z => by rw [d] at z; cases z⟩
  keep := fun i h h' st k => st.at fun o e => k it (by simp) o e
  item := by
    intro X hP hw hK hc i pins s σ H E I hf st hg
    subst hP hw hK
    obtain ⟨xs, x, hq, hx⟩ := hg
    obtain ⟨its, rv, p, hz⟩ := I.tuple hq
    obtain ⟨u, hu, ru⟩ := rv.get hx
    obtain ⟨f0, f1, f2, f3, f4, f5⟩ := hf it (by simp)
    refine wpAny_pyNext_tuple_item st (show s.heap.IsTuple a its.toArray from p) (x := u) (by simpa using hu) fun h' st' sb => ?_
    have I1 : Inv X pins σ H { s with heap := h' } := I.turned (t' := s.toks) (fun b o hb e => (sb.2 b hb).trans e) f0 f1 f3 f4 f5
    obtain ⟨o, e, c, d⟩ := id st'
    exact ⟨u, rfl, go_of (s := { s with heap := h' }) e c d (by decide) ⟨x, H, I1, ru, ⟨rfl, fun ys hy => by rw [I.tuple_inj hy hq]; exact hx⟩, st', fun b hb => (hf b hb).1⟩⟩
  done := by
    intro X hP hw hK hc i pins s σ H E I hf st hg
    subst hP hw hK
    obtain ⟨xs, hq, hx⟩ := hg
    obtain ⟨its, rv, p, hz⟩ := I.tuple hq
    obtain ⟨f0, f1, f2, f3, f4, f5⟩ := hf it (by simp)
    have hl := rv.length
    exact wpAny_pyNext_tuple_end (I.ok.hd hc) st (show s.heap.IsTuple a its.toArray from p) (by simp; omega) fun h' eb => ⟨rfl, I.turned (t' := s.toks) (fun b o hb e => eb b o hb e) f0 f1 f3 f4 f5⟩
  self := fun _ _ _ _ _ st h => wpAny_pyIter_tupleiter st h
theorem turn_range {P : Program} {w : World} {K : PySem.W.Frag} {tg : Expr} (it : Addr) (lo : Int) (n : Nat) : Turn P w K tg (Itr lo n) [it] it (fun i h => IsRangeIter h it (lo + (i : Nat) * 1) ((n : Int) - (i : Nat)) 1) where
  mem := by simp
  obj := fun i h st b hb => by
    have e : b = it := by simpa using hb
    subst e
    exact ⟨_, st, fun v z => by
      have z' : Data.fields _ = Data.cell v := z
      cases z'⟩
  keep := fun i h h' st k => k it (by simp) _ st
  item := by
    intro X hP hw hK hc i pins s σ H E I hf st hg
    subst hP hw hK
    obtain ⟨f0, f1, f2, f3, f4, f5⟩ := hf it (by simp)
    have W := Walks.range (prog := X.prog) (w := X.w) (I.ok.hd hc) it lo 1 n
    refine W.item i s _ _ hg st fun v h' tk hv st' kk => ?_
    obtain ⟨t, rfl⟩ := hv
    have I1 : Inv X pins σ H { s with heap := h', toks := tk } := I.turned (fun b o hb e => kk b o (by simpa using hb) e) f0 f1 f3 f4 f5
    refine ⟨_, rfl, go_of (s := { s with heap := h', toks := tk }) (n := "range_iterator") st' rfl rfl (by decide) ⟨.int (lo + i), H, I1, ⟨t, ?_⟩, ⟨rfl, rfl⟩, st', fun b hb => (hf b hb).1⟩⟩
    rw [Int.mul_one]
  done := by
    intro X hP hw hK hc i pins s σ H E I hf st hg
    subst hP hw hK
    obtain ⟨f0, f1, f2, f3, f4, f5⟩ := hf it (by simp)
    exact wpAny_pyNext_range_end (I.ok.hd hc) st (by have : n ≤ i := hg; omega) fun h' eb => ⟨rfl, I.turned (t' := s.toks) (fun b o hb e => eb b o hb e) f0 f1 f3 f4 f5⟩
  self := fun _ _ _ _ _ st h => wpAny_pyIter_rangeiter st h
end L2
namespace L2
open PySem PySem.Spec PyProof.Rows
section
variable {X : Cx} {tg : Expr}
def iList (K : PySem.W.Frag) (tl : TE) : TI := fun σ H R => tl σ H fun x H1 => ∃ a, x = .ref a ∧ (∃ xs, SqL K H1 a xs) ∧ R (Itl K a) H1
def iTup (K : PySem.W.Frag) (tl : TE) : TI := fun σ H R => tl σ H fun x H1 => ∃ a, x = .ref a ∧ (∃ xs, SqT K H1 a xs) ∧ R (Itt K a) H1
theorem pi_list {l : Expr} {tl : TE} (hl : PE X l tl) : PI X tg l (iList X.K tl) := by
  intro pins s σ H R I h
  refine thn (hl pins s σ H _ I h) fun v s1 ⟨x, H1, I1, r1, q1⟩ => ?_
  obtain ⟨a, e, ⟨xs, hq⟩, q⟩ := q1
  subst e
  cases r1
  obtain ⟨its, rv, p, hz⟩ := I1.list hq
  refine wpAny_pyIter_list p.isList ?_
  refine ⟨s1.heap.objs.size, [s1.heap.objs.size], _, _, H1, rfl, I1.kept (t' := s1.toks) fun b o e => Heap.get?_push_of_some _ e, turn_list a _, ⟨_, Heap.get?_push_size _ rfl, rfl, rfl⟩, fun b hb => ?_, q⟩
  have e : b = s1.heap.objs.size := by simpa using hb
  subst e
  exact I1.fpOk (Nat.le_refl _) (I1.hok.fresh (Nat.le_refl _))
theorem pi_tup {l : Expr} {tl : TE} (hl : PE X l tl) : PI X tg l (iTup X.K tl) := by
  intro pins s σ H R I h
  refine thn (hl pins s σ H _ I h) fun v s1 ⟨x, H1, I1, r1, q1⟩ => ?_
  obtain ⟨a, e, ⟨xs, hq⟩, q⟩ := q1
  subst e
  cases r1
  obtain ⟨its, rv, p, hz⟩ := I1.tuple hq
  refine wpAny_pyIter_tuple (show s1.heap.IsTuple a its.toArray from p) ?_
  refine ⟨s1.heap.objs.size, [s1.heap.objs.size], _, _, H1, rfl, I1.kept (t' := s1.toks) fun b o e => Heap.get?_push_of_some _ e, turn_tuple a _, ⟨_, Heap.get?_push_size _ rfl, rfl, rfl⟩, fun b hb => ?_, q⟩
  have e : b = s1.heap.objs.size := by simpa using hb
  subst e
  exact I1.fpOk (Nat.le_refl _) (I1.hok.fresh (Nat.le_refl _))
theorem range_it {pins : List (Addr × Obj)} {σ : St} {H : Hp} {s : Shared} {R : It → Hp → Prop} {E : Value → Shared → Prop} {lo hi : Int} {t u v : Tok} {tk : Nat} (I : Inv X pins σ H s) (h1 : -(2 ^ 62) ≤ lo) (h2 : lo < 2 ^ 62) (h3 : -(2 ^ 62) ≤ hi) (h4 : hi < 2 ^ 62)
    (q : R (Itr lo (hi - lo).toNat) H) : wpAny (model X.prog X.w) X.A (pyIter (.ref s.heap.objs.size)) (PIE X pins σ tg R) E { s with heap := s.heap.push { cls := .type "range", data := .fields #[.int lo t, .int hi u, .int 1 v] }, toks := tk } := by
  refine wpAny_pyIter_range (IsRange.new ..) (small_one h1 h2 h3 h4) ?_
  have I1 : Inv X pins σ H { s with heap := s.heap.push { cls := .type "range", data := .fields #[.int lo t, .int hi u, .int 1 v] }, toks := tk } := I.kept fun b o e => Heap.get?_push_of_some _ e
  refine ⟨(s.heap.push { cls := .type "range", data := .fields #[.int lo t, .int hi u, .int 1 v] }).objs.size, [(s.heap.push { cls := .type "range", data := .fields #[.int lo t, .int hi u, .int 1 v] }).objs.size], _, _, H, rfl,
    I1.kept (t' := tk) fun b o e => Heap.get?_push_of_some _ e, turn_range _ lo (hi - lo).toNat, ?_, fun b hb => ?_, q⟩
  · have e1 : lo + ((0 : Nat) : Int) * 1 = lo := by simp
    have e2 : (((hi - lo).toNat : Nat) : Int) - ((0 : Nat) : Int) = Builtin.Range.rangeSize lo hi 1 := by rw [rangeSize_one]; split <;> omega
    show IsRangeIter _ _ (lo + ((0 : Nat) : Int) * 1) ((((hi - lo).toNat : Nat) : Int) - ((0 : Nat) : Int)) 1
    rw [e1, e2]
    exact Heap.get?_push_size _ rfl
  · have e : b = (s.heap.push { cls := .type "range", data := .fields #[.int lo t, .int hi u, .int 1 v] }).objs.size := by simpa using hb
    subst e
    exact I1.fpOk (Nat.le_refl _) (I1.hok.fresh (Nat.le_refl _))
def iRng1 (ta : TA) : TI := fun σ H R => ta σ H fun vs H1 => ∃ j : Int, vs = [.int j] ∧ -(2 ^ 62) ≤ j ∧ j < 2 ^ 62 ∧ R (Itr 0 j.toNat) H1
theorem pi_range1 {a : Expr} {ta : TA} {p pos : Pos} (hg : Gl X "range") (hm : X.mg "range" = none) (ha : PA X [a] ta) (hs : starEach [a] X.env = [(false, eval a X.env)] := by rfl) : PI X tg (.Call (.Name "range" p) [a] [] pos) (iRng1 ta) := by
  intro pins s σ H R I h
  refine Call_ (ld_blt I hg hm boot_range (PyProof.Rows.callWith_type1 (thn (ha pos pins s σ H _ I h) fun us s1 ⟨vs, H1, I1, r1, q1⟩ => ?_) hs rfl))
  obtain ⟨j, e, q1, q2, q⟩ := q1
  subst e
  cases r1 with
  | cons r rr =>
    cases rr
    obtain ⟨t, rfl⟩ := r
    exact call_range_1 (range_it I1 (by omega) (by omega) q1 q2 (by simpa using q))
def tFor (wi : TI) (g : TG) (tb : TS) : TS := fun D σ H => wi σ H fun J H1 => ∃ W : Nat → Nat → St → Hp → Prop, (∃ m, W 0 m σ H1) ∧ ∀ i m σ H, W i m σ H →
  (J.stop i H ∧ D.nx σ H) ∨ (J.go i H ∧ ∃ N : St → Hp → Prop, (∀ σ' H', N σ' H' → ∃ m', m' < m ∧ W (i + 1) m' σ' H') ∧ ∀ x H', J.yld i H x H' → g x σ H' fun σ2 H2 => tb { D with nx := N, ct := N, bk := D.nx } σ2 H2)
def pinsAt (fp : List Addr) (h : Heap) : List (Addr × Obj) := fp.filterMap fun b => (h.get? b).map fun o => (b, o)
theorem mem_pinsAt {fp : List Addr} {h : Heap} {b : Addr} {o : Obj} (hb : b ∈ fp) (e : h.get? b = some o) : (b, o) ∈ pinsAt fp h := List.mem_filterMap.mpr ⟨b, hb, by rw [e]; rfl⟩
theorem of_pinsAt {fp : List Addr} {h : Heap} {p : Addr × Obj} (hp : p ∈ pinsAt fp h) : p.1 ∈ fp ∧ h.get? p.1 = some p.2 := by
  obtain ⟨b, hb, e⟩ := List.mem_filterMap.mp hp
  cases q : h.get? b with
  | none => rw [q] at e; cases e
  | some o =>
    rw [q] at e
    have e' : (b, o) = p := Option.some.inj e
    subst e'
    exact ⟨hb, q⟩
theorem Inv.pinned {pins : List (Addr × Obj)} {σ : St} {H : Hp} {s : Shared} {fp : List Addr} (I : Inv X pins σ H s) (hf : ∀ b ∈ fp, FpOk X pins H b) (ho : ∀ b ∈ fp, ∃ o, s.heap.get? b = some o ∧ ∀ v, o.data ≠ .cell v) : Inv X (pins ++ pinsAt fp s.heap) σ H s :=
  I.pins_of fun p hp => (List.mem_append.mp hp).elim (fun z => I.pin p (List.mem_append_right _ z)) fun z => by
    obtain ⟨hb, e⟩ := of_pinsAt z
    obtain ⟨f0, f1, f2, _⟩ := hf p.1 hb
    obtain ⟨o, e', d⟩ := ho p.1 hb
    rw [e] at e'; cases e'
    exact ⟨e, f0, f1, f2, d⟩
theorem Inv.unpinned {pins pl : List (Addr × Obj)} {σ : St} {H : Hp} {s : Shared} (I : Inv X (pins ++ pl) σ H s) : Inv X pins σ H s := I.pins_of fun p hp => I.pin p (List.mem_append_right _ (List.mem_append_left _ hp))
theorem ps_for {iter : Expr} {body : List Stmt} {wi : TI} {g : TG} {tb : TS} {pos : Pos} (hp : PassesOwn (model X.prog X.w) X.A X.env X.xe) (hc : X.calm = true) (hi : PI X tg iter wi) (hg : PG X tg g) (hb : PSs X body tb)
    (hs : ∀ x, foldedSetIterable iter X.env x = pure x := by intro _; rfl) : PS X (.For tg iter body [] pos) (tFor wi g tb) := by
  intro pins s σ H D I h
  refine wpAny_For (thn (hi pins s σ H _ I h) fun v s1 h1 => thn h1 fun itv s2 h2 => ?_) hs
  obtain ⟨it, fp, tn, J, H2, e, I2, T, st2, f2, W, ⟨m0, w0⟩, turn⟩ := h2
  subst e
  -- what stays true of the iterator's objects through the loop
  have stat : ∀ {H' : Hp}, (∀ b ∈ fp, H' b = none) → ∀ b ∈ fp, FpOk X pins H' b := fun hn b hb => ⟨hn b hb, (f2 b hb).2⟩
  refine codeAny_forLoop_any (fun n s' => ∃ i σ' H', Inv X pins σ' H' s' ∧ tn i s'.heap ∧ (∀ b ∈ fp, H' b = none) ∧ W i n σ' H') ?_ m0 ⟨0, σ, H2, I2, st2, fun b hb => (f2 b hb).1, w0⟩
  rintro n s3 ⟨i, σ3, H3, I3, st3, fr3, w3⟩
  rcases turn i n σ3 H3 w3 with ⟨stop, qn⟩ | ⟨go, N, hN, step⟩
  · refine wpAny_passesOwn hp (thn (T.done X rfl rfl rfl hc i pins s3 σ3 H3 X.xe I3 (stat fr3) st3 stop) fun r s4 ⟨hr, I4⟩ => ?_)
    subst hr
    exact wpAny_execs_nil ⟨σ3, H3, I4, qn⟩
  · refine wpAny_passesOwn hp (thn (T.item X rfl rfl rfl hc i pins s3 σ3 H3 X.xe I3 (stat fr3) st3 go) fun r s4 ⟨u, hr, h4⟩ => ?_)
    subst hr
    refine wpAny_passesOwn hp (thn h4 fun _ s5 ⟨x, H5, I5, r5, y5, st5, fr5⟩ => ?_)
    have I5' := I5.pinned (stat fr5) (T.obj _ _ st5)
    refine wpAny_passesOwn hp (thn (hg _ s5 σ3 H5 x u _ I5' r5 (step x H5 y5)) fun _ s6 ⟨σ6, H6, I6, q6⟩ => ?_)
    refine wpAny_passesOwn hp (thn (hb _ s6 σ6 H6 _ I6 q6) fun f s7 q7 => ?_)
    have again : ∀ {σ7 : St} {H7 : Hp}, Inv X (pins ++ pinsAt fp s5.heap) σ7 H7 s7 → N σ7 H7 → ∃ m, m < n ∧ ∃ i σ' H', Inv X pins σ' H' s7 ∧ tn i s7.heap ∧ (∀ b ∈ fp, H' b = none) ∧ W i m σ' H' := fun {σ7 H7} I7 n7 => by
      obtain ⟨m', hm, w7⟩ := hN σ7 H7 n7
      refine ⟨m', hm, i + 1, σ7, H7, I7.unpinned, T.keep _ _ _ st5 fun b hb o e => (I7.pin (b, o) (List.mem_append_right _ (List.mem_append_right _ (mem_pinsAt hb e)))).1, fun b hb => ?_, w7⟩
      obtain ⟨o, e, d⟩ := T.obj _ _ st5 b hb
      exact (I7.pin (b, o) (List.mem_append_right _ (List.mem_append_right _ (mem_pinsAt hb e)))).2.1
    cases f with
    | next => obtain ⟨σ7, H7, I7, n7⟩ := q7; exact again I7 n7
    | cont => obtain ⟨σ7, H7, I7, n7⟩ := q7; exact again I7 n7
    | brk => obtain ⟨σ7, H7, I7, q7⟩ := q7; exact ⟨σ7, H7, I7.unpinned, q7⟩
    | ret v => obtain ⟨x7, σ7, H7, I7, r7, q7⟩ := q7; exact ⟨x7, σ7, H7, I7.unpinned, r7, q7⟩
end
theorem for_list {K : PySem.W.Frag} {a : Addr} {xs : List V} {g : TG} {tb : TS} {D : Ends} {σ : St} {H : Hp} (Pv : Nat → St → Hp → Prop) (h0 : Pv 0 σ H) (hl : ∀ i σ H, i ≤ xs.length → Pv i σ H → SqL K H a xs)
    (hs : ∀ i x σ H, xs[i]? = some x → Pv i σ H → g x σ H fun σ2 H2 => tb { D with nx := Pv (i + 1), ct := Pv (i + 1), bk := D.nx } σ2 H2) (hd : ∀ σ H, Pv xs.length σ H → D.nx σ H) :
    ∃ W : Nat → Nat → St → Hp → Prop, (∃ m, W 0 m σ H) ∧ ∀ i m σ H, W i m σ H →
      ((Itl K a).stop i H ∧ D.nx σ H) ∨ ((Itl K a).go i H ∧ ∃ N : St → Hp → Prop, (∀ σ' H', N σ' H' → ∃ m', m' < m ∧ W (i + 1) m' σ' H') ∧ ∀ x H', (Itl K a).yld i H x H' → g x σ H' fun σ2 H2 => tb { D with nx := N, ct := N, bk := D.nx } σ2 H2) := by
  refine ⟨fun i m σ H => m = xs.length - i ∧ i ≤ xs.length ∧ Pv i σ H, ⟨xs.length, by simp, Nat.zero_le _, h0⟩, ?_⟩
  rintro i m σ H ⟨rfl, hi, p⟩
  have q := hl i σ H hi p
  by_cases hlt : i < xs.length
  · refine .inr ⟨⟨xs, xs[i], q, by simp [hlt]⟩, Pv (i + 1), fun σ' H' p' => ⟨xs.length - (i + 1), by omega, rfl, hlt, p'⟩, fun x H' y => ?_⟩
    obtain ⟨e, y⟩ := y
    subst e
    exact hs i x σ _ (y xs q) p
  · have e : i = xs.length := by omega
    subst e
    exact .inl ⟨⟨xs, q, Nat.le_refl _⟩, hd σ H p⟩
theorem for_range {lo : Int} {n : Nat} {g : TG} {tb : TS} {D : Ends} {σ : St} {H : Hp} (Pv : Nat → St → Hp → Prop) (h0 : Pv 0 σ H)
    (hs : ∀ i σ H, i < n → Pv i σ H → g (.int (lo + i)) σ H fun σ2 H2 => tb { D with nx := Pv (i + 1), ct := Pv (i + 1), bk := D.nx } σ2 H2) (hd : ∀ σ H, Pv n σ H → D.nx σ H) :
    ∃ W : Nat → Nat → St → Hp → Prop, (∃ m, W 0 m σ H) ∧ ∀ i m σ H, W i m σ H →
      ((Itr lo n).stop i H ∧ D.nx σ H) ∨ ((Itr lo n).go i H ∧ ∃ N : St → Hp → Prop, (∀ σ' H', N σ' H' → ∃ m', m' < m ∧ W (i + 1) m' σ' H') ∧ ∀ x H', (Itr lo n).yld i H x H' → g x σ H' fun σ2 H2 => tb { D with nx := N, ct := N, bk := D.nx } σ2 H2) := by
  refine ⟨fun i m σ H => m = n - i ∧ i ≤ n ∧ Pv i σ H, ⟨n, by simp, Nat.zero_le _, h0⟩, ?_⟩
  rintro i m σ H ⟨rfl, hi, p⟩
  by_cases hlt : i < n
  · refine .inr ⟨hlt, Pv (i + 1), fun σ' H' p' => ⟨n - (i + 1), by omega, rfl, hlt, p'⟩, fun x H' y => ?_⟩
    obtain ⟨e, y⟩ := y
    subst e y
    exact hs i σ _ hlt p
  · have e : i = n := by omega
    subst e
    exact .inl ⟨Nat.le_refl _, hd σ H p⟩
end L2
namespace L2
open PySem PySem.Spec PyProof.Rows
abbrev R2 := V → V → Hp → VK → Prop
def OpR (X : Cx) (f : Value → Value → Sem Value) (r : R2) : Prop :=
  ∀ (pins : List (Addr × Obj)) (s : Shared) (σ : St) (H : Hp) (x y : V) (v u : Value) (Q : VK), Inv X pins σ H s → RelV x v → RelV y u → r x y H Q →
    wpAny (model X.prog X.w) X.A (f v u) (EP X pins σ Q) X.xe s
def UnR (X : Cx) (f : Value → Sem Value) (r : V → Hp → VK → Prop) : Prop :=
  ∀ (pins : List (Addr × Obj)) (s : Shared) (σ : St) (H : Hp) (x : V) (v : Value) (Q : VK), Inv X pins σ H s → RelV x v → r x H Q →
    wpAny (model X.prog X.w) X.A (f v) (EP X pins σ Q) X.xe s
def CallR (X : Cx) (f : Value) (r : List V → Hp → VK → Prop) : Prop :=
  ∀ (pins : List (Addr × Obj)) (s : Shared) (σ : St) (H : Hp) (xs : List V) (us : List Value) (Q : VK), Inv X pins σ H s → Vals xs us → r xs H Q →
    wpAny (model X.prog X.w) X.A (call f us) (EP X pins σ Q) X.xe s
def tOp (r : R2) (ta tb : TE) : TE := fun σ H Q => ta σ H fun x H1 => tb σ H1 fun y H2 => r x y H2 Q
def tUn (r : V → Hp → VK → Prop) (ta : TE) : TE := fun σ H Q => ta σ H fun x H1 => r x H1 Q
def rI (C : Int → Int → Prop) (g : Int → Int → V) : R2 := fun x y H Q => ∃ i j, x = .int i ∧ y = .int j ∧ C i j ∧ Q (g i j) H
def rI0 (g : Int → Int → V) : R2 := fun x y H Q => ∃ i j, x = .int i ∧ y = .int j ∧ Q (g i j) H
def rU (g : Int → V) : V → Hp → VK → Prop := fun x H Q => ∃ i, x = .int i ∧ Q (g i) H
section
variable {X : Cx} {a b c : Expr} {ta tb tc : TE} {pos : Pos}
theorem binT (ha : PE X a ta) (hb : PE X b tb) {pins : List (Addr × Obj)} {s : Shared} {σ : St} {H : Hp} {R : V → V → Hp → Prop} (I : Inv X pins σ H s)
    (h : ta σ H fun x H1 => tb σ H1 fun y H2 => R x y H2) {Q : Value → Shared → Prop} {f : Value → Value → Sem Value}
    (hf : ∀ v u s2 x y H2, Inv X pins σ H2 s2 → RelV x v → RelV y u → R x y H2 → wpAny (model X.prog X.w) X.A (f v u) Q X.xe s2) :
    wpAny (model X.prog X.w) X.A (eval a X.env) (fun v s₁ => wpAny (model X.prog X.w) X.A (eval b X.env) (fun u s₂ => wpAny (model X.prog X.w) X.A (f v u) Q X.xe s₂) X.xe s₁) X.xe s := by
  refine thn (ha pins s σ H _ I h) fun v s1 ⟨x, H1, I1, r1, q1⟩ => ?_
  refine thn (hb pins s1 σ H1 _ I1 q1) fun u s2 ⟨y, H2, I2, r2, q2⟩ => ?_
  exact hf v u s2 x y H2 I2 r1 r2 q2
theorem pe_op {op : Operator} {r : R2} (ho : OpR X (binaryOp op) r) (ha : PE X a ta) (hb : PE X b tb) : PE X (.BinOp a op b pos) (tOp r ta tb) := by
  intro pins s σ H Q I h
  exact wpAny_BinOp (binT ha hb I h fun v u s2 x y H2 I2 rx ry q => ho pins s2 σ H2 x y v u Q I2 rx ry q)
theorem pe_un {op : UnaryOp} {r : V → Hp → VK → Prop} (ho : UnR X (unaryOp op) r) (ha : PE X a ta) : PE X (.UnaryOp op a pos) (tUn r ta) := by
  intro pins s σ H Q I h
  exact UnaryOp_ (thn (ha pins s σ H _ I h) fun v s1 ⟨x, H1, I1, r1, q1⟩ => ho pins s1 σ H1 x v Q I1 r1 q1)
theorem opI {f : Value → Value → Sem Value} {C : Int → Int → Prop} {g : Int → Int → Int}
    (rule : ∀ (i j : Int) (t u : Tok) (s : Shared) (Q : Value → Shared → Prop) (E : Value → Shared → Prop), C i j → Q (.int (g i j) s.toks) { s with toks := s.toks + 1 } → wpAny (model X.prog X.w) X.A (f (.int i t) (.int j u)) Q E s) :
    OpR X f (rI C fun i j => .int (g i j)) := by
  intro pins s σ H x y v u Q I rx ry h
  obtain ⟨i, j, rfl, rfl, hc, q⟩ := h
  obtain ⟨t, rfl⟩ := rx
  obtain ⟨t', rfl⟩ := ry
  exact rule i j t t' s _ _ hc ⟨.int (g i j), H, I.tok _, ⟨_, rfl⟩, q⟩
theorem opI0 {f : Value → Value → Sem Value} {g : Int → Int → Int}
    (rule : ∀ (i j : Int) (t u : Tok) (s : Shared) (Q : Value → Shared → Prop) (E : Value → Shared → Prop), Q (.int (g i j) s.toks) { s with toks := s.toks + 1 } → wpAny (model X.prog X.w) X.A (f (.int i t) (.int j u)) Q E s) :
    OpR X f (rI0 fun i j => .int (g i j)) := by
  intro pins s σ H x y v u Q I rx ry h
  obtain ⟨i, j, rfl, rfl, q⟩ := h
  obtain ⟨t, rfl⟩ := rx
  obtain ⟨t', rfl⟩ := ry
  exact rule i j t t' s _ _ ⟨.int (g i j), H, I.tok _, ⟨_, rfl⟩, q⟩
theorem opB0 {f : Value → Value → Sem Value} {g : Int → Int → Bool}
    (rule : ∀ (i j : Int) (t u : Tok) (s : Shared) (Q : Value → Shared → Prop) (E : Value → Shared → Prop), Q (.bool (g i j)) s → wpAny (model X.prog X.w) X.A (f (.int i t) (.int j u)) Q E s) :
    OpR X f (rI0 fun i j => .bl (g i j)) := by
  intro pins s σ H x y v u Q I rx ry h
  obtain ⟨i, j, rfl, rfl, q⟩ := h
  obtain ⟨t, rfl⟩ := rx
  obtain ⟨t', rfl⟩ := ry
  exact rule i j t t' s _ _ ⟨.bl (g i j), H, I, rfl, q⟩
def CDiv (i j : Int) : Prop := 0 < j ∧ j < 1073741824
def CPow (i j : Int) : Prop := 0 ≤ j ∧ j ≤ 1000000 ∧ i.natAbs < 2 ^ 64
def CMul (i j : Int) : Prop := (-(2 ^ 64) < i ∧ i < 2 ^ 64) ∨ (-(2 ^ 64) < j ∧ j < 2 ^ 64)
theorem CMul.ok {i j : Int} (h : CMul i j) : IntMulOk i j := by
  rcases h with ⟨h1, h2⟩ | ⟨h1, h2⟩
  · exact .of_left (intBits_le_64 h1 h2)
  · exact .of_right (intBits_le_64 h1 h2)
theorem op_add : OpR X (binaryOp .Add) (rI0 fun i j => .int (i + j)) := opI0 fun _ _ _ _ _ _ _ q => add_int q
theorem op_sub : OpR X (binaryOp .Sub) (rI0 fun i j => .int (i - j)) := opI0 fun _ _ _ _ _ _ _ q => sub_int q
theorem op_mul : OpR X (binaryOp .Mult) (rI CMul fun i j => .int (i * j)) := opI fun _ _ _ _ _ _ _ hc q => mul_int q hc.ok
theorem op_fdiv : OpR X (binaryOp .FloorDiv) (rI CDiv fun i j => .int (i / j)) := opI fun i j _ _ _ _ _ hc q => by
  have h1 : (0 : Int) < j := hc.1
  have h2 : j < 1073741824 := hc.2
  exact floordiv_int (by omega) (by rw [Int.fdiv_eq_ediv_of_nonneg i (by omega)]; exact q) (.inl (PyProof.noPylong_small (by omega)))
theorem op_mod : OpR X (binaryOp .Mod) (rI (fun _ j => 0 < j) fun i j => .int (i % j)) := opI fun i j _ _ _ _ _ hc q => by
  have h1 : (0 : Int) < j := hc
  exact mod_int' (by omega) (by rw [Int.fmod_eq_emod_of_nonneg i (by omega)]; exact q)
theorem op_pow : OpR X (binaryOp .Pow) (rI CPow fun i j => .int (i ^ j.toNat)) := opI fun _ _ _ _ _ _ _ hc q => pow_int_small hc.1 hc.2.1 hc.2.2 q
theorem unI {f : Value → Sem Value} {g : Int → Int}
    (rule : ∀ (i : Int) (t : Tok) (s : Shared) (Q : Value → Shared → Prop) (E : Value → Shared → Prop), Q (.int (g i) s.toks) { s with toks := s.toks + 1 } → wpAny (model X.prog X.w) X.A (f (.int i t)) Q E s) :
    UnR X f (rU fun i => .int (g i)) := by
  intro pins s σ H x v Q I rx h
  obtain ⟨i, rfl, q⟩ := h
  obtain ⟨t, rfl⟩ := rx
  exact rule i t s _ _ ⟨.int (g i), H, I.tok _, ⟨_, rfl⟩, q⟩
theorem un_neg : UnR X (unaryOp .USub) (rU fun i => .int (-i)) := unI fun _ _ _ _ _ q => neg_int q
end
def scal : V → V → Bool
  | .non, .non => true | .non, .int _ => true | .int _, .non => true | .non, .bl _ => true | .bl _, .non => true | .non, .str _ => true | .str _, .non => true
  | .int _, .int _ => true | .bl _, .bl _ => true | .str _, .str _ => true | .byt _, .byt _ => true
  | .int _, .str _ => true | .str _, .int _ => true | .bl _, .str _ => true | .str _, .bl _ => true
  | _, _ => false
def rEq : R2 := fun x y H Q => scal x y = true ∧ Q (.bl (decide (x = y))) H
def rNe : R2 := fun x y H Q => scal x y = true ∧ Q (.bl (!decide (x = y))) H
theorem dec_int {i j : Int} : decide (V.int i = V.int j) = (i == j) := by
  rw [Bool.eq_iff_iff]
  simp
theorem dec_bl {i j : Bool} : decide (V.bl i = V.bl j) = (i == j) := by
  rw [Bool.eq_iff_iff]
  simp
theorem dec_str {i j : Str} : decide (V.str i = V.str j) = (i == j) := by
  rw [Bool.eq_iff_iff]
  simp
theorem dec_byt {i j : Array UInt8} : decide (V.byt i = V.byt j) = (i.toList == j.toList) := by
  rw [Bool.eq_iff_iff]
  cases i
  cases j
  simp
section
variable {X : Cx} {a b c : Expr} {ta tb tc : TE} {pos : Pos}
theorem fin_bl {pins : List (Addr × Obj)} {σ : St} {H : Hp} {s : Shared} {Q : VK} {k k' : Bool} (I : Inv X pins σ H s) (q : Q (.bl k) H) (e : k = k') : EP X pins σ Q (.bool k') s := by
  subst e
  exact ⟨.bl k, H, I, rfl, q⟩
theorem op_eq : OpR X (compareOp .Eq) rEq := by
  intro pins s σ H x y v u Q I rx ry h
  obtain ⟨hs, q⟩ := h
  cases x with
  | non =>
    cases rx
    cases y with
    | non => cases ry; exact PySem.EqNone.eq_none_none (fin_bl I q (by simp))
    | bl j => cases ry; exact PySem.EqNone.eq_none_bool (fin_bl I q (by simp))
    | int j => obtain ⟨t', rfl⟩ := ry; exact PySem.EqNone.eq_none_int (fin_bl I q (by simp))
    | str j => obtain ⟨t', rfl⟩ := ry; exact PySem.EqNone.eq_none_str (fin_bl I q (by simp))
    | _ => exact absurd (show false = true from hs) Bool.false_ne_true
  | bl i =>
    cases rx
    cases y with
    | non => cases ry; exact PySem.EqNone.eq_bool_none (fin_bl I q (by simp))
    | bl j => cases ry; exact eq_bool (fin_bl I q dec_bl)
    | str j => obtain ⟨t', rfl⟩ := ry; exact PySem.EqMixed.eq_bool_str (fin_bl I q (by simp))
    | _ => exact absurd (show false = true from hs) Bool.false_ne_true
  | int i =>
    obtain ⟨t, rfl⟩ := rx
    cases y with
    | non => cases ry; exact PySem.EqNone.eq_int_none (fin_bl I q (by simp))
    | int j => obtain ⟨t', rfl⟩ := ry; exact eq_int (fin_bl I q dec_int)
    | str j => obtain ⟨t', rfl⟩ := ry; exact PySem.EqMixed.eq_int_str (fin_bl I q (by simp))
    | _ => exact absurd (show false = true from hs) Bool.false_ne_true
  | str i =>
    obtain ⟨t, rfl⟩ := rx
    cases y with
    | non => cases ry; exact PySem.EqNone.eq_str_none (fin_bl I q (by simp))
    | bl j => cases ry; exact PySem.EqMixed.eq_str_bool (fin_bl I q (by simp))
    | int j => obtain ⟨t', rfl⟩ := ry; exact PySem.EqMixed.eq_str_int (fin_bl I q (by simp))
    | str j => obtain ⟨t', rfl⟩ := ry; exact eq_str (fin_bl I q dec_str)
    | _ => exact absurd (show false = true from hs) Bool.false_ne_true
  | byt i =>
    obtain ⟨t, rfl⟩ := rx
    cases y with
    | byt j => obtain ⟨t', rfl⟩ := ry; exact PySem.W.eq_bytes (fin_bl I q dec_byt)
    | _ => exact absurd (show false = true from hs) Bool.false_ne_true
  | _ => cases y <;> exact absurd (show false = true from hs) Bool.false_ne_true
theorem op_ne : OpR X (compareOp .NotEq) rNe := by
  intro pins s σ H x y v u Q I rx ry h
  obtain ⟨hs, q⟩ := h
  cases x with
  | non =>
    cases rx
    cases y with
    | non => cases ry; exact PySem.EqNone.ne_none_none (fin_bl I q (by simp))
    | bl j => cases ry; exact PySem.EqNone.ne_none_bool (fin_bl I q (by simp))
    | int j => obtain ⟨t', rfl⟩ := ry; exact PySem.EqNone.ne_none_int (fin_bl I q (by simp))
    | str j => obtain ⟨t', rfl⟩ := ry; exact PySem.EqNone.ne_none_str (fin_bl I q (by simp))
    | _ => exact absurd (show false = true from hs) Bool.false_ne_true
  | bl i =>
    cases rx
    cases y with
    | non => cases ry; exact PySem.EqNone.ne_bool_none (fin_bl I q (by simp))
    | bl j => cases ry; exact ne_bool (fin_bl I q (congrArg not dec_bl))
    | str j => obtain ⟨t', rfl⟩ := ry; exact PySem.EqMixed.ne_bool_str (fin_bl I q (by simp))
    | _ => exact absurd (show false = true from hs) Bool.false_ne_true
  | int i =>
    obtain ⟨t, rfl⟩ := rx
    cases y with
    | non => cases ry; exact PySem.EqNone.ne_int_none (fin_bl I q (by simp))
    | int j => obtain ⟨t', rfl⟩ := ry; exact ne_int (fin_bl I q (congrArg not dec_int))
    | str j => obtain ⟨t', rfl⟩ := ry; exact PySem.EqMixed.ne_int_str (fin_bl I q (by simp))
    | _ => exact absurd (show false = true from hs) Bool.false_ne_true
  | str i =>
    obtain ⟨t, rfl⟩ := rx
    cases y with
    | non => cases ry; exact PySem.EqNone.ne_str_none (fin_bl I q (by simp))
    | bl j => cases ry; exact PySem.EqMixed.ne_str_bool (fin_bl I q (by simp))
    | int j => obtain ⟨t', rfl⟩ := ry; exact PySem.EqMixed.ne_str_int (fin_bl I q (by simp))
    | str j => obtain ⟨t', rfl⟩ := ry; exact ne_str (fin_bl I q (congrArg not dec_str))
    | _ => exact absurd (show false = true from hs) Bool.false_ne_true
  | byt i =>
    obtain ⟨t, rfl⟩ := rx
    cases y with
    | byt j => obtain ⟨t', rfl⟩ := ry; exact PySem.W.ne_bytes (fin_bl I q (congrArg not dec_byt))
    | _ => exact absurd (show false = true from hs) Bool.false_ne_true
  | _ => cases y <;> exact absurd (show false = true from hs) Bool.false_ne_true
theorem op_lt : OpR X (compareOp .Lt) (rI0 fun i j => .bl (decide (i < j))) := opB0 fun _ _ _ _ _ _ _ q => lt_int q
theorem op_le : OpR X (compareOp .LtE) (rI0 fun i j => .bl (decide (i ≤ j))) := opB0 fun _ _ _ _ _ _ _ q => le_int q
theorem op_gt : OpR X (compareOp .Gt) (rI0 fun i j => .bl (decide (j < i))) := opB0 fun _ _ _ _ _ _ _ q => gt_int q
theorem nomark (b : Expr) {op : CmpOp} (h : op ≠ .In := by decide) (h2 : op ≠ .NotIn := by decide) : behindInMarks op b = false := by
  have e1 : (op == CmpOp.In) = false := by cases op <;> first | rfl | exact absurd rfl h
  have e2 : (op == CmpOp.NotIn) = false := by cases op <;> first | rfl | exact absurd rfl h2
  cases b <;> simp [behindInMarks, e1, e2]
theorem pe_cmpR {op : CmpOp} {r : R2} (ho : OpR X (compareOp op) r) (ha : PE X a ta) (hb : PE X b tb) (hm : behindInMarks op b = false) : PE X (.Compare a [op] [b] pos) (tOp r ta tb) := by
  intro pins s σ H Q I h
  exact wpAny_Compare1 (binT ha hb I h fun v u s2 x y H2 I2 rx ry q => ho pins s2 σ H2 x y v u Q I2 rx ry q) hm
def tTest (t : TE) : TT := fun σ H Q => t σ H fun x H' => ∃ k, x = .bl k ∧ Q k H'
theorem pt_cmpR {op : CmpOp} {r : R2} (ho : OpR X (compareOp op) r) (ha : PE X a ta) (hb : PE X b tb) (hm : behindInMarks op b = false) : PT X (.Compare a [op] [b] pos) (tTest (tOp r ta tb)) := by
  intro pins s σ H Q I h
  refine wpAny_isTrue_Compare1 (thn (ha pins s σ H _ I h) fun v s1 ⟨x, H1, I1, r1, q1⟩ => thn (hb pins s1 σ H1 _ I1 q1) fun u s2 ⟨y, H2, I2, r2, q2⟩ =>
    thn (ho pins s2 σ H2 x y v u _ I2 r1 r2 q2) fun c s3 ⟨z, H3, I3, r3, k, e, q3⟩ => ?_) hm
  subst e
  cases r3
  exact wpAny_truthy_bool ⟨H3, I3, q3⟩
theorem line63 : (sizeLine : Nat) < 2 ^ 63 := by rw [sizeLine_eq]; decide
theorem op_add_str : OpR X (binaryOp .Add) (fun x y H Q => ∃ i j, x = .str i ∧ y = .str j ∧ i.length + j.length ≤ sizeLine ∧ Q (.str (i ++ j)) H) := by
  intro pins s σ H x y v u Q I rx ry h
  obtain ⟨i, j, rfl, rfl, hz, q⟩ := h
  obtain ⟨t, rfl⟩ := rx
  obtain ⟨t', rfl⟩ := ry
  exact add_str (fun t' tk => ⟨.str (i ++ j), H, I.tok _, ⟨_, rfl⟩, q⟩) hz
theorem vals1 {x : V} {us : List Value} (r : Vals [x] us) : ∃ u, us = [u] ∧ RelV x u := by
  cases r with
  | cons r1 r2 => cases r2; exact ⟨_, rfl, r1⟩
theorem vals2 {x y : V} {us : List Value} (r : Vals [x, y] us) : ∃ u w', us = [u, w'] ∧ RelV x u ∧ RelV y w' := by
  cases r with
  | cons r1 r2 =>
    cases r2 with
    | cons r3 r4 => cases r4; exact ⟨_, _, rfl, r1, r3⟩
theorem call_max2 (hc : X.calm = true) : CallR X (.builtin "max") (fun xs H Q => ∃ i j, xs = [.int i, .int j] ∧ Q (.int (if j > i then j else i)) H) := by
  intro pins s σ H xs us Q I r h
  obtain ⟨i, j, rfl, q⟩ := h
  obtain ⟨u, w', rfl, ⟨t, rfl⟩, ⟨t', rfl⟩⟩ := vals2 r
  refine max_two_ints (I.ok.hd hc) fun h' tk k => ⟨_, H, I.kept k, ?_, q⟩
  by_cases hj : j > i
  · rw [if_pos hj, if_pos hj]; exact ⟨_, rfl⟩
  · rw [if_neg hj, if_neg hj]; exact ⟨_, rfl⟩
theorem call_min2 (hc : X.calm = true) : CallR X (.builtin "min") (fun xs H Q => ∃ i j, xs = [.int i, .int j] ∧ Q (.int (if j < i then j else i)) H) := by
  intro pins s σ H xs us Q I r h
  obtain ⟨i, j, rfl, q⟩ := h
  obtain ⟨u, w', rfl, ⟨t, rfl⟩, ⟨t', rfl⟩⟩ := vals2 r
  refine min_two_ints (I.ok.hd hc) fun h' tk k => ⟨_, H, I.kept k, ?_, q⟩
  by_cases hj : j < i
  · rw [if_pos hj, if_pos hj]; exact ⟨_, rfl⟩
  · rw [if_neg hj, if_neg hj]; exact ⟨_, rfl⟩
theorem call_int1 : CallR X (.type "int") (fun xs H Q => (∃ i, xs = [.int i] ∧ Q (.int i) H) ∨ ∃ k, xs = [.bl k] ∧ Q (.int (if k then 1 else 0)) H) := by
  intro pins s σ H xs us Q I r h
  rcases h with ⟨i, rfl, q⟩ | ⟨k, rfl, q⟩
  · obtain ⟨u, rfl, t, rfl⟩ := vals1 r
    exact call_int_int ⟨.int i, H, I, ⟨_, rfl⟩, q⟩
  · obtain ⟨u, rfl, r1⟩ := vals1 r
    cases r1
    exact call_int_bool ⟨.int (if k then 1 else 0), H, I.tok _, ⟨_, rfl⟩, q⟩
end
end L2
namespace L2
open PySem PySem.Spec PyProof.Rows
structure ObjM (h : Heap) (x dx C : Addr) (mA : Str → Option Value) : Prop where
  obj : h.get? x = some (PySem.W.instObj C dx)
  ns : h.Ns1 dx mA
  ne : dx ≠ x
theorem lookIn_ns {h : Heap} {dx : Addr} {mA : Str → Option Value} (n : h.Ns1 dx mA) : ∃ od, h.get? dx = some od ∧ ∀ name, PySem.W.lookIn name od = some (mA name) := by
  obtain ⟨o, es, ep, ho, hd, hk, _, hm⟩ := n
  refine ⟨o, ho, fun name => ?_⟩
  have e := hm name
  unfold nsFind findBy at e
  rw [← Array.find?_toList] at e
  unfold PySem.W.lookIn
  rw [hd]
  dsimp only
  split
  · rename_i y q
    rw [q] at e
    exact congrArg some e
  · rename_i q
    rw [q] at e
    have a : es.toList.any (·.refKey) = false := by
      rw [List.any_eq_false]
      intro y hy
      obtain ⟨z, t, hkey⟩ := hk y (Array.mem_toList_iff.mp hy)
      simp [DictEntry.refKey, hkey]
    have a' : ¬ es.toList.any (·.refKey) = true := by rw [a]; exact Bool.false_ne_true
    rw [if_neg a']
    exact congrArg some e
section
variable {prog : Program} {w : World} {A : Around} {E : Value → Shared → Prop} {s : Shared} {K : PySem.W.Frag} {x dx C f : Addr} {mA : Str → Option Value} {name : Str} {v : Value}
end
theorem RelO.some_of {v : V} {o : Option Value} (r : RelO (some v) o) : ∃ u, o = some u ∧ RelV v u := by
  cases o with
  | none => exact (show False from r).elim
  | some u => exact ⟨u, rfl, r⟩
theorem handed_of {v : V} {u : Value} (r : RelV v u) : PySem.W.handedIn u = true := by
  cases v with
  | non => cases (show u = Value.none from r); rfl
  | bl b => cases (show u = Value.bool b from r); rfl
  | int i => obtain ⟨t, e⟩ := (show ∃ t, u = Value.int i t from r); cases e; rfl
  | str x => obtain ⟨t, e⟩ := (show ∃ t, u = Value.str x t from r); cases e; rfl
  | byt b => obtain ⟨t, e⟩ := (show ∃ t, u = Value.bytes b t from r); cases e; rfl
  | flt b => obtain ⟨t, e⟩ := (show ∃ t, u = Value.float b t from r); cases e; rfl
  | ref a => cases (show u = Value.ref a from r); rfl
  | ty n => cases (show u = Value.type n from r); rfl
section
variable {P : Program} {w : World} {H H' : Hp} {h h' : Heap} {a C dx : Addr} {fs fs' : List (Str × V)}
end
structure Cls (K : PySem.W.Frag) (C : Addr) : Prop where
  pg : PySem.W.plainGet K C Str.empty = true
  hd : PySem.W.hasDictIn K C = true
  po : PySem.W.plainOver K C = true
  sa : PySem.W.findIn K (.ref C) "__setattr__" = some (some (.builtin "object.__setattr__"))
structure Con (K : PySem.W.Frag) (C : Addr) (f : Str) (v : V) (u : Value) : Prop where
  at_ : PySem.W.findIn K (.ref C) f = some (some u)
  rel : RelV v u
  get : PySem.W.specialIn K u "__get__" = some none
  cp : PySem.W.copiedNames.contains f = false
structure Meth (K : PySem.W.Frag) (C : Addr) (m : Str) (f : Addr) : Prop where
  at_ : PySem.W.findIn K (.ref C) m = some (some (.ref f))
  fn : PySem.W.isFn K (.ref f) = true
  kp : PySem.W.keepIn K (.ref f) = true
section
variable {X : Cx} {pins : List (Addr × Obj)} {σ : St} {H : Hp} {s : Shared} {a C dx : Addr} {fs : List (Str × V)} {f : Str} {v : V} {A : Around} {E : Value → Shared → Prop}
theorem attr_of {prog : Program} {w : World} {env : Env} {e : Expr} {f : Str} {pos : Pos} {s : Shared} {Q : Value → Shared → Prop} (hb : attributeBase e f env (eval e env) = eval e env)
    (h : wpAny (model prog w) A (eval e env) (fun o s₁ => wpAny (model prog w) A (getAttr o f true) Q E s₁) E s) : wpAny (model prog w) A (eval (.Attribute e f pos) env) Q E s :=
  Attribute_any_ h (by rw [arm_eval_Attribute, hb])
end
section
variable {X : Cx} {o e value : Expr} {f : Str} {pos pos' tpos : Pos} {ta tv : TE}
end
section
variable {X : Cx} {pins : List (Addr × Obj)} {σ : St} {H : Hp} {s : Shared} {A : Around} {E : Value → Shared → Prop} {Q : Value → Shared → Prop} {c : Value} {b : Bool}
inductive TyOf (K : PySem.W.Frag) (H : Hp) : V → Value → Prop where
  | non : TyOf K H .non (.type "NoneType")
  | bl (x : Bool) : TyOf K H (.bl x) (.type "bool")
  | int (i : Int) : TyOf K H (.int i) (.type "int")
  | str (x : Str) : TyOf K H (.str x) (.type "str")
  | flt (x : UInt64) : TyOf K H (.flt x) (.type "float")
  | lst {a : Addr} {xs : List V} (e : H a = some (.lst xs)) : TyOf K H (.ref a) (.type "list")
  | frz {a : Addr} {o : Obj} {xs : List V} (e : H a = some (.frz o (.lst xs))) : TyOf K H (.ref a) (.type "list")
  | tup {a : Addr} {xs : List V} (e : H a = some (.tup xs)) : TyOf K H (.ref a) (.type "tuple")
  | dK {a : Addr} {kvs : List (Key × V)} (e : H a = some (.dK kvs)) : TyOf K H (.ref a) (.type "dict")
  | dT {a : Addr} {kvs : List (List Key × V)} (e : H a = some (.dT kvs)) : TyOf K H (.ref a) (.type "dict")
  | ins {a C dx : Addr} {fs : List (Str × V)} (e : H a = some (.ins C dx fs)) (cl : Cls K C) (ha : PySem.W.findIn K (.ref C) "__class__" = some (some (.builtin "object.__class__")))
      (hn : PySem.W.specialIn K (.builtin "object.__class__") "__get__" = some (some (.builtin "getset_descriptor.__get__"))) (htk : PySem.W.takesIn K (.builtin "object.__class__") = some true)
      (hm : PySem.W.mroIn K C (.type "object") = some true) : TyOf K H (.ref a) (.ref C)
end
end L2
namespace L2
open PySem PySem.Spec PyProof.Rows
structure Room (k : Nat) (A : Around) : Prop where
  hd : A.handled = none
  dp : A.depth + 3 * k + 5 < recursionLimit
  un : A.units + 16 * k + 200 < cLine
theorem Room.mono {j k : Nat} {A : Around} (r : Room k A) (h : j ≤ k) : Room j A := ⟨r.hd, by have := r.dp; omega, by have := r.un; omega⟩
theorem Room.deeper {k : Nat} {A : Around} (r : Room (k + 1) A) (env : Env) : Room k (A.deeper env) :=
  ⟨r.hd, by have := r.dp; show A.depth + 1 + 3 * k + 5 < _; omega, by have := r.un; show A.units + 3 + 16 * k + 200 < _; omega⟩
theorem Room.in1 {k : Nat} {A : Around} (r : Room (k + 1) A) : Room k A.in1 :=
  ⟨r.hd, by have := r.dp; show A.depth + 3 * k + 5 < _; omega, by have := r.un; show A.units + 1 + 16 * k + 200 < _; omega⟩
theorem make_depth {A : Around} {C : Addr} {us : List Value} {kw : List (Str × Value)} : (A.under (.builtin "type.__call__" ⟨.ref C :: us, kw⟩)).depth = A.depth + 1 := by
  first | rfl | simp [Around.under, Code.weight, Code.isCreation, Code.isGuard, Code.isCaller, Code.frames, Code.isFrame, guardIds]
theorem make_units {A : Around} {C : Addr} {us : List Value} {kw : List (Str × Value)} : (A.under (.builtin "type.__call__" ⟨.ref C :: us, kw⟩)).units = A.units + 1 := by
  first | rfl | simp [Around.under, Code.cUnits, Code.frames, Code.isFrame]
theorem Room.make {k : Nat} {A : Around} (r : Room (k + 1) A) (C : Addr) (us : List Value) (kw : List (Str × Value)) : Room k (A.under (.builtin "type.__call__" ⟨.ref C :: us, kw⟩)) :=
  ⟨r.hd, by have := r.dp; rw [make_depth]; omega, by have := r.un; rw [make_units]; omega⟩
theorem Room.depth {k : Nat} {A : Around} (r : Room k A) : A.depth < recursionLimit := by have := r.dp; omega
theorem Room.units {k : Nat} {A : Around} (r : Room k A) : A.units + 64 < cLine := by have := r.un; omega
def tNil : TA := fun _ H Q => Q [] H
def tCons (ta : TE) (tr : TA) : TA := fun σ H Q => ta σ H fun x H1 => tr σ H1 fun xs H2 => Q (x :: xs) H2
section
variable {X : Cx} {e : Expr} {es : List Expr} {te : TE} {t : TA} {pos : Pos}
theorem pa_nil : PA X [] tNil := fun _ _ _ _ H Q I h => Calls.spliced_nil ⟨[], H, I, .nil, h⟩
theorem pa_cons (ha : PE X e te) (hr : PA X es t) (hs : starEach (e :: es) X.env = (false, eval e X.env) :: starEach es X.env := by rfl) : PA X (e :: es) (tCons te t) := by
  intro pos pins s σ H Q I h
  rw [hs]
  show wpAny _ _ (spliced ((false, eval e X.env) :: backTo pos (starEach es X.env))) _ _ s
  refine Calls.spliced_cons (thn (ha pins s σ H _ I h) fun u s1 ⟨x, H1, I1, r1, q1⟩ => ?_)
  exact thn (hr pos pins s1 σ H1 _ I1 q1) fun us s2 ⟨xs, H2, I2, r2, q2⟩ => ⟨x :: xs, H2, I2, .cons r1 r2, q2⟩
def tTup (t : TA) : TE := fun σ H Q => t σ H fun xs H1 => xs.length ≤ sizeLine ∧ ∀ p, H1 p = none → Q (.ref p) (upd H1 p (.tup xs))
def tLst (t : TA) : TE := fun σ H Q => t σ H fun xs H1 => xs.length ≤ sizeLine ∧ ∀ p, H1 p = none → Q (.ref p) (upd H1 p (.lst xs))
theorem pe_tup {x1} (h : PA X es t) : PE X (.Tuple es x1 pos) (tTup t) := by
  intro pins s σ H Q I hq
  refine wpAny_Tuple_spliced (thn (h pos pins s σ H _ I hq) fun us s1 ⟨xs, H1, I1, r, z, q⟩ => ⟨by rw [← r.length]; exact z, ?_⟩)
  have hf : H1 s1.heap.objs.size = none := I1.hok.fresh (Nat.le_refl _)
  refine ⟨.ref s1.heap.objs.size, upd H1 s1.heap.objs.size (.tup xs), I1.laid (t' := s1.toks) (fun b u e => Heap.get?_push_of_some _ e) (Nat.le_refl _) ?_, rfl, q _ hf⟩
  exact ⟨z, us, r, ⟨_, Heap.get?_push_size _ rfl, rfl, _, rfl⟩⟩
theorem pe_lst (h : PA X es t) : PE X (.List es pos) (tLst t) := by
  intro pins s σ H Q I hq
  refine wpAny_List_spliced (thn (h pos pins s σ H _ I hq) fun us s1 ⟨xs, H1, I1, r, z, q⟩ => ⟨by rw [← r.length]; exact z, ?_⟩)
  have hf : H1 s1.heap.objs.size = none := I1.hok.fresh (Nat.le_refl _)
  refine ⟨.ref s1.heap.objs.size, upd H1 s1.heap.objs.size (.lst xs), I1.laid (t' := s1.toks) (fun b u e => Heap.get?_push_of_some _ e) (Nat.le_refl _) ?_, rfl, q _ hf⟩
  exact ⟨z, us, 0, r, Heap.get?_push_size _ rfl⟩
end
abbrev Sp := List V → Hp → VK → XK → Prop
abbrev CXT := List Env → Hp → Shared → XK → Value → Shared → Prop
structure Env0 (P : Program) (w : World) (K : PySem.W.Frag) (mg : Str → Option Value) (base : Heap) (A : Around) (outer : List Env) (s : Shared) (H : Hp) : Prop where
  frames : A.frames = some outer
  mod : Mod K mg base
  bs : ∀ b o, base.get? b = some o → s.heap.get? b = some o ∧ H b = none
  bsz : base.objs.size ≤ s.heap.objs.size
  funs : s.heap.FunFrames base outer
  frf : ∀ b ∈ frs outer, H b = none
  hok : HOk P w H s.heap
  bare : AllBare s.gens
def CE (outer : List Env) (P : Program) (w : World) (H : Hp) (s : Shared) (Q : VK) (u : Value) (s' : Shared) : Prop :=
  ∃ v H', s'.os = s.os ∧ AllBare s'.gens ∧ Un (frs outer) [] H H' s.heap s'.heap ∧ HOk P w H' s'.heap ∧ RelV v u ∧ Q v H'
def CR (CX : CXT) (outer : List Env) (P : Program) (w : World) (H : Hp) (s : Shared) (Q : VK) (E : XK) (r : Result) (s' : Shared) : Prop :=
  match r with
  | .ok (.ret u) => CE outer P w H s Q u s'
  | .ok _ => False
  | .error e => CX outer H s E e s'
structure FnOk (P : Program) (w : World) (K : PySem.W.Frag) (mg : Str → Option Value) (base : Heap) (CX : CXT) (k : Nat) (f : Addr) (fd : FuncData) (ps : List Str) (sp : Sp) : Prop where
  len : ∀ vs H Q E, sp vs H Q E → vs.length = ps.length
  run : ∀ (A : Around) (outer : List Env) (s : Shared) (H : Hp) (args : Args) (us : List Value) (vs : List V) (Q : VK) (E : XK), Room k A → Env0 P w K mg base A outer s H → BindsTo s fd args (ps.zip us) → Vals vs us → sp vs H Q E →
    codeAny (model P w) A (.call (.ref f) args) (CR CX outer P w H s Q E) s
theorem Env0.make {P : Program} {w : World} {K : PySem.W.Frag} {mg : Str → Option Value} {base : Heap} {A : Around} {outer : List Env} {s : Shared} {H : Hp} (e : Env0 P w K mg base A outer s H) (C : Addr) (us : List Value) (kw : List (Str × Value)) :
    Env0 P w K mg base (A.under (.builtin "type.__call__" ⟨.ref C :: us, kw⟩)) outer s H := ⟨by first | exact e.frames | (simpa [Around.under, Code.envs, Code.isFrame, pushEnvs] using e.frames), e.mod, e.bs, e.bsz, e.funs, e.frf, e.hok, e.bare⟩
section
variable {X : Cx} {pins : List (Addr × Obj)} {σ : St} {H : Hp} {s s' : Shared}
theorem Inv.env0 (I : Inv X pins σ H s) : Env0 X.prog X.w X.K X.mg X.base X.A X.stack s H :=
  ⟨I.ok.frames, I.ok.mod, I.bs, Nat.le_trans I.ok.bsz I.sz, I.stack, I.stkFree, I.hok, I.bare⟩
theorem Inv.after {Q : VK} {u : Value} (I : Inv X pins σ H s) (h : CE X.stack X.prog X.w H s Q u s') : EP X pins σ Q u s' := by
  obtain ⟨v, H', os, bare, un, hok, r, q⟩ := h
  obtain ⟨hh, g, d, t, os'⟩ := s'
  obtain rfl : os' = s.os := os
  exact ⟨v, H', I.call (h' := hh) (g' := g) (d' := d) (t' := t) (ch := []) un hok bare (fun b z => absurd z (by simp)), r, q⟩
end
def tCall (sp : Sp) (dvs : List V) (E : XK) (t : TA) : TE := fun σ H Q => t σ H fun vs H1 => sp (vs ++ dvs) H1 Q E
def Binds (K : PySem.W.Frag) (fd : FuncData) (ps : List Str) (ds : List Value) : Prop :=
  ∀ (s : Shared) (us : List Value), K.In s.heap → (us ++ ds).length = ps.length → BindsTo s fd ⟨us, []⟩ (ps.zip (us ++ ds))
theorem Binds.all {K : PySem.W.Frag} {fd : FuncData} {ps : List Str} (h : ∀ us : List Value, us.length = ps.length → bindArgs fd ⟨us, []⟩ = pure (ps.zip us)) : Binds K fd ps [] := fun s us _ hl => by
  rw [List.append_nil] at hl ⊢
  exact .of_eq (h us hl)
def Passes (CX : CXT) (X : Cx) (E : XK) : Prop := ∀ (pins : List (Addr × Obj)) (σ : St) (H : Hp) (s : Shared) (e : Value) (s' : Shared), Inv X pins σ H s → CX X.stack H s E e s' → X.xe e s'
section
variable {X : Cx} {CX : CXT} {k : Nat} {f C : Addr} {fd : FuncData} {ps : List Str} {sp : Sp} {dvs : List V} {ds : List Value} {E : XK} {x m : Str} {p pos apos : Pos} {e o : Expr} {es : List Expr} {ta : TE} {t : TA}
theorem run_fn {pins : List (Addr × Obj)} {σ : St} {H : Hp} {s : Shared} {Q : VK} {us : List Value} {vs : List V} (F : FnOk X.prog X.w X.K X.mg X.base CX k f fd ps sp) (hr : Room k X.A) (hb : Binds X.K fd ps ds) (hd : Vals dvs ds) (hx : Passes CX X E)
    (I : Inv X pins σ H s) (r : Vals vs us) (h : sp (vs ++ dvs) H Q E) : wpAny (model X.prog X.w) X.A (call (.ref f) us) (EP X pins σ Q) X.xe s := by
  have r2 : Vals (vs ++ dvs) (us ++ ds) := r.append hd
  have hl : (us ++ ds).length = ps.length := by rw [← r2.length]; exact F.len _ _ _ _ h
  refine wpAny_call (codeAny_mono (F.run X.A X.stack s H ⟨us, []⟩ (us ++ ds) (vs ++ dvs) Q E hr I.env0 (hb s us I.kIn hl) r2 h) fun r s' hq => ?_)
  cases r with
  | error e => exact hx pins σ H s e s' I hq
  | ok fl =>
    cases fl with
    | ret u => exact I.after hq
    | next => exact False.elim hq
    | brk => exact False.elim hq
    | cont => exact False.elim hq
theorem pe_call (F : FnOk X.prog X.w X.K X.mg X.base CX k f fd ps sp) (hr : Room k X.A) (hg : Gl X x) (hm : X.mg x = some (.ref f)) (hk : PySem.W.keepIn X.K (.ref f) = true) (hb : Binds X.K fd ps ds) (hd : Vals dvs ds) (hx : Passes CX X E)
    (ha : PA X (e :: es) t) (hdb : (x == ("__debug__" : Str)) = false := by decide) (he : starEach (e :: es) X.env = (false, eval e X.env) :: starEach es X.env := by rfl) (hpl : (backTo pos (starEach es X.env)).any (·.1) = false := by rfl) :
    PE X (.Call (.Name x p) (e :: es) [] pos) (tCall sp dvs E t) := by
  intro pins s σ H Q I h
  refine wpAny_Call_Name_kw (ld_glob I hg hm ?_ hdb)
  refine PySem.W.callWith_K (h₀ := X.base) I.ok.mod.kin hk (thn (ha pos pins s σ H _ I h) fun us s1 ⟨vs, H1, I1, r, q⟩ => ⟨I1.kIn, ?_⟩) he hpl
  exact run_fn F hr hb hd hx I1 r q
structure Mk (K : PySem.W.Frag) (C f : Addr) : Prop where
  makes : PySem.W.makesIn K C = true
  init : PySem.W.findIn K (.ref C) "__init__" = some (some (.ref f))
  fn : PySem.W.isFn K (.ref f) = true
  kp : PySem.W.keepIn K (.ref C) = true
end
def PK (X : Cx) (kws : List Keyword) (t : TA) : Prop :=
  ∀ (pos : Pos) (pins : List (Addr × Obj)) (s : Shared) (σ : St) (H : Hp) (Q : List V → Hp → Prop), Inv X pins σ H s → t σ H Q → wpAny (model X.prog X.w) X.A (evalAll ((backToKw pos (keywordEach kws X.env)).map (·.2))) (AP X pins σ Q) X.xe s
section
variable {X : Cx} {CX : CXT} {k : Nat} {f C : Addr} {fd : FuncData} {ps ks : List Str} {sp : Sp} {E : XK} {x m : Str} {p pos apos kpos : Pos} {e o : Expr} {es : List Expr} {kws : List Keyword} {te ta : TE} {t tk : TA} {nm : Option Str}
theorem pk_nil : PK X [] tNil := fun _ _ _ _ H Q I h => wpAny_evalAll_nil ⟨[], H, I, .nil, h⟩
theorem pk_cons (ha : PE X e te) (hr : PK X kws t) : PK X (⟨nm, e, kpos⟩ :: kws) (tCons te t) := by
  intro pos pins s σ H Q I h
  show wpAny _ _ (evalAll ((do let v ← eval e X.env; standAt pos; pure v) :: (backToKw pos (keywordEach kws X.env)).map (·.2))) _ _ s
  refine wpAny_evalAll_cons (wpAny_bind (thn (ha pins s σ H _ I h) fun u s1 ⟨x, H1, I1, r1, q1⟩ => wpAny_bind (wpAny_standAt (wpAny_pure ?_))))
  exact thn (hr pos pins s1 σ H1 _ I1 q1) fun us s2 ⟨xs, H2, I2, r2, q2⟩ => ⟨x :: xs, H2, I2, .cons r1 r2, q2⟩
structure KBinds (K : PySem.W.Frag) (fd : FuncData) (ps ks : List Str) (g : List Value → List Value → List Value) (gV : List V → List V → List V) : Prop where
  to : ∀ (s : Shared) (us ws : List Value), K.In s.heap → (g us ws).length = ps.length → BindsTo s fd ⟨us, ks.zip ws⟩ (ps.zip (g us ws))
  rel : ∀ {vs : List V} {us : List Value} {zs : List V} {ws : List Value}, Vals vs us → Vals zs ws → Vals (gV vs zs) (g us ws)
variable {g : List Value → List Value → List Value} {gV : List V → List V → List V}
end
structure FnScope (N P : List Str) (sc : Scope) : Prop where
  kind : sc.kind = .function
  co : sc.isCoroutine = false
  gen : sc.isGenerator = false
  nd : N.Nodup
  pre : N.take P.length = P
  par : ∀ x ∈ P, sc.names.lookup x = some .local ∨ sc.names.lookup x = some .cell
  nofree : ∀ y ∈ sc.names, y.2 ≠ .free
theorem bindL_out {kindOf : Str → Option NameKind} {x : Str} : ∀ {binds : List (Str × Value)} {m : Str → Option Value}, (∀ v, (x, v) ∉ binds) → bindL kindOf binds m x = m x
  | [], _, _ => rfl
  | (n, v) :: r, m, h => by
    unfold bindL
    rw [bindL_out fun w hw => h w (List.mem_cons_of_mem _ hw)]
    split
    · have : x ≠ n := by rintro rfl; exact h v List.mem_cons_self
      simp [this]
    · rfl
theorem bindC_out {kindOf : Str → Option NameKind} {x : Str} : ∀ {binds : List (Str × Value)} {m : Str → Option Value}, (∀ v, (x, v) ∉ binds) → bindC kindOf binds m x = m x
  | [], _, _ => rfl
  | (n, v) :: r, m, h => by
    unfold bindC
    rw [bindC_out fun w hw => h w (List.mem_cons_of_mem _ hw)]
    split
    · rfl
    · have : x ≠ n := by rintro rfl; exact h v List.mem_cons_self
      simp [this]
theorem bindL_get {kindOf : Str → Option NameKind} {x : Str} {v : Value} : ∀ {P : List Str} {vs : List Value} {i : Nat} {m : Str → Option Value}, P.Nodup → P[i]? = some x → vs[i]? = some v → kindOf x = some .local →
    bindL kindOf (P.zip vs) m x = some v
  | [], _, _, _, _, h, _, _ => by simp at h
  | _ :: _, [], _, _, _, _, h, _ => by simp at h
  | p :: P, w :: vs, 0, m, nd, h1, h2, hk => by
    simp at h1 h2; subst h1; subst h2
    show bindL kindOf ((p, w) :: P.zip vs) m p = _
    unfold bindL
    rw [bindL_out fun v hv => (List.nodup_cons.mp nd).1 (List.of_mem_zip hv).1, if_pos hk]
    simp
  | p :: P, w :: vs, i + 1, m, nd, h1, h2, hk => by
    show bindL kindOf ((p, w) :: P.zip vs) m x = _
    unfold bindL
    exact bindL_get (i := i) (List.nodup_cons.mp nd).2 (by simpa using h1) (by simpa using h2) hk
theorem bindC_get {kindOf : Str → Option NameKind} {x : Str} {v : Value} : ∀ {P : List Str} {vs : List Value} {i : Nat} {m : Str → Option Value}, P.Nodup → P[i]? = some x → vs[i]? = some v → kindOf x ≠ some .local →
    bindC kindOf (P.zip vs) m x = some v
  | [], _, _, _, _, h, _, _ => by simp at h
  | _ :: _, [], _, _, _, _, h, _ => by simp at h
  | p :: P, w :: vs, 0, m, nd, h1, h2, hk => by
    simp at h1 h2; subst h1; subst h2
    show bindC kindOf ((p, w) :: P.zip vs) m p = _
    unfold bindC
    rw [bindC_out fun v hv => (List.nodup_cons.mp nd).1 (List.of_mem_zip hv).1, if_neg hk]
    simp
  | p :: P, w :: vs, i + 1, m, nd, h1, h2, hk => by
    show bindC kindOf ((p, w) :: P.zip vs) m x = _
    unfold bindC
    exact bindC_get (i := i) (List.nodup_cons.mp nd).2 (by simpa using h1) (by simpa using h2) hk
def start (N : List Str) (vs : List V) : St := vs.map some ++ List.replicate (N.length - vs.length) none
def cxOf (CX : CXT) (P : Program) (w : World) (K : PySem.W.Frag) (mg : Str → Option Value) (base : Heap) (N : List Str) (qual : Str) (scope : Scope) (f : Addr) (cd : Value) (A : Around) (outer : List Env) (s : Shared) (H : Hp) (E : XK) : Cx where
  prog := P
  w := w
  K := K
  mg := mg
  base := base
  A := A.deeper (envOfC qual scope s.heap.objs.size f cd)
  N := N
  s₀ := s
  H₀ := H
  env := envOfC qual scope s.heap.objs.size f cd
  outer := outer
  stack := envOfC qual scope s.heap.objs.size f cd :: outer
  ex := []
  calm := true
  fn := fun _ => true
  pn := []
  xe := fun e s' => wpAny (model P w) (A.deeper (envOfC qual scope s.heap.objs.size f cd)) (leaving (envOfC qual scope s.heap.objs.size f cd) e) (fun _ s'' => CX outer H s E e s'') (fun e' s'' => CX outer H s E e' s'') s'
theorem cell_has {sc : Scope} {n : Nat} {x : Str} (h : sc.names.lookup x = some .cell) : ∃ c, (cellsFrom n sc.names []).lookup x = some c := by
  have q := PySem.W.cellsFrom_some sc.names n [] (.inl h)
  exact Option.isSome_iff_exists.mp q
theorem inv_start {CX : CXT} {P : Program} {w : World} {K : PySem.W.Frag} {mg : Str → Option Value} {base : Heap} {N ps : List Str} {qual : Str} {scope : Scope} {f : Addr} {cd : Value} {A : Around} {outer : List Env} {s s1 : Shared} {H : Hp} {E : XK} {us : List Value} {vs : List V}
    (S : FnScope N ps scope) (hd : A.handled = none) (e0 : Env0 P w K mg base A outer s H) (hl : vs.length = ps.length) (r : Vals vs us)
    (x : InCallC s s.heap.objs.size (bindL (envOfC qual scope s.heap.objs.size f cd).kindOf (ps.zip us) fun _ => none) (cellsFrom (s.heap.objs.size + 1) scope.names []) (bindC (envOfC qual scope s.heap.objs.size f cd).kindOf (ps.zip us) fun _ => none) s1) :
    Inv (cxOf CX P w K mg base N qual scope f cd A outer s H E) [] (start N vs) H s1 := by
  have hpl : ps.length ≤ N.length := by have := congrArg List.length S.pre; rw [List.length_take] at this; omega
  obtain ⟨h1, tk, rfl, hk⟩ := x.done
  have noA : ∀ b : Addr, b ∉ (cxOf CX P w K mg base N qual scope f cd A outer s H E).ex := fun b z => absurd (show b ∈ ([] : List Addr) from z) (by simp)
  refine ⟨⟨e0.mod, S.kind, rfl, rfl, Nat.le_refl _, fun y z c h1 h2 => ?_, fun y hy => ?_, fun y c _ h => ?_, fun _ => hd, Around.frames_deeper e0.frames, .inr ⟨rfl, rfl⟩, fun b z => absurd z (noA b), e0.bs, e0.bsz, fun b _ _ => noA b, fun b z => absurd z (noA b), e0.funs, e0.frf⟩,
    rfl, e0.bare, Un.kept hk, ⟨_, x.toInCall.ns, fun i y v h1 h2 h3 => ?_⟩, fun y c h => ⟨_, x.cell y c h⟩, e0.hok.fresh (Nat.le_refl _), fun y c h => ?_, fun p hp => absurd (show p ∈ ([] : List (Addr × Obj)) from hp) (by simp), e0.hok.kept hk, ?_⟩
  · exact name_of_addr x.apart (PySem.mem_of_lookup h1) (PySem.mem_of_lookup h2)
  · have hy : scope.names.lookup y = some .cell ∨ scope.names.lookup y = some .free := hy
    rcases hy with hy | hy
    · exact cell_has hy
    · exact absurd rfl (S.nofree _ (PySem.mem_of_lookup hy))
  · exact Nat.le_of_lt (x.above y c (PySem.mem_of_lookup h))
  · have hi : i < vs.length := by
      unfold start at h2
      by_cases hi : i < vs.length
      · exact hi
      · rw [List.getElem?_append_right (by simpa using hi)] at h2
        rw [List.getElem?_replicate] at h2
        split at h2 <;> cases h2
    have ha : vs[i]? = some v := by
      unfold start at h2
      rw [List.getElem?_append_left (by simpa using hi), List.getElem?_map] at h2
      cases e : vs[i]? with
      | none => rw [e] at h2; cases h2
      | some a => rw [e] at h2; cases h2; rfl
    obtain ⟨u, hu, rv⟩ := r.get ha
    have hp : ps[i]? = some y := by
      rw [← S.pre, List.getElem?_take_of_lt (by omega)]; exact h1
    have ndP : ps.Nodup := by rw [← S.pre]; exact S.nd.sublist (List.take_sublist _ _)
    refine ⟨u, rv, ?_⟩
    rcases S.par y (List.mem_of_getElem? hp) with k | k
    · exact .inl ⟨k, bindL_get ndP hp hu k⟩
    · obtain ⟨c, e⟩ := cell_has (n := s.heap.objs.size + 1) k
      refine .inr ⟨.inl k, c, e, ?_⟩
      have q := x.cell y c e
      rw [bindC_get ndP hp hu (by show scope.names.lookup y ≠ _; rw [k]; decide)] at q
      exact q
  · exact e0.hok.fresh (Nat.le_of_lt (x.above y c (PySem.mem_of_lookup h)))
  · unfold start
    show _ = N.length
    rw [List.length_append, List.length_map, List.length_replicate]
    omega
theorem fn_of {CX : CXT} {P : Program} {w : World} {K : PySem.W.Frag} {mg : Str → Option Value} {base : Heap} {k : Nat} {f : Addr} {name qual : Str} {params : Arguments} {body : List Stmt} {scope : Scope} {dV kV doc pm cdv ct oc : Value} {an od : Option Addr}
    {osl : Array (Option Value)} {N ps : List Str} {sp : Sp} (lk : K.lookup f = some ⟨oc, od, .func (PySem.W.fnOf name qual params body scope dV kV doc pm an cdv ct), osl⟩) (hcd : PySem.W.codeIn K cdv qual = true) (S : FnScope N ps scope)
    (len : ∀ vs H Q E, sp vs H Q E → vs.length = ps.length)
    (hbody : ∀ (A : Around) (outer : List Env) (s : Shared) (H : Hp) (vs : List V) (Q : VK) (E : XK), Room k (A.deeper (envOfC qual scope s.heap.objs.size f cdv)) → sp vs H Q E →
      ∃ t, PSs (cxOf CX P w K mg base N qual scope f cdv A outer s H E) body t ∧ t { nx := fun _ H' => Q .non H', rt := Q } (start N vs) H) :
    FnOk P w K mg base CX (k + 1) f (PySem.W.fnOf name qual params body scope dV kV doc pm an cdv ct) ps sp := by
  refine ⟨len, fun A outer s H args us vs Q E hr e0 hb r hsp => ?_⟩
  have hl := len _ _ _ _ hsp
  have KX : K.In s.heap := e0.mod.kin.keeps fun b o e => (e0.bs b o e).1
  have lim : s.heap.NoLimit := e0.mod.nolimit.keeps fun b o e => (e0.bs b o e).1
  have hkind : ∀ y ∈ ps.zip us, scope.names.lookup y.1 = some .local ∨ (scope.names.lookup y.1 = some .cell ∧ ((cellsFrom (s.heap.objs.size + 1) scope.names []).lookup y.1).isSome = true) := fun ⟨n, v⟩ hy => by
    rcases S.par n (List.of_mem_zip hy).1 with q | q
    · exact .inl q
    · exact .inr ⟨q, PySem.W.cellsFrom_some _ _ _ (.inl q)⟩
  refine codeAny_call_function hr.depth (KX _ _ lk) rfl S.co S.gen rfl (PySem.W.codeRec_of KX hcd) (hb _ _ _ _ ?_)
  refine wpAny_newFunctionEnv_cells S.kind hkind fun env he s1 x => ?_
  subst he
  refine ⟨lim.keeps x.toInCall.keep, codeAny_func ?_⟩
  obtain ⟨t, ht, hq⟩ := hbody A outer s H vs Q E (hr.deeper _) hsp
  have I : Inv (cxOf CX P w K mg base N qual scope f cdv A outer s H E) [] (start N vs) H s1 := inv_start S hr.hd e0 hl r x
  refine wpAny_mono (ht [] s1 (start N vs) H _ I hq) (fun fl s' hs => ?_) fun e s' hs => hs
  have fin : ∀ {σ' : St} {H' : Hp} {v : V} {u : Value}, Inv (cxOf CX P w K mg base N qual scope f cdv A outer s H E) [] σ' H' s' → RelV v u → Q v H' → CE outer P w H s Q u s' :=
    fun {σ' H' v u} J rv q => ⟨v, H', J.os, J.bare, J.base, J.hok, rv, q⟩
  cases fl with
  | ret u =>
    obtain ⟨v, σ', H', J, rv, q⟩ := hs
    exact fin J rv q
  | next =>
    obtain ⟨σ', H', J, q⟩ := hs
    exact fin (v := V.non) (u := Value.none) J rfl q
  | brk =>
    obtain ⟨_, _, _, q⟩ := hs
    exact False.elim q
  | cont =>
    obtain ⟨_, _, _, q⟩ := hs
    exact False.elim q
end L2
namespace L2
open PySem PySem.Spec PyProof.Rows
section
variable {X : Cx} {x : Str} {p pos : Pos} {e : Expr} {es : List Expr} {t : TA} {id T : String} {r : List V → Hp → VK → Prop}
def tCB (r : List V → Hp → VK → Prop) (t : TA) : TE := fun σ H Q => t σ H fun vs H1 => r vs H1 Q
theorem pe_callB (hc : CallR X (.builtin id) r) (hg : Gl X x) (hm : X.mg x = none) (hv : bootBuiltins x = some (.builtin id)) (ha : PA X (e :: es) t) (hn : x ≠ "__name__" := by decide) (hdb : (x == ("__debug__" : Str)) = false := by decide)
    (he : starEach (e :: es) X.env = (false, eval e X.env) :: starEach es X.env := by rfl) (hpl : (backTo pos (starEach es X.env)).any (·.1) = false := by rfl) : PE X (.Call (.Name x p) (e :: es) [] pos) (tCB r t) := by
  intro pins s σ H Q I h
  refine wpAny_Call_Name_kw (ld_blt I hg hm hv ?_ hn hdb)
  exact PyProof.Rows.callWith_builtin1 (thn (ha pos pins s σ H _ I h) fun us s1 ⟨vs, H1, I1, r1, q1⟩ => hc pins s1 σ H1 vs us Q I1 r1 q1) he hpl
theorem pe_callTy (hc : CallR X (.type T) r) (hg : Gl X x) (hm : X.mg x = none) (hv : bootBuiltins x = some (.type T)) (ha : PA X (e :: es) t) (hn : x ≠ "__name__" := by decide) (hdb : (x == ("__debug__" : Str)) = false := by decide)
    (he : starEach (e :: es) X.env = (false, eval e X.env) :: starEach es X.env := by rfl) (hpl : (backTo pos (starEach es X.env)).any (·.1) = false := by rfl) : PE X (.Call (.Name x p) (e :: es) [] pos) (tCB r t) := by
  intro pins s σ H Q I h
  refine wpAny_Call_Name_kw (ld_blt I hg hm hv ?_ hn hdb)
  exact PyProof.Rows.callWith_type1 (thn (ha pos pins s σ H _ I h) fun us s1 ⟨vs, H1, I1, r1, q1⟩ => hc pins s1 σ H1 vs us Q I1 r1 q1) he hpl
end
end L2
namespace HT
open PySem PyProof.Rows
section
open PySem.SeqAt
open PySem.AutoSeq1 (wpAny_loadPart')
open PySem.MeetsSeq PySem.MeetsSeq2 PySem.MeetsSeq3
end
section
variable {prog : Program} {w : World} {A : Around} {E : Value → Shared → Prop} {s : Shared}
def sIx (n d : Nat) : Option Int → Nat
  | none => d
  | some v => if v < 0 then (v + (n : Int)).toNat else min v.toNat n
theorem sIx_nat (n d k : Nat) : sIx n d (some (k : Int)) = min k n := by
  show (if (k : Int) < 0 then ((k : Int) + (n : Int)).toNat else min (k : Int).toNat n) = min k n
  rw [if_neg (by omega), Int.toNat_natCast]
end
end HT
namespace L2
open PySem PySem.Spec PyProof.Rows
abbrev TO := St → Hp → (Option Int → Hp → Prop) → Prop
def PO (X : Cx) (e : Option Expr) (t : TO) : Prop :=
  ∀ (pins : List (Addr × Obj)) (s : Shared) (σ : St) (H : Hp) (Q : Option Int → Hp → Prop), Inv X pins σ H s → t σ H Q →
    wpAny (model X.prog X.w) X.A (evalPart e X.env) (fun u s' => ∃ o H', Inv X pins σ H' s' ∧ IsPart u o ∧ Q o H') X.xe s
def tPart (t : TE) : TO := fun σ H Q => t σ H fun x H1 => ∃ i, x = .int i ∧ Q (some i) H1
theorem intsAre_of {ns : List Int} : ∀ {us : List Value}, Vals (ns.map V.int) us → IntsAre us ns := by
  induction ns with
  | nil => intro us r; rw [List.map_nil] at r; cases r; exact .nil
  | cons n ns ih =>
    intro us r
    rw [List.map_cons] at r
    cases r with
    | cons r1 r2 =>
      obtain ⟨t, e⟩ := r1
      subst e
      exact .cons n t (ih r2)
section
variable {X : Cx} {e : Expr} {te : TE} {lo hi : Option Expr} {tl th : TO} {pos p2 : Pos}
theorem po_some (h : PE X e te) : PO X (some e) (tPart te) := by
  intro pins s σ H Q I hw
  rw [evalPart_some]
  refine thn (h pins s σ H _ I hw) fun u s1 ⟨x, H1, I1, r1, q1⟩ => ?_
  obtain ⟨i, rfl, q⟩ := q1
  obtain ⟨t, rfl⟩ := r1
  exact ⟨some i, H1, I1, .int i t, q⟩
def SlR (X : Cx) (r : V → Option Int → Option Int → Hp → VK → Prop) : Prop :=
  ∀ (pins : List (Addr × Obj)) (s : Shared) (σ : St) (H : Hp) (x : V) (v vl vu : Value) (lo hi : Option Int) (sl : Addr) (Q : VK), Inv X pins σ H s → RelV x v → s.heap.IsSliceOf sl vl vu .none → IsPart vl lo → IsPart vu hi → r x lo hi H Q →
    ∃ T id, typeLookup (.type T) "__getitem__" = pure (some (.builtin id)) ∧ s.TypeIs v T ∧ wpAny (model X.prog X.w) X.A (getItem v (.ref sl)) (EP X pins σ Q) X.xe s
def tSl (r : V → Option Int → Option Int → Hp → VK → Prop) (te : TE) (tl th : TO) : TE := fun σ H Q => te σ H fun x H1 => tl σ H1 fun l H2 => th σ H2 fun u H3 => r x l u H3 Q
theorem pe_slice {r : V → Option Int → Option Int → Hp → VK → Prop} (hr : SlR X r) (he : PE X e te) (hl : PO X lo tl) (hu : PO X hi th) : PE X (.Subscript e (.Slice lo hi none p2) pos) (tSl r te tl th) := by
  intro pins s σ H Q I h
  refine Subscript_ (thn (he pins s σ H _ I h) fun v s1 ⟨x, H1, I1, r1, q1⟩ => ?_)
  refine wpAny_Slice (thn (hl pins s1 σ H1 _ I1 q1) fun vl s2 ⟨l, H2, I2, pl, q2⟩ => thn (hu pins s2 σ H2 _ I2 q2) fun vu s3 ⟨u, H3, I3, pu, q3⟩ => ?_)
  rw [evalPart_none]
  refine wpAny_pure ?_
  have I4 : Inv X pins σ H3 { s3 with heap := s3.heap.push { cls := .type "slice", data := .fields #[vl, vu, .none] } } := I3.kept (t' := s3.toks) fun b ob q => Heap.get?_push_of_some _ q
  obtain ⟨T, id, hT, ht, hg⟩ := hr pins { s3 with heap := s3.heap.push { cls := .type "slice", data := .fields #[vl, vu, .none] } } σ H3 x v vl vu l u s3.heap.objs.size Q I4 r1 (Heap.IsSliceOf.new ..) pl pu q3
  show wpAny (model X.prog X.w) X.A (subscriptTail e (.Slice lo hi none p2) v (.ref s3.heap.objs.size)) (EP X pins σ Q) X.xe { s3 with heap := s3.heap.push { cls := .type "slice", data := .fields #[vl, vu, .none] } }
  exact tail_any (ops := [.ref s3.heap.objs.size, v]) ht hT hg (by with_unfolding_all rfl)
def cutV (xs : List V) (lo hi : Option Int) : List V := (xs.drop (HT.sIx xs.length 0 lo)).take (HT.sIx xs.length xs.length hi - HT.sIx xs.length 0 lo)
theorem cutV_length (xs : List V) (lo hi : Option Int) : (cutV xs lo hi).length ≤ xs.length := by
  unfold cutV
  rw [List.length_take, List.length_drop]
  omega
end
end L2
namespace L2
open PySem PySem.Spec PyProof.Rows
def ixN (n : Nat) (i : Int) : Option Nat := if 0 ≤ i then (if i < n then some i.toNat else none) else if -(n : Int) ≤ i then some (i + n).toNat else none
def atI {α : Type} (xs : List α) (i : Int) : Option α := (ixN xs.length i).bind fun j => xs[j]?
theorem ixN_seq {n : Nat} {i : Int} {j : Nat} (h : ixN n i = some j) : seqIndex? i n = some j ∧ j < n ∧ -(n : Int) ≤ i ∧ i < n := by
  unfold ixN at h
  by_cases h0 : 0 ≤ i
  · rw [if_pos h0] at h
    by_cases h1 : i < n
    · rw [if_pos h1] at h
      have e : i.toNat = j := Option.some.inj h
      exact ⟨by rw [seqIndex_of h0 h1, e], by omega, by omega, h1⟩
    · rw [if_neg h1] at h; cases h
  · rw [if_neg h0] at h
    by_cases h1 : -(n : Int) ≤ i
    · rw [if_pos h1] at h
      have e : (i + n).toNat = j := Option.some.inj h
      exact ⟨by rw [seqIndex_neg (by omega) h1, e], by omega, h1, by omega⟩
    · rw [if_neg h1] at h; cases h
theorem atI_get {α : Type} {xs : List α} {i : Int} {v : α} (h : atI xs i = some v) : ∃ j, seqIndex? i xs.length = some j ∧ xs[j]? = some v ∧ j < xs.length ∧ -(xs.length : Int) ≤ i ∧ i < xs.length := by
  unfold atI at h
  cases e : ixN xs.length i with
  | none => rw [e] at h; cases h
  | some j =>
    rw [e] at h
    obtain ⟨h1, h2, h3, h4⟩ := ixN_seq e
    exact ⟨j, h1, h, h2, h3, h4⟩
theorem atI_nat {α : Type} {xs : List α} {j : Nat} {v : α} (h : xs[j]? = some v) : atI xs (j : Int) = some v := by
  have hj : j < xs.length := (List.getElem?_eq_some_iff.mp h).1
  have e : ixN xs.length (j : Int) = some j := by
    unfold ixN
    rw [if_pos (by omega), if_pos (by omega)]; simp
  unfold atI; rw [e]; exact h
theorem atI_last {α : Type} (xs : List α) (v : α) : atI (xs ++ [v]) (-1) = some v := by
  have hl : (xs ++ [v]).length = xs.length + 1 := by simp
  have e : ixN (xs ++ [v]).length (-1) = some xs.length := by
    unfold ixN
    rw [hl, if_neg (by decide), if_pos (by omega)]
    congr 1
    omega
  unfold atI
  rw [e]
  show (xs ++ [v])[xs.length]? = some v
  simp
def PlainIx (b : Expr) : Prop := ∀ o i, subscripted b false o i = operate [o, i] (getItem o i)
def IxR (X : Cx) (r : R2) : Prop :=
  ∀ (value slice : Expr) (pins : List (Addr × Obj)) (s : Shared) (σ : St) (H : Hp) (x y : V) (v u : Value) (Q : VK), Inv X pins σ H s → RelV x v → RelV y u → r x y H Q →
    subscripted slice false v u = operate [v, u] (getItem v u) → wpAny (model X.prog X.w) X.A (subscriptTail value slice v u) (EP X pins σ Q) X.xe s
def MtR (X : Cx) (id : String) (r : V → List V → Hp → VK → Prop) : Prop :=
  ∀ (pins : List (Addr × Obj)) (s : Shared) (σ : St) (H : Hp) (x : V) (xs : List V) (v : Value) (us : List Value) (Q : VK), Inv X pins σ H s → RelV x v → Vals xs us → r x xs H Q →
    wpAny (model X.prog X.w) X.A (call (.builtin id) (v :: us)) (EP X pins σ Q) X.xe s
section
variable {X : Cx} {a b : Expr} {ta tb : TE} {pos : Pos}
theorem pe_ix {r : R2} (hr : IxR X r) (ha : PE X a ta) (hb : PE X b tb) (hs : PlainIx b) : PE X (.Subscript a b pos) (tOp r ta tb) := by
  intro pins s σ H Q I h
  exact Subscript_ (binT ha hb I h fun v u s2 x y H2 I2 rx ry q => hr a b pins s2 σ H2 x y v u Q I2 rx ry q (hs _ _))
def rIxL (K : PySem.W.Frag) : R2 := fun x y H Q => ∃ p xs i v, x = .ref p ∧ y = .int i ∧ SqL K H p xs ∧ atI xs i = some v ∧ Q v H
def rIxT (K : PySem.W.Frag) : R2 := fun x y H Q => ∃ p xs i v, x = .ref p ∧ y = .int i ∧ SqT K H p xs ∧ atI xs i = some v ∧ Q v H
def rIxS : R2 := fun x y H Q => ∃ z i c, x = .str z ∧ y = .int i ∧ z.length ≤ sizeLine ∧ atI z.cps.toList i = some c ∧ Q (.str ⟨#[c]⟩) H
theorem ix_list : IxR X (rIxL X.K) := by
  intro value slice pins s σ H x y v u Q I rx ry h hs
  obtain ⟨p, xs, i, z, rfl, rfl, hq, he, q⟩ := h
  cases rx
  obtain ⟨t, rfl⟩ := ry
  obtain ⟨its, r, pl, hz⟩ := I.list hq
  obtain ⟨j, h1, h2, h3, h4, h5⟩ := atI_get he
  obtain ⟨w, ew, rw'⟩ := r.get h2
  have hl := r.length
  have hn := line63
  have fin : EP X pins σ Q w s := ⟨z, H, I, rw', q⟩
  by_cases h0 : 0 ≤ i
  · have hj : i.toNat = j := by
      rw [seqIndex_of h0 h5] at h1
      exact Option.some.inj h1
    exact item_listR pl.isList h0 (by omega) (by rw [hj]; simpa using ew) fin hs
  · have hj : (i + (its.toArray.size : Int)).toNat = j := by
      rw [seqIndex_neg (by omega) h4] at h1
      rw [List.size_toArray, ← hl]
      exact Option.some.inj h1
    exact subscriptTail_builtinR (x := w) pl.isList.typeIs slot_list_getitem.lookup
      (wpAny_getItem_list_neg (Q := fun r s' => r = w ∧ EP X pins σ Q r s') pl.isList (by omega) (by rw [List.size_toArray] <;> omega) (by omega) (by rw [hj]; simpa using ew) ⟨rfl, fin⟩) hs
theorem ix_tup : IxR X (rIxT X.K) := by
  intro value slice pins s σ H x y v u Q I rx ry h hs
  obtain ⟨p, xs, i, z, rfl, rfl, hq, he, q⟩ := h
  cases rx
  obtain ⟨t, rfl⟩ := ry
  obtain ⟨its, r, pl, hz⟩ := I.tuple hq
  obtain ⟨j, h1, h2, h3, h4, h5⟩ := atI_get he
  obtain ⟨w, ew, rw'⟩ := r.get h2
  have hl := r.length
  have hn := line63
  have fin : EP X pins σ Q w s := ⟨z, H, I, rw', q⟩
  exact subscriptTail_builtinR (x := w) pl.typeIs slot_tuple_getitem.lookup
    (getItem_tuple (j := j) (Q := fun r s' => r = w ∧ EP X pins σ Q r s') pl (by omega) (by omega) (by rw [List.size_toArray, ← hl]; exact h1) (by simpa using ew) ⟨rfl, fin⟩) hs
theorem ix_str : IxR X rIxS := by
  intro value slice pins s σ H x y v u Q I rx ry h hs
  obtain ⟨z, i, c, rfl, rfl, hz, he, q⟩ := h
  obtain ⟨t, rfl⟩ := rx
  obtain ⟨t', rfl⟩ := ry
  obtain ⟨j, h1, h2, h3, h4, h5⟩ := atI_get he
  have hl : z.cps.toList.length = z.length := by simp [Str.length]
  rw [hl] at h1 h4 h5
  have hn := line63
  exact tail_any (typeIs_str s z t) slot_str_getitem.lookup (getItem_str (c := c) (by
    have e1 : decide (i < -(2 ^ 63 : Int)) = false := decide_eq_false (by omega)
    have e2 : decide (i ≥ 2 ^ 63) = false := decide_eq_false (by omega)
    rw [e1, e2, Bool.or_false]) (by rw [h1]; simpa using h2) ⟨.str ⟨#[c]⟩, H, I.tok _, ⟨_, rfl⟩, q⟩) hs
theorem slice_bounds (lo hi : Option Int) (n : Nat) : (sliceBounds lo hi none n).1 = ((HT.sIx n 0 lo : Nat) : Int) ∧ (sliceBounds lo hi none n).2.1 = ((HT.sIx n n hi : Nat) : Int) ∧ (sliceBounds lo hi none n).2.2 = 1 := by
  refine ⟨?_, ?_, rfl⟩
  · cases lo with
    | none => simp [sliceBounds, HT.sIx]
    | some i =>
      simp only [sliceBounds, HT.sIx, Option.getD_none, show (1 : Int) > 0 by decide, if_true]
      by_cases h : i < 0
      · simp only [h, if_true] <;> omega
      · simp only [h, if_false] <;> omega
  · cases hi with
    | none => simp [sliceBounds, HT.sIx]
    | some i =>
      simp only [sliceBounds, HT.sIx, Option.getD_none, show (1 : Int) > 0 by decide, if_true]
      by_cases h : i < 0
      · simp only [h, if_true] <;> omega
      · simp only [h, if_false] <;> omega
theorem slicePick_cut (its : List Value) (lo hi : Option Int) : slicePick its.toArray lo hi none = ((its.drop (HT.sIx its.length 0 lo)).take (HT.sIx its.length its.length hi - HT.sIx its.length 0 lo)).toArray := by
  obtain ⟨h1, h2, h3⟩ := slice_bounds lo hi its.toArray.size
  unfold slicePick
  rw [h1, h2, h3]
  simp only [sliceRange_one, pick_run, List.size_toArray] <;> rfl
def rSlL (K : PySem.W.Frag) : V → Option Int → Option Int → Hp → VK → Prop := fun x lo hi H Q => ∃ a xs, x = .ref a ∧ SqL K H a xs ∧ ∀ p, H p = none → Q (.ref p) (upd H p (.lst (cutV xs lo hi)))
theorem sl_list : SlR X (rSlL X.K) := by
  intro pins s σ H x v vl vu lo hi sl Q I rx hs pl pu h
  obtain ⟨a, xs, rfl, hx, q⟩ := h
  cases rx
  obtain ⟨its, r, ht, hz⟩ := I.list hx
  have hlen := r.length
  refine ⟨"list", _, slot_list_getitem.lookup, ht.isList.typeIs, ?_⟩
  refine wpAny_getItem_list_slice ht.isList hs pl pu .none (by simp) ?_ (by rw [List.size_toArray] <;> omega)
  rw [slicePick_cut, ← hlen]
  refine ⟨.ref s.heap.objs.size, _, I.laid (t' := s.toks) (o := .lst (cutV xs lo hi)) (fun b ob q => Heap.get?_push_of_some _ q) (Nat.le_refl _) ?_, rfl, q _ (I.hok.fresh (Nat.le_refl _))⟩
  exact ⟨Nat.le_trans (cutV_length xs lo hi) hz, _, 0, (r.drop (HT.sIx xs.length 0 lo)).take (HT.sIx xs.length xs.length hi - HT.sIx xs.length 0 lo), Heap.get?_push_size _ rfl⟩
def flatV : V → Bool
  | .non => true
  | .bl _ => true
  | .int _ => true
  | .str _ => true
  | _ => false
def eqV : V → V → Bool
  | .non, .non => true
  | .bl a, .bl b => a == b
  | .bl a, .int b => (if a then 1 else 0) == b
  | .int a, .bl b => a == (if b then 1 else 0)
  | .int a, .int b => a == b
  | .str a, .str b => a == b
  | _, _ => false
theorem eqAt_V {A : Around} {s : Shared} {y x : V} {u v : Value} (ry : RelV y u) (rx : RelV x v) (fy : flatV y = true) (fx : flatV x = true) : SeqAt.EqAt A s u v (eqV y x) := by
  cases y with
  | non =>
    cases ry
    cases x with
    | non => cases rx; exact SeqAt.EqAt.same _
    | bl b => cases rx; exact SeqAt.EqAt.none_bool b
    | int b => obtain ⟨t, rfl⟩ := rx; exact SeqAt.EqAt.none_int b t
    | str b => obtain ⟨t, rfl⟩ := rx; exact SeqAt.EqAt.none_str b t
    | _ => exact absurd (show false = true from fx) Bool.false_ne_true
  | bl a =>
    cases ry
    cases x with
    | non => cases rx; exact SeqAt.EqAt.bool_none a
    | bl b => cases rx; exact SeqAt.EqAt.bool_bool a b
    | int b => obtain ⟨t, rfl⟩ := rx; exact SeqAt.EqAt.bool_int a b t
    | str b => obtain ⟨t, rfl⟩ := rx; exact SeqAt.EqAt.bool_str a b t
    | _ => exact absurd (show false = true from fx) Bool.false_ne_true
  | int a =>
    obtain ⟨t', rfl⟩ := ry
    cases x with
    | non => cases rx; exact SeqAt.EqAt.int_none a t'
    | bl b => cases rx; exact SeqAt.EqAt.int_bool a t' b
    | int b => obtain ⟨t, rfl⟩ := rx; exact SeqAt.EqAt.int_int a t' b t
    | str b => obtain ⟨t, rfl⟩ := rx; exact SeqAt.EqAt.int_str a t' b t
    | _ => exact absurd (show false = true from fx) Bool.false_ne_true
  | str a =>
    obtain ⟨t', rfl⟩ := ry
    cases x with
    | non => cases rx; exact SeqAt.EqAt.str_none a t'
    | bl b => cases rx; exact SeqAt.EqAt.str_bool a t' b
    | int b => obtain ⟨t, rfl⟩ := rx; exact SeqAt.EqAt.str_int a t' b t
    | str b => obtain ⟨t, rfl⟩ := rx; exact SeqAt.EqAt.str_str a t' b t
    | _ => exact absurd (show false = true from fx) Bool.false_ne_true
  | _ => exact absurd (show false = true from fy) Bool.false_ne_true
theorem call_len_seq : CallR X (.builtin "len") (fun xs H Q => ∃ p ys, xs = [.ref p] ∧ (SqL X.K H p ys ∨ SqT X.K H p ys) ∧ Q (.int ys.length) H) := by
  intro pins s σ H xs us Q I r h
  obtain ⟨p, ys, rfl, hq, q⟩ := h
  obtain ⟨u, rfl, rx⟩ := vals1 r
  cases rx
  have hn := line63
  rcases hq with hq | hq
  · obtain ⟨its, r', pl, hz⟩ := I.list hq
    have hlen := r'.length
    exact Calls.call_len_list pl.isList (by simp only [List.size_toArray] <;> omega) ⟨.int ys.length, H, I.tok _, ⟨s.toks + 1, by rw [List.size_toArray, hlen]⟩, q⟩
  · obtain ⟨its, r', pl, hz⟩ := I.tuple hq
    have hlen := r'.length
    exact len_tuple pl (by simp only [List.size_toArray] <;> omega) ⟨.int ys.length, H, I.tok _, ⟨s.toks + 1, by rw [List.size_toArray, hlen]⟩, q⟩
theorem call_list_of : CallR X (.type "list") (fun xs H Q => ∃ p ys, xs = [.ref p] ∧ (SqL X.K H p ys ∨ SqT X.K H p ys) ∧ ∀ l, H l = none → Q (.ref l) (upd H l (.lst ys))) := by
  intro pins s σ H xs us Q I r h
  obtain ⟨p, ys, rfl, hq, q⟩ := h
  obtain ⟨u, rfl, rx⟩ := vals1 r
  cases rx
  have fin : ∀ (its : List Value), Vals ys its → ys.length ≤ sizeLine → ∀ (h' : Heap) (c' : Nat), (∀ b o', s.heap.get? b = some o' → h'.get? b = some o') →
      h'.get? s.heap.objs.size = some { cls := .type "list", dict := none, data := .seq its.toArray c', slots := #[] } → EP X pins σ Q (.ref s.heap.objs.size) { s with heap := h' } := fun its r' hz h' c' kp e =>
    ⟨.ref s.heap.objs.size, _, I.laid (t' := s.toks) kp (Nat.le_refl _) (show ObjOk X.prog X.w _ h' _ (.lst ys) from ⟨hz, its, c', r', e⟩), rfl, q _ (I.hok.fresh (Nat.le_refl _))⟩
  rcases hq with hq | hq
  · obtain ⟨its, r', pl, hz⟩ := I.list hq
    have hlen := r'.length
    obtain ⟨o, ho, hc, n, hd⟩ := pl.isList
    exact call_list_seq p (.inl rfl) ho hc hd (fun h' c' kp e => fin its r' hz h' c' kp e) (by simp only [List.size_toArray] <;> omega)
  · obtain ⟨its, r', pl, hz⟩ := I.tuple hq
    have hlen := r'.length
    obtain ⟨o, ho, hc, n, hd⟩ := pl
    exact call_list_seq p (.inr rfl) ho hc hd (fun h' c' kp e => fin its r' hz h' c' kp e) (by simp only [List.size_toArray] <;> omega)
def tyV (K : PySem.W.Frag) (T : String) (x : V) (H : Hp) : Prop := match x with
  | .str _ => T = "str"
  | .int _ => T = "int"
  | .ref p => (T = "list" ∧ ∃ xs, SqL K H p xs) ∨ (T = "tuple" ∧ ∃ o, K.lookup p = some o ∧ o.cls = .type "tuple" ∧ o.dict = none) ∨
      (T = "dict" ∧ ((∃ kvs, H p = some (.dK kvs)) ∨ ∃ kvs, H p = some (.dT kvs))) ∨ (T = "set" ∧ ∃ S n, H p = some (.set S n))
  | _ => False
theorem tyV_is {pins : List (Addr × Obj)} {σ : St} {H : Hp} {s : Shared} {T : String} {x : V} {v : Value} (I : Inv X pins σ H s) (r : RelV x v) (ty : tyV X.K T x H) :
    s.TypeIs v T ∧ ∀ a, v = .ref a → ∃ ob, s.heap.get? a = some ob ∧ ob.dict = none := by
  cases x with
  | str z =>
    obtain ⟨t, rfl⟩ := r
    cases (show T = "str" from ty)
    exact ⟨typeIs_str s z t, fun _ e => nomatch e⟩
  | int i =>
    obtain ⟨t, rfl⟩ := r
    cases (show T = "int" from ty)
    exact ⟨typeIs_int s i t, fun _ e => nomatch e⟩
  | ref p =>
    cases r
    rcases ty with ⟨rfl, xs, hq⟩ | ⟨rfl, o, hk, hc, hd⟩ | ⟨rfl, hk⟩ | ⟨rfl, S, n, hk⟩
    · obtain ⟨its, _, pl, _⟩ := I.list hq
      refine ⟨pl.isList.typeIs, fun a e => ?_⟩
      cases e
      obtain ⟨o, n, e, c, hd, _⟩ := pl
      exact ⟨o, e, hd⟩
    · refine ⟨⟨o, I.kIn p o hk, hc⟩, fun a e => ?_⟩
      cases e
      exact ⟨o, I.kIn _ o hk, hd⟩
    · have z : ∃ o, s.heap.get? p = some o ∧ o.ExactDict := by
        rcases hk with ⟨kvs, hk⟩ | ⟨kvs, hk⟩
        · obtain ⟨_, _, _, _, o, _, _, e, ex, _⟩ := I.hok p _ hk
          exact ⟨o, e, ex⟩
        · obtain ⟨_, _, _, _, o, _, _, e, ex, _⟩ := I.hok p _ hk
          exact ⟨o, e, ex⟩
      obtain ⟨o, e, ex⟩ := z
      refine ⟨⟨o, e, ex.1⟩, fun a e2 => ?_⟩
      cases e2
      exact ⟨o, e, ex.2.1⟩
    · obtain ⟨o, _, _, _, e, ex, _⟩ := I.hok p _ hk
      refine ⟨⟨o, e, ex.1⟩, fun a e2 => ?_⟩
      cases e2
      exact ⟨o, e, ex.2.1⟩
  | _ => exact False.elim ty
def tBM (K : PySem.W.Frag) (T : String) (r : V → List V → Hp → VK → Prop) (to : TE) (t : TA) : TE := fun σ H Q => to σ H fun x H1 => tyV K T x H1 ∧ t σ H1 fun xs H2 => r x xs H2 Q
variable {o e : Expr} {es : List Expr} {to : TE} {t : TA} {name : Str} {apos cpos : Pos} {T id : String} {r : V → List V → Hp → VK → Prop}
theorem pe_bm (pa : PlainAttrs T) (slot : Slot T name id) (hty : typeOf (.builtin id) = pure (.type "method_descriptor")) (hm : MtR X id r) (ho : PE X o to) (ha : PA X (e :: es) t)
    (hbase : attributeBase o name X.env (eval o X.env) = eval o X.env := by rfl)
    (hfew : ((backTo cpos (starEach (e :: es) X.env)).all (fun x => !x.1) && (backToKw cpos (keywordEach [] X.env)).all (fun x => x.1.isSome)
      && decide ((e :: es).length + ([] : List Keyword).length + (if ([] : List Keyword).isEmpty then 0 else 1) < 30)) = true := by rfl)
    (hline : (apos.endLine == cpos.line) = true := by rfl) (hs : starEach (e :: es) X.env = (false, eval e X.env) :: starEach es X.env := by rfl) (hplain : (backTo cpos (starEach es X.env)).any (·.1) = false := by rfl) :
    PE X (.Call (.Attribute o name apos) (e :: es) [] cpos) (tBM X.K T r to t) := by
  intro pins s σ H Q I h
  refine wpAny_Call_method_late hbase hfew hline rfl (thn (ho pins s σ H _ I h) fun v s1 ⟨x, H1, I1, r1, ty, q1⟩ => ?_)
  obtain ⟨h1, h2⟩ := tyV_is I1 r1 ty
  refine ⟨T, id, pa, slot, hty, h1, h2, ?_⟩
  have hA := ha cpos pins s1 σ H1 _ I1 q1
  rw [hs] at hA ⊢
  refine Calls.callWith_builtin (by show (false || (backTo cpos (starEach es X.env)).any (·.1)) = false; rw [hplain] <;> rfl) (Calls.evalArgs_plain ?_)
  exact thn hA fun us s2 ⟨vs, H2, I2, r2, q2⟩ => hm pins s2 σ H2 x vs v us Q I2 r1 r2 q2
/- xs.append(e), list.index on a module's tuple .. are MtR facts of 06m -/
end
end L2
namespace L2
open PySem PySem.Spec PyProof.Rows
def MtM (X : Cx) (id : String) (r : V → List V → Hp → VK → Prop) : Prop :=
  ∀ (pins : List (Addr × Obj)) (s : Shared) (σ : St) (H : Hp) (x : V) (xs : List V) (v : Value) (us : List Value) (Q : VK), Inv X pins σ H s → RelV x v → Vals xs us → r x xs H Q →
    wpAny (model X.prog X.w) X.A (call (.builtin id) (v :: us)) (EP X pins σ Q) X.xe s
theorem Vals.one : ∀ {x : V} {us : List Value}, Vals [x] us → ∃ u, us = [u] ∧ RelV x u
  | _, _, .cons r .nil => ⟨_, rfl, r⟩
section
variable {X : Cx} {pins : List (Addr × Obj)} {σ : St} {H : Hp} {s : Shared} {l b : Addr} {xs ys zs : List V}
theorem Inv.lset {its its' : List Value} {n : Nat} {f : Array Value → Array Value} {t' : Nat} (I : Inv X pins σ H s) (hH : H l = some (.lst xs))
    (e : s.heap.get? l = some { cls := .type "list", data := .seq its.toArray n }) (hf : f its.toArray = its'.toArray) (hv : Vals ys its') (hz : ys.length ≤ sizeLine) :
    Inv X pins σ (upd H l (.lst ys)) { s with heap := s.heap.update l (Obj.mapSeq f), toks := t' } := by
  have q := PySem.IsL.update e f
  rw [hf] at q
  refine I.write (x := l) (e := l) (by rw [hH]; exact trivial) (.inl rfl) (fun b' u hb hu => (Heap.get?_update_other s.heap (Obj.mapSeq f) (Ne.symm hb)).trans hu) ⟨_, q⟩ ?_
  exact ⟨hz, its', _, hv, q⟩
theorem Inv.lnew {its : List Value} {t' : Nat} (I : Inv X pins σ H s) (hv : Vals ys its) (hz : ys.length ≤ sizeLine) :
    Inv X pins σ (upd H s.heap.objs.size (.lst ys)) { s with heap := s.heap.push { cls := .type "list", data := .seq its.toArray }, toks := t' } :=
  I.laid (fun _ _ q => Heap.get?_push_of_some _ q) (Nat.le_refl _) ⟨hz, its, 0, hv, Heap.get?_push_size _ rfl⟩
theorem Inv.fresh (I : Inv X pins σ H s) : H s.heap.objs.size = none := I.hok.fresh (Nat.le_refl _)
theorem Inv.lstM (I : Inv X pins σ H s) (hH : H l = some (.lst xs)) : xs.length ≤ sizeLine ∧ ∃ (its : List Value) (n : Nat), Vals xs its ∧ xs.length = its.length ∧ s.heap.get? l = some { cls := .type "list", data := .seq its.toArray n } := by
  obtain ⟨z, its, n, r, e⟩ := I.hok l _ hH
  exact ⟨z, its, n, r, r.length, e⟩
end
section
variable {X : Cx}
def rAppend : V → List V → Hp → VK → Prop := fun x vs H Q => ∃ l xs y, x = .ref l ∧ vs = [y] ∧ H l = some (.lst xs) ∧ xs.length < sizeLine ∧ Q .non (upd H l (.lst (xs ++ [y])))
theorem mt_append : MtM X "list.append" rAppend := by
  intro pins s σ H x vs v us Q I rx rv h
  obtain ⟨l, xs, y, rfl, rfl, hH, hz, q⟩ := h
  cases rx
  obtain ⟨u, rfl, ru⟩ := rv.one
  obtain ⟨z, its, n, r, hl, e⟩ := I.lstM hH
  refine call_meets F.slot_list_append ⟨_, e, rfl⟩ F.entry_list_append (F.args_list_append_2 _ _) (PySem.list_append l its.toArray n u (by rw [List.size_toArray]; omega)) ⟨e, ?_⟩
  refine ⟨.non, _, I.lset (its' := its ++ [u]) hH e (by simp) (r.append (.cons ru .nil)) ?_, rfl, q⟩
  rw [List.length_append, List.length_singleton]
  omega
end
section
variable {prog : Program} {w : World} {A : Around} {E : Value → Shared → Prop} {s : Shared}
end
section
variable {X : Cx}
end
end L2
namespace Att
open PySem PySem.W PySem.Calls PyProof.Rows
theorem ints_of_wellAll {P : Params} {h : Heap} : ∀ (ns : List Int) (vs : List Value), WellAll P h vs (ns.map WData.int) → IntsAre vs ns := by
  intro ns
  induction ns with
  | nil =>
    intro vs w
    rw [List.map_nil] at w
    cases w
    exact .nil
  | cons n ns ih =>
    intro vs w
    rw [List.map_cons] at w
    cases w with
    | cons a b =>
      cases a
      exact .cons _ _ (ih _ b)
theorem script_of {l : OpenLaw} {n : Nat} (hn : l.most = some n) {P : Params} {h : Heap} {args : List WData} {vals : List Value}
    (hpre : l.row.toRowW.claim.pre args = true) (hwl : WellAll P h vals args) :
    ∃ a vs ns, vals = [Value.ref a] ∧ args = [WData.list (ns.map WData.int)] ∧ h.get? a = some { cls := .type "list", data := .seq vs.toArray } ∧ IntsAre vs ns ∧ ns.length ≤ n := by
  have hsh : WShape.hasAll [] args [.list .int] = true := (pre_splitW hpre).1
  have hc : l.pre.holds [] { args := args } = true := (pre_splitW hpre).2
  obtain ⟨d, r, rfl, h1, h2⟩ := hasAllW_cons hsh
  obtain rfl := hasAllW_nil h2
  obtain ⟨xs, rfl, h3⟩ := hasW_list h1
  obtain ⟨ns, rfl⟩ := items_int h3
  have hlen : ns.length ≤ n := by
    unfold OpenLaw.pre at hc
    have h4 : (WTm.not (.lt (.lit (.int (n : Int))) (.len (.arg 0)))).holds [] { args := [.list (ns.map .int)] } = true := by
      have h4 := (holds_andW hc).1
      rw [hn] at h4
      exact h4
    have h5 := condW_of h4 (w_not (w_lt w_lit (w_len_list (w_arg rfl))))
    rw [List.length_map] at h5
    refine Nat.le_of_not_lt fun q => ?_
    have q' : (n : Int) < ((ns.length : Nat) : Int) := by omega
    first
      | (rw [decide_eq_true q'] at h5; exact absurd h5 (by decide))
      | (simp at h5; omega)
  cases hwl with
  | cons w1 w2 =>
    cases w2
    cases w1 with
    | list ho hall => exact ⟨_, _, ns, rfl, rfl, ho, ints_of_wellAll ns _ hall, hlen⟩
theorem post_true (l : OpenLaw) (args : List WData) : l.row.toRowW.claim.post args (.bool true) args = true :=
  postW_of (r := l.row.toRowW) (X := (true == true))
    (show WShape.has [] (.bool true) .bool = true by first | rfl | decide | simp [WShape.has, WShape.arms, WShape.armsAll])
    (show (WTm.eq .res (.lit (.bool true))).value [] { args := args, res := some (.bool true), after := args } = some (.bool (true == true)) from w_eq_bool (w_res rfl) w_lit) rfl
theorem attach_call {l : OpenLaw} {n : Nat} {q : Program} {loose : List Str} {XP : (Str → Option Value) → Heap → Prop} {YP : World → Heap → Prop} {d : DefRec}
    (hn : l.most = some n) (hdf : d.params.defaults = [])
    (call : ∀ (w : World) (s₀ s₁ : Shared) (mg mb : Str → Option Value) (fa : Addr) (o : Obj) (pm cd doc : Value) (a : Addr) (vs : List Value) (ns : List Int),
      Ground q loose [] XP w s₀ mg mb s₁.heap → YP w s₁.heap →
      s₁.heap.get? fa = some o → o.data = .func (docDef d.name d.params d.body d.scope pm cd doc) → s₁.heap.CodeRec cd d.name → mg d.name = some (.ref fa) →
      s₁.heap.get? a = some { cls := .type "list", data := .seq vs.toArray } → IntsAre vs ns → ns.length ≤ n → s₁.gens = #[] →
      codeAny (model l.prog w) callerA (.call (.ref fa) ⟨[.ref a], []⟩) (fun r s' => r = .ok (.ret (.bool true)) ∧ OldK s₁.heap s'.heap ∧ s'.os = s₁.os ∧ AllBare s'.gens) s₁) :
    WalkO q loose XP YP l.row.toRowW d [] (fun f vs => PySem.call f vs) := by
  intro w s₀ s₁ mg mb G Y fa o pm cd doc dV kV ho hd hcd hD hmg hg args vals as hpre hlay hrd hwl hlo
  obtain rfl : dV = .none := Dflts.none hD hdf
  obtain rfl : kV = .none := Dflts.noKw hD
  obtain ⟨a, vs, ns, rfl, rfl, hobj, hints, hlen⟩ := script_of hn hpre hwl
  refine enter_call (codeAny_mono (call w s₀ s₁ mg mb fa o pm cd doc a vs ns G Y ho (fd_plain hd) hcd hmg hobj hints hlen hg) fun r s' hq => ?_)
  obtain ⟨rfl, h2, h3, h4⟩ := hq
  exact ⟨.inl ⟨.bool true, .bool true, [], rfl, fun _ => rfl, .bool true, post_true l _, fun _ => ⟨List.Pairwise.nil, fun _ hm => (nomatch hm)⟩⟩, h2, h3, h4⟩
section
variable {prog : Program} {w : World} {A : Around} {E : Value → Shared → Prop} {s : Shared} {K : Frag}
end
end Att
namespace L2
open PySem PySem.Spec PyProof.Rows
theorem vals_ints : ∀ {vs : List Value} {ns : List Int}, IntsAre vs ns → Vals (ns.map V.int) vs
  | _, _, .nil => .nil
  | _, _, .cons n t h => .cons ⟨t, rfl⟩ (vals_ints h)
def Only (H : Hp) : Prop := ∀ b, H b = none ∨ ∃ o xs, H b = some (.frz o (.lst xs))
theorem law_call {P : Program} {w : World} {K : PySem.W.Frag} {mg mb : Str → Option Value} {CX : CXT} {k : Nat} {fa a : Addr} {fd : FuncData} {x : Str} {sp : Sp} {s₁ : Shared} {vs : List Value} {ns : List Int}
    (KX : K.In s₁.heap) (hns : s₁.heap.Ns mainGlobals mg) (hb : s₁.heap.Ns builtinsNs mb) (hbb : ∀ x : Str, x ≠ "__name__" → mb x = bootBuiltins x) (hlim : s₁.heap.NoLimit) (hg : s₁.gens = #[])
    (ha : s₁.heap.get? a = some { cls := .type "list", data := .seq vs.toArray }) (hi : IntsAre vs ns) (hl : ns.length ≤ sizeLine) (hr : Room k callerA)
    (F : ∀ base : Heap, K.In base → base.Ns mainGlobals mg → FnOk P w K mg base CX k fa fd [x] sp) (hbind : ∀ (s : Shared) (u : Value), BindsTo s fd ⟨[u], []⟩ [(x, u)])
    (hsp : ∀ H : Hp, Only H → SqL K H a (ns.map V.int) → sp [.ref a] H (fun v _ => v = .bl true) fun _ _ _ => False)
    (hCX : ∀ H e s', CX [] H s₁ (fun _ _ _ => False) e s' → False) :
    codeAny (model P w) callerA (.call (.ref fa) ⟨[.ref a], []⟩) (fun r s' => r = .ok (.ret (.bool true)) ∧ OldK s₁.heap s'.heap ∧ s'.os = s₁.os ∧ AllBare s'.gens) s₁ := by
  have rv := vals_ints hi
  have lenV := hi.length
  -- from an abstract heap in which nothing but the script may be tracked
  have core : ∀ H : Hp, Only H → SqL K H a (ns.map V.int) → HOk P w H s₁.heap → (∀ b, H b ≠ none → b = a) → (H a ≠ none → K.lookup a = none) →
      codeAny (model P w) callerA (.call (.ref fa) ⟨[.ref a], []⟩) (fun r s' => r = .ok (.ret (.bool true)) ∧ OldK s₁.heap s'.heap ∧ s'.os = s₁.os ∧ AllBare s'.gens) s₁ := by
    intro H hO hS hok hA hK
    have base_of : ∀ {b : Addr} {o : Obj}, s₁.heap.get? b = some o → H b = none → (hidT s₁.heap H).get? b = some o := fun e n => hidT_get e n
    have noA : ∀ {b : Addr} {o : Obj} {es : Array DictEntry} {ep : Nat}, s₁.heap.get? b = some o → o.data = .dict es ep → H b = none := fun {b o es ep} e d => by
      cases q : H b with
      | none => rfl
      | some u =>
        have e' : b = a := hA b (by rw [q]; simp)
        subst e'
        rw [ha] at e; cases e
        have d' : Data.seq vs.toArray _ = Data.dict es ep := d
        cases d'
    have nsK : ∀ {b : Addr} {m : Str → Option Value}, s₁.heap.Ns b m → (hidT s₁.heap H).Ns b m := fun {b m} ⟨o, es, ep, e, d, r⟩ => ⟨o, es, ep, base_of e (noA e d), d, r⟩
    have hKb : K.In (hidT s₁.heap H) := fun b o e => base_of (KX b o e) (by
      cases q : H b with
      | none => rfl
      | some u =>
        have e' : b = a := hA b (by rw [q]; simp)
        subst e'
        rw [hK (by rw [q]; simp)] at e; cases e)
    have hM : Mod K mg (hidT s₁.heap H) := ⟨hKb, nsK hns, ⟨mb, nsK hb, hbb⟩, let ⟨mc, h1, h2⟩ := hlim; ⟨mc, nsK h1, h2⟩⟩
    have e0 : Env0 P w K mg (hidT s₁.heap H) callerA [] s₁ H := ⟨rfl, hM, fun b o e => of_hidT e, Nat.le_of_eq (hidT_size _ _), trivial, fun b hb => absurd (show b ∈ ([] : List Addr) from hb) (by simp), hok, .of_eq hg⟩
    refine codeAny_mono ((F _ hKb (nsK hns)).run callerA [] s₁ H ⟨[.ref a], []⟩ [.ref a] [.ref a] _ _ hr e0 (hbind s₁ (.ref a)) (.cons rfl .nil) (hsp H hO hS)) fun r s' h => ?_
    cases r with
    | error e => exact (hCX H e s' h).elim
    | ok fl =>
      cases fl with
      | next => exact False.elim h
      | brk => exact False.elim h
      | cont => exact False.elim h
      | ret u =>
        obtain ⟨v, H', os, bare, un, hok', r', q⟩ := h
        have q' : v = .bl true := q
        subst q'
        obtain rfl : u = Value.bool true := r'
        refine ⟨rfl, OldK.of_keep fun b o e => ?_, os, bare⟩
        cases q : H b with
        | none => exact un.keep b o e q (by intro z; exact absurd (show b ∈ ([] : List Addr) from z) (by simp)) (by simp)
        | some u =>
          rcases hO b with z | ⟨ob, xs, z⟩
          · rw [q] at z; cases z
          · have z2 := un.frzs b ob _ z
            obtain ⟨e1, _⟩ := hok b _ z
            obtain ⟨e2, _⟩ := hok' b _ z2
            rw [e] at e1; cases e1
            exact e2
  cases hk : K.lookup a with
  | some o =>
    -- the script is one of the module's own objects
    have e := KX a o hk
    rw [ha] at e
    cases e
    refine core (fun _ => none) (fun _ => .inl rfl) (.inr ⟨_, vs.toArray, _, hk, rfl, rfl, rfl, by rw [List.size_toArray, lenV]; exact hl, by simpa using rv⟩) (fun b u z => by have z' : (none : Option HO) = some u := z; cases z') (fun b z => absurd rfl z) fun z => absurd rfl z
  | none =>
    refine core (fun b => if b = a then some (.frz { cls := .type "list", data := .seq vs.toArray } (.lst (ns.map V.int))) else none) (fun b => ?_) (.inl (.inr ⟨{ cls := .type "list", data := .seq vs.toArray }, if_pos rfl⟩)) (fun b u z => ?_) (fun b z => ?_) fun _ => hk
    · by_cases hb : b = a
      · exact .inr ⟨_, _, if_pos hb⟩
      · exact .inl (if_neg hb)
    · by_cases hb : b = a
      · have z' := (if_pos hb).symm.trans z
        cases z'
        subst hb
        exact ⟨ha, by rw [List.length_map]; exact hl, vs, _, rv, ha⟩
      · have z' := (if_neg hb).symm.trans z
        cases z'
    · by_cases hb : b = a
      · exact hb
      · exact absurd (if_neg hb) z
end L2
namespace L2
open PySem PySem.Spec PyProof.Rows
theorem walk_of {l : PySem.W.OpenLaw} {n k : Nat} {q : Program} {loose : List Str} {XP : (Str → Option Value) → Heap → Prop} {YP : World → Heap → Prop} {d : DefRec} {K : Params → PySem.W.Frag} {CX : World → CXT} {sp : World → Sp} {x : Str}
    (hn : l.most = some n) (hn2 : n ≤ sizeLine) (hdf : d.params.defaults = []) (hr : Room k callerA)
    (hY : ∀ (w : World) (h : Heap), YP w h → (K w.params).In h)
    (F : ∀ (w : World) (mg : Str → Option Value) (fa : Addr) (h : Heap), (K w.params).In h → h.Ns mainGlobals mg → mg d.name = some (.ref fa) →
      ∃ fd : FuncData, (∀ (s : Shared) (u : Value), BindsTo s fd ⟨[u], []⟩ [(x, u)]) ∧
        ∀ base : Heap, (K w.params).In base → base.Ns mainGlobals mg → FnOk l.prog w (K w.params) mg base (CX w) k fa fd [x] (sp w))
    (hsp : ∀ (w : World) (H : Hp) (a : Addr) (ns : List Int), ns.length ≤ n → Only H → SqL (K w.params) H a (ns.map V.int) → sp w [.ref a] H (fun v _ => v = .bl true) fun _ _ _ => False)
    (hCX : ∀ (w : World) (H : Hp) (s : Shared) (e : Value) (s' : Shared), CX w [] H s (fun _ _ _ => False) e s' → False) :
    PySem.W.WalkO q loose XP YP l.row.toRowW d [] (fun f vs => PySem.call f vs) := by
  refine Att.attach_call hn hdf fun w s₀ s₁ mg mb fa o pm cd doc a vs ns G Y ho hd hcd hmg hobj hints hlen hg => ?_
  have KX := hY w _ Y
  obtain ⟨fd, hb, hF⟩ := F w mg fa _ KX G.T.g hmg
  exact law_call KX G.T.g G.T.b G.T.builtins G.T.nolimit hg hobj hints (Nat.le_trans hlen hn2) hr hF hb (fun H hO hS => hsp w H a ns hlen hO hS) fun H e s' => hCX w H s₁ e s'
end L2
/- THE LAST THEOREM (shape; LID, My.* are yours):
   My.Adr: a structure of the addresses that your layer names (classes, functions); My.Txt K t: a structure (Prop) of the equations over K;
   My.txt_mk : {K} {implicit addresses ..} (e1 : nsIn K mainGlobals "law" = some (some (.ref f))) (e2 : K.lookup f = some ⟨oc, od, .func (fnOf "law" "law" params body scope dV kV doc pm an cdv ct), sl⟩) (e3 : codeIn K cdv "law" = true) .. : ∃ t, My.Txt K t
set_option maxRecDepth 100000 in
set_option maxHeartbeats 0 in
theorem PySem.Challenge.cw_LID_holds : PySem.Challenge.rw_LID.Holds := by
  w_on; o_law; k_head; (case hw => w_witness2)
  k_fill
  refine L2.walk_of (l := PySem.Challenge.rw_LID) (n := 63) (k := 40) (x := "script") (CX := fun w => ..) (sp := fun _ => My.sp_law) rfl (by decide) rfl ⟨rfl, by decide, by decide⟩ (fun w h Y => PySem.W.kIn_of Y) ?F ?S ?C
  case F =>
    intro w mg fa h KX G hmg
    have T : ∃ t, My.Txt (L2.KOf KX) t := by
      dsimp only [L2.KOf]                          -- K must stand as «<heap const> w.params» for k_is
      refine' My.txt_mk ?e1 ?e2 ?e3 ..
      (case e1 => PySem.W.k_is)                    -- in the order: a name -> its address -> its object -> its parts
      (case e2 => PySem.W.k_is)
      ..
    obtain ⟨t, T⟩ := T
    have e0 := hmg.symm.trans (PySem.W.mg_of KX G T.law)
    cases e0                                       -- fa is the law's own address
    exact ⟨_, fun s u => .of_eq rfl, fun base kb nb => My.law_fn T kb nb⟩     -- if «.of_eq rfl» comes too early: refine' ⟨_, ?b, fun base kb nb => My.law_fn T kb nb⟩; exact fun s u => .of_eq rfl
  case S => exact fun w H a ns hl hO hS => ..
  case C => exact ..
(the tactic k_is has no namespace: write k_is) -/
namespace L2
open PySem PySem.Spec PyProof.Rows
def inClass (s : Stmt) (j : Nat) : Stmt := match s with
  | .ClassDef _ _ _ body _ _ _ _ _ _ _ => body.getD j (.Pass ⟨0, 0, 0, 0⟩)
  | _ => .Pass ⟨0, 0, 0, 0⟩
def defArgs (s : Stmt) : Arguments := match s with
  | .FunctionDef _ a _ _ _ _ _ _ _ _ => a
  | _ => { posonlyargs := [], args := [], vararg := none, kwonlyargs := [], kw_defaults := [], kwarg := none, defaults := [] }
def defBody (s : Stmt) : List Stmt := match s with
  | .FunctionDef _ _ b _ _ _ _ _ _ _ => b
  | _ => []
def defScope (s : Stmt) : Scope := match s with
  | .FunctionDef _ _ _ _ _ _ sc _ _ _ => sc
  | _ => { kind := .function, names := [], isGenerator := false, isCoroutine := false }
abbrev CX0 : CXT := fun _ _ _ _ _ _ => False
abbrev E0 : XK := fun _ _ _ => False
theorem pass0 {X : Cx} : Passes CX0 X E0 := fun _ _ _ _ _ _ _ h => h.elim
structure Fun (K : PySem.W.Frag) (x qual : Str) (st : Stmt) (f : Addr) (fd : FuncData) : Prop where
  ex : ∃ (oc : Value) (od : Option Addr) (kV doc pm : Value) (an : Option Addr) (cdv ct : Value) (osl : Array (Option Value)),
    fd = PySem.W.fnOf x qual (defArgs st) (defBody st) (defScope st) .none kV doc pm an cdv ct ∧ K.lookup f = some ⟨oc, od, .func fd, osl⟩ ∧ PySem.W.codeIn K cdv qual = true
  kp : PySem.W.keepIn K (.ref f) = true
section
variable {P : Program} {w : World} {K : PySem.W.Frag} {mg : Str → Option Value} {base : Heap}
theorem Fun.ok {x qual : Str} {st : Stmt} {f : Addr} {fd : FuncData} {N ps : List Str} {k : Nat} {sp : Sp} (F : Fun K x qual st f fd) (S : FnScope N ps (defScope st)) (len : ∀ vs H Q E, sp vs H Q E → vs.length = ps.length)
    (hbody : ∀ (cdv : Value) (A : Around) (outer : List Env) (s : Shared) (H : Hp) (vs : List V) (Q : VK) (E : XK), Room k (A.deeper (envOfC qual (defScope st) s.heap.objs.size f cdv)) → sp vs H Q E →
      ∃ t, PSs (cxOf CX0 P w K mg base N qual (defScope st) f cdv A outer s H E).nox (defBody st) t ∧ t { nx := fun _ H' => Q .non H', rt := Q } (start N vs) H) : FnOk P w K mg base CX0 (k + 1) f fd ps sp := by
  obtain ⟨oc, od, kV, doc, pm, an, cdv, ct, osl, rfl, lk, hcd⟩ := F.ex
  refine fn_of lk hcd S len fun A outer s H vs Q E hr hsp => ?_
  obtain ⟨t, h, q⟩ := hbody cdv A outer s H vs Q E hr hsp
  exact ⟨t, h.nox, q⟩
theorem Fun.binds {x qual : Str} {st : Stmt} {f : Addr} {fd : FuncData} {ps : List Str} (F : Fun K x qual st f fd)
    (h : ∀ (kV doc pm : Value) (an : Option Addr) (cdv ct : Value) (us : List Value), us.length = ps.length → bindArgs (PySem.W.fnOf x qual (defArgs st) (defBody st) (defScope st) .none kV doc pm an cdv ct) ⟨us, []⟩ = pure (ps.zip us)) : Binds K fd ps [] := by
  obtain ⟨oc, od, kV, doc, pm, an, cdv, ct, osl, rfl, lk, hcd⟩ := F.ex
  exact .all (h kV doc pm an cdv ct)
theorem fun_mk {x qual : Str} {st : Stmt} {f : Addr} {oc : Value} {od an : Option Addr} {osl : Array (Option Value)} {kV doc pm cdv ct : Value} (l : K.lookup f = some ⟨oc, od, .func (PySem.W.fnOf x qual (defArgs st) (defBody st) (defScope st) .none kV doc pm an cdv ct), osl⟩)
    (c : PySem.W.codeIn K cdv qual = true) (k : PySem.W.keepIn K (.ref f) = true) : Fun K x qual st f (PySem.W.fnOf x qual (defArgs st) (defBody st) (defScope st) .none kV doc pm an cdv ct) := ⟨⟨oc, od, kV, doc, pm, an, cdv, ct, osl, rfl, l, c⟩, k⟩
end
section
variable {X : Cx}
theorem pv (i : Nat) {x : Str} {pos : Pos} (hN : X.N[i]? = some x := by rfl) (hv : Vis X.env.scope x := by first | exact Or.inl rfl | exact Or.inr (Or.inl rfl) | exact Or.inr (Or.inr rfl)) (hd : (x == ("__debug__" : Str)) = false := by decide)
    (hcd : (x == ("__classdict__" : Str)) = false := by decide) : PE X (.Name x pos) (tVar i) := pe_var hN hv hd hcd
end
theorem iteF {A B : Prop} (h : B) : if false = true then A else B := by
  rw [if_neg Bool.false_ne_true]
  exact h
theorem iteT {A B : Prop} (h : A) : if true = true then A else B := by
  rw [if_pos rfl]
  exact h
theorem ite2 {c A B : Prop} [Decidable c] (h1 : c → A) (h2 : ¬ c → B) : if c then A else B := by
  by_cases h : c
  · rw [if_pos h]
    exact h1 h
  · rw [if_neg h]
    exact h2 h
def Same (H H' : Hp) : Prop := ∀ b o, H b = some o → H' b = some o
theorem Same.refl (H : Hp) : Same H H := fun _ _ h => h
theorem Same.trans {H H1 H2 : Hp} (a : Same H H1) (b : Same H1 H2) : Same H H2 := fun c o h => b c o (a c o h)
theorem Same.seq {K : PySem.W.Frag} {H H' : Hp} {a : Addr} {xs : List V} (e : Same H H') (h : SqL K H a xs) : SqL K H' a xs := by
  rcases h with (h | ⟨o, h⟩) | h
  · exact .inl (.inl (e _ _ h))
  · exact .inl (.inr ⟨o, e _ _ h⟩)
  · exact .inr h
end L2
namespace L2
open PySem PySem.Spec PyProof.Rows
theorem rel_look {env : Env} {y : Str} {k : NameKind} : ∀ {names : List (Str × NameKind)},
    (names.map fun (n, k) => if (k == NameKind.free && env.scope.kind == .function && env.kindOf n == some .cell) then (n, NameKind.cell) else (n, k)).lookup y = some k →
      ∃ k0, names.lookup y = some k0 ∧ (k = k0 ∨ (k0 = .free ∧ k = .cell))
  | [], h => by simp at h
  | (n, q) :: r, h => by
    have ih := @rel_look env y k r
    rw [List.map_cons] at h
    dsimp only at h
    cases hx : y == n with
    | true =>
      refine ⟨q, by simp [List.lookup_cons, hx], ?_⟩
      by_cases hc : (q == NameKind.free && env.scope.kind == .function && env.kindOf n == some .cell) = true
      · rw [if_pos hc] at h
        simp only [List.lookup_cons, hx] at h
        cases h
        have hq : (q == NameKind.free) = true := by
          cases e : q == NameKind.free with
          | true => rfl
          | false => rw [e] at hc; simp at hc
        exact .inr ⟨by simpa using hq, rfl⟩
      · rw [if_neg hc] at h
        simp only [List.lookup_cons, hx] at h
        cases h
        exact .inl rfl
    | false =>
      have h2 : (r.map fun (n, k) => if (k == NameKind.free && env.scope.kind == .function && env.kindOf n == some .cell) then (n, NameKind.cell) else (n, k)).lookup y = some k := by
        by_cases hc : (q == NameKind.free && env.scope.kind == .function && env.kindOf n == some .cell) = true
        · rw [if_pos hc] at h
          simpa only [List.lookup_cons, hx] using h
        · rw [if_neg hc] at h
          simpa only [List.lookup_cons, hx] using h
      obtain ⟨k0, e, r'⟩ := ih h2
      exact ⟨k0, by simpa only [List.lookup_cons, hx] using e, r'⟩
theorem clos_go {env : Env} : ∀ (names : List (Str × NameKind)) (acc : List (Str × Addr)), (∀ y ∈ names, y.2 = .free → ∃ c, env.cells.lookup y.1 = some c) → (∀ y c, acc.lookup y = some c → env.cells.lookup y = some c) →
    ∃ cl, (forIn names acc fun (x : Str × NameKind) (r : List (Str × Addr)) => (if (x.2 == NameKind.free) = true then (do let c ← cellOf env x.1; pure (ForInStep.yield ((x.1, c) :: r))) else pure (ForInStep.yield r) : Sem (ForInStep (List (Str × Addr))))) = (pure cl : Sem (List (Str × Addr))) ∧
      (∀ y c, cl.lookup y = some c → env.cells.lookup y = some c) ∧ (∀ y ∈ names, y.2 = .free → ∃ c, cl.lookup y.1 = some c) ∧ ∀ y c, acc.lookup y = some c → ∃ c', cl.lookup y = some c'
  | [], acc, _, ha => ⟨acc, rfl, ha, (fun y hy => absurd hy (by simp)), fun y c h => ⟨c, h⟩⟩
  | (n, k) :: r, acc, hn, ha => by
    by_cases hk : k = NameKind.free
    · obtain ⟨c, hc⟩ := hn (n, k) List.mem_cons_self hk
      have hacc : ∀ y d, ((n, c) :: acc).lookup y = some d → env.cells.lookup y = some d := fun y d e => by
        cases hx : y == n with
        | true =>
          simp only [List.lookup_cons, hx] at e
          cases e
          have : y = n := by simpa using hx
          rw [this]
          exact hc
        | false =>
          simp only [List.lookup_cons, hx] at e
          exact ha y d e
      obtain ⟨cl, e, h1, h2, h3⟩ := clos_go r ((n, c) :: acc) (fun y hy => hn y (List.mem_cons_of_mem _ hy)) hacc
      have hn3 : ∃ c', cl.lookup n = some c' := h3 n c (by simp)
      refine ⟨cl, ?_, h1, fun y hy hf => ?_, fun y d hd => ?_⟩
      · rw [List.forIn_cons]
        dsimp only
        rw [if_pos (by simp [hk])]
        have ec : cellOf env n = pure c := by
          unfold cellOf
          rw [hc]
        rw [ec]
        simp only [pure_bind]
        exact e
      · rcases List.mem_cons.mp hy with z | z
        · subst z
          exact hn3
        · exact h2 y z hf
      · cases hx : y == n with
        | true =>
          have : y = n := by simpa using hx
          rw [this]
          exact hn3
        | false => exact h3 y d (by simpa only [List.lookup_cons, hx] using hd)
    · obtain ⟨cl, e, h1, h2, h3⟩ := clos_go r acc (fun y hy => hn y (List.mem_cons_of_mem _ hy)) ha
      refine ⟨cl, ?_, h1, fun y hy hf => ?_, h3⟩
      · rw [List.forIn_cons]
        dsimp only
        rw [if_neg (by simpa using hk), pure_bind]
        exact e
      · rcases List.mem_cons.mp hy with z | z
        · subst z
          exact absurd hf hk
        · exact h2 y z hf
theorem clos_ok {env : Env} {scope : Scope} (hn : ∀ y ∈ scope.names, y.2 = .free → ∃ c, env.cells.lookup y.1 = some c) :
    ∃ cl, closureFor scope env = pure cl ∧ (∀ y c, cl.lookup y = some c → env.cells.lookup y = some c) ∧ ∀ y ∈ scope.names, y.2 = .free → ∃ c, cl.lookup y.1 = some c := by
  obtain ⟨cl, e, h1, h2, _⟩ := clos_go (env := env) scope.names [] hn (fun y c h => by simp at h)
  refine ⟨cl, ?_, h1, h2⟩
  unfold closureFor
  dsimp only
  have e2 : ∀ (f g : Str × NameKind → List (Str × Addr) → Sem (ForInStep (List (Str × Addr)))), (∀ x r, f x r = g x r) → (forIn scope.names [] f : Sem (List (Str × Addr))) = forIn scope.names [] g := fun f g h => by
    have : f = g := by funext x r; exact h x r
    rw [this]
  rw [e2 _ _ (fun x r => ?_), e]
  · rfl
  · obtain ⟨n, k⟩ := x
    dsimp only
theorem comp_loop_go {prog : Program} {w : World} {A : Around} {R : Result → Shared → Prop} {s : Shared} {elt target iter : Expr} {ifs : List Expr} {scope : Scope} {pos : Pos} {it acc : Value} {env : Env} (J : Nat → Shared → Prop)
    (turn : ∀ n s, J n s → wpAny (model prog w) A (pyNext it) (fun r s1 => match r with
      | none => R (.ok .next) s1
      | some v => wpAny (model prog w) A (letOwnedTupleGo target it v) (fun _ s1' => wpAny (model prog w) A (assign target env v) (fun _ s2 =>
          wpAny (model prog w) A (forIn ifs true fun c r => if r = true then do let ok ← isTrue c env (eval c env); pure (ForInStep.yield ok) else pure (ForInStep.yield r)) (fun ok s3 =>
            if ok = true then wpAny (model prog w) A (eval elt env) (fun x s4 =>
              wpAny (model prog w) A (call (.builtin "list.append") [acc, x]) (fun _ s5 => ∃ m, m < n ∧ J m s5) (fun _ _ => False) s4) (fun _ _ => False) s3
            else ∃ m, m < n ∧ J m s3) (fun _ _ => False) s2) (fun _ _ => False) s1') (fun _ _ => False) s1) (fun _ _ => False) s)
    (n : Nat) (h : J n s) : codeAny (model prog w) A (.compLoop (.ListComp elt [⟨target, iter, ifs, 0⟩] scope pos) 0 it acc env) R s := by
  have no : ∀ {E : Value → Shared → Prop} (e : Value) (s : Shared), (fun (_ : Value) (_ : Shared) => False) e s → E e s := fun _ _ f => f.elim
  refine codeAny_loop rfl J (fun n s hJ => ?_) n h
  show wpAny _ A ((compTurn (.ListComp elt [⟨target, iter, ifs, 0⟩] scope pos) 0 it acc env).onRaise _) _ _ s
  refine wpAny_noted ?_
  rw [compTurn_list]
  refine wpAny_bind (wpAny_standAt (wpAny_bind (wpAny_mono (turn n s hJ) (fun r s1 h1 => ?_) no)))
  cases r with
  | none => exact wpAny_pure h1
  | some v =>
    refine wpAny_bind (wpAny_mono h1 (fun _ s1' h1' => wpAny_bind (wpAny_mono h1' (fun _ s2 h2 => wpAny_bind (wpAny_mono h2 (fun ok s3 h3 => ?_) no)) no)) no)
    cases ok with
    | false => exact wpAny_pure ⟨rfl, h3⟩
    | true => exact wpAny_bind (wpAny_bind (wpAny_mono h3 (fun x s4 h4 => wpAny_bind (wpAny_mono h4 (fun _ s5 h5 => wpAny_pure (wpAny_pure ⟨rfl, h5⟩)) no)) no))
abbrev Cx.comp (X : Cx) (x : Str) (scope : Scope) (cl : List (Str × Addr)) (C : Addr) (fp : List Addr) (s : Shared) (H : Hp) : Cx :=
  { X with N := x :: X.N, s₀ := s, H₀ := H, env := compEnvC scope cl C X.env, outer := X.stack, ex := fp, fn := fun _ => false, pn := [], xe := fun _ _ => False }
def capOk (scope : Scope) (env : Env) (y : Str) : Bool := match scope.names.lookup y with
  | none => true
  | some .free => env.kindOf y == some .cell || env.kindOf y == some .free
  | some _ => false
structure CompSc (X : Cx) (x : Str) (scope : Scope) : Prop where
  kind : scope.kind = .function
  cell : ∀ y ∈ scope.names, y.2 ≠ .cell
  names : ∀ y ∈ scope.names, y.2 = .local → scope.names.lookup y.1 = some .local
  hx : scope.names.lookup x = some .local
  free : ∀ y ∈ scope.names, y.2 = .free → X.env.kindOf y.1 = some .cell ∨ X.env.kindOf y.1 = some .free
  cap : ∀ y ∈ X.N, capOk scope X.env y = true
  nd : (x :: X.N).Nodup
theorem free_mem {scope : Scope} {y : Str} (h : scope.names.lookup y = some .free) : (y, NameKind.free) ∈ scope.names := PySem.mem_of_lookup h
theorem comp_inv {X : Cx} {x : Str} {scope : Scope} {cl : List (Str × Addr)} {fp : List Addr} {pins : List (Addr × Obj)} {σ : St} {H : Hp} {s : Shared} {h' : Heap} {tk : Nat} {m : Str → Option Value} (S : CompSc X x scope) (I : Inv X pins σ H s)
    (hns : h'.Ns s.heap.objs.size m) (hk : ∀ b o, s.heap.get? b = some o → h'.get? b = some o) (hf : ∀ b ∈ fp, FpOk X pins H b) (ho : ∀ b ∈ fp, ∃ o, s.heap.get? b = some o)
    (hsub : ∀ y c, cl.lookup y = some c → X.env.cells.lookup y = some c) (hall : ∀ y ∈ scope.names, y.2 = .free → ∃ c, cl.lookup y.1 = some c) :
    Inv (X.comp x scope cl s.heap.objs.size fp s H) (X.pn ++ pins) (none :: σ) H { s with heap := h', toks := tk } := by
  refine ⟨⟨I.ok.mod, S.kind, I.ok.glob, I.ok.blt, Nat.le_refl _, fun y z c h1 h2 => I.ok.inj y z c (hsub y c h1) (hsub z c h2), fun y hy => ?_, fun y c hfn => absurd hfn Bool.false_ne_true, I.ok.hd, I.ok.frames, .inl rfl, fun b hb => ⟨?_, fun y c e => (hf b hb).2.2.2.2.1 y c (hsub y c e)⟩,
    I.bs, Nat.le_trans I.ok.bsz I.sz, fun b o e hb => ?_, fun b hb hs => ?_, I.stack, I.stkFree⟩, rfl, I.bare, Un.kept hk, ⟨m, hns, fun i y v e1 e2 e3 => ?_⟩, fun y c e => ?_, I.fresh, fun y c e => I.freeC y c (hsub y c e), fun p hp => ?_, I.hok.kept hk, ?_⟩
  · have hy' : ∃ k, (k = NameKind.cell ∨ k = NameKind.free) ∧ (relabel scope X.env).names.lookup y = some k := by
      rcases hy with z | z
      · exact ⟨_, .inl rfl, z⟩
      · exact ⟨_, .inr rfl, z⟩
    obtain ⟨k, hk', e⟩ := hy'
    obtain ⟨k0, e0, r⟩ := rel_look e
    have kf : k0 = .free := by
      rcases r with r | r
      · subst r
        rcases hk' with z | z
        · subst z
          exact absurd rfl (S.cell _ (PySem.mem_of_lookup e0))
        · exact z
      · exact r.1
    subst kf
    exact hall (y, .free) (free_mem e0) rfl
  · obtain ⟨o, e⟩ := ho b hb
    exact Nat.ne_of_lt (Heap.lt_size e)
  · rcases (hf b hb).2.2.2.1 with z | z
    · exact I.ok.noex b o e z
    · exact absurd (Nat.lt_of_lt_of_le (Heap.lt_size e) (Nat.le_trans I.ok.bsz z)) (Nat.lt_irrefl _)
  · rcases List.mem_cons.mp (I.stkSub b hs) with z | z
    · exact (hf b hb).2.1 z
    · exact (hf b hb).2.2.1 z
  · cases i with
    | zero => simp at e2
    | succ i =>
      have e1' : X.N[i]? = some y := by simpa using e1
      have e2' : σ[i]? = some (some v) := by simpa using e2
      have hc := S.cap y (List.mem_of_getElem? e1')
      have hvis : ∃ k, (relabel scope X.env).names.lookup y = some k := by
        rcases e3 with z | z | z
        · exact ⟨_, z⟩
        · exact ⟨_, z⟩
        · exact ⟨_, z⟩
      obtain ⟨k, ek⟩ := hvis
      obtain ⟨k0, e0, r⟩ := rel_look ek
      unfold capOk at hc
      rw [e0] at hc
      have kf : k0 = .free := by cases k0 <;> simp_all
      subst kf
      have hkk : X.env.kindOf y = some .cell ∨ X.env.kindOf y = some .free := by simpa using hc
      obtain ⟨m0, hn0, hl0⟩ := I.loc
      obtain ⟨u, ru, l⟩ := hl0 i y v e1' e2' (.inr hkk)
      refine ⟨u, ru, .inr ?_⟩
      obtain ⟨c', hc'⟩ := hall (y, .free) (free_mem e0) rfl
      rcases l with ⟨z, _⟩ | ⟨_, c, ec, ⟨o, ho', hd'⟩⟩
      · rcases hkk with q | q <;> rw [z] at q <;> cases q
      · have e4 := hsub y c' hc'
        rw [ec] at e4
        have e5 : c = c' := Option.some.inj e4
        subst e5
        refine ⟨?_, c, hc', o, hk _ _ ho', hd'⟩
        rcases r with r | r
        · subst r
          exact .inr ek
        · obtain ⟨_, r⟩ := r
          subst r
          exact .inl ek
  · obtain ⟨v, o, ho', hd'⟩ := I.cell y c (hsub y c e)
    exact ⟨v, o, hk _ _ ho', hd'⟩
  · have hp' : p ∈ X.pn ++ pins := by simpa using hp
    obtain ⟨e, n, ne, nf, d⟩ := I.pin p hp'
    refine ⟨hk _ _ e, n, Nat.ne_of_lt (Heap.lt_size e), fun z => ?_, d⟩
    rcases List.mem_cons.mp (I.stkSub p.1 z) with q | q
    · exact ne q
    · exact nf q
  · show σ.length + 1 = X.N.length + 1
    rw [I.len]
def PTs (X : Cx) (ifs : List Expr) (t : TT) : Prop :=
  ∀ (pins : List (Addr × Obj)) (s : Shared) (σ : St) (H : Hp) (Q : Bool → Hp → Prop), Inv X pins σ H s → t σ H Q →
    wpAny (model X.prog X.w) X.A (forIn ifs true fun c r => if r = true then do let ok ← isTrue c X.env (eval c X.env); pure (ForInStep.yield ok) else pure (ForInStep.yield r)) (TP X pins σ Q) X.xe s
def ttAll : TT := fun _ H Q => Q true H
theorem pts_nil {X : Cx} : PTs X [] ttAll := fun pins s σ H Q I h => by
  rw [List.forIn_nil]
  exact wpAny_pure ⟨H, I, h⟩
theorem pts_one {X : Cx} {c : Expr} {t : TT} (hc : PT X c t) : PTs X [c] t := fun pins s σ H Q I h => by
  rw [List.forIn_cons, if_pos rfl]
  refine wpAny_bind (wpAny_bind (thn (hc pins s σ H Q I h) fun ok s1 q => wpAny_pure ?_))
  try dsimp only
  rw [List.forIn_nil]
  exact wpAny_pure q
def CompGo (J : It) (H1 : Hp) (σ : St) (tt : TT) (te : TE) (Q : VK) : Prop := ∀ D, H1 D = none → ∃ W : Nat → Nat → Hp → Prop, (∃ m, W 0 m (upd H1 D (.lst []))) ∧ ∀ i m H, W i m H →
  (J.stop i H ∧ Q (.ref D) H) ∨ (J.go i H ∧ ∀ x H', J.yld i H x H' → tt (some x :: σ) H' fun b H2 => if b = true then te (some x :: σ) H2 fun y H3 => ∃ ys, H3 D = some (.lst ys) ∧ ys.length < sizeLine ∧ ∃ m', m' < m ∧ W (i + 1) m' (upd H3 D (.lst (ys ++ [y])))
    else ∃ m', m' < m ∧ W (i + 1) m' H2)
def tComp (wi : TI) (tt : TT) (te : TE) : TE := fun σ H Q => wi σ H fun J H1 => CompGo J H1 σ tt te Q
section
variable {X : Cx} {x : Str} {px pos : Pos} {elt iter : Expr} {ifs : List Expr} {scope : Scope} {wi : TI} {tt : TT} {te : TE}
theorem comp_core {pins : List (Addr × Obj)} {σ : St} {H2 : Hp} {s2 : Shared} {it : Addr} {fp : List Addr} {tn : Nat → Heap → Prop} {J : It} {Q : VK} {cl : List (Str × Addr)} {E : Value → Shared → Prop} {RR : Value → Addr → Result → Shared → Prop}
    (S : CompSc X x scope) (hcal : X.calm = true) (hclos : (∀ y c, cl.lookup y = some c → X.env.cells.lookup y = some c) ∧ ∀ y ∈ scope.names, y.2 = .free → ∃ c, cl.lookup y.1 = some c)
    (ht : ∀ cl C fp s H, PTs (X.comp x scope cl C fp s H) ifs tt) (he : ∀ cl C fp s H, PE (X.comp x scope cl C fp s H) elt te)
    (I2 : Inv X pins σ H2 s2) (T : Turn X.prog X.w X.K (.Name x px) J fp it tn) (st2 : tn 0 s2.heap) (f2 : ∀ b ∈ fp, FpOk X pins H2 b)
    (q : CompGo J H2 σ tt te Q)
    (hRR : ∀ D C s' H' m', Inv X pins σ H' s' → s'.heap.Ns C m' → FpOk X pins H' C → Q (.ref D) H' → RR (.ref D) C (.ok .next) s') :
    wpAny (model X.prog X.w) X.A (newList []) (fun acc s3 => wpAny (model X.prog X.w) X.A (newFunctionEnv scope X.env.globals cl [] X.env.qual none .none (some X.env)) (fun cenv s4 =>
      codeAny (model X.prog X.w) X.A (.compStart (.ListComp elt [⟨.Name x px, iter, ifs, 0⟩] scope pos) 0 (.ref it) acc { cenv with scope := relabel scope X.env }) (RR acc cenv.locals) s4) E s3) E s2 := by
  obtain ⟨hsub, hall⟩ := hclos
  refine wpAny_newObj_type (wpAny_newFunctionEnv S.cell (by intro y hy; simp at hy) (fun h1 hns hsb => ?_) S.kind)
  have I3 : Inv X pins σ (upd H2 s2.heap.objs.size (.lst [])) { s2 with heap := s2.heap.push { cls := .type "list", data := .seq ([] : List Value).toArray } } := I2.lnew (t' := s2.toks) .nil (by simp)
  have hD : H2 s2.heap.objs.size = none := I2.fresh
  obtain ⟨W, ⟨m0, w0⟩, turn⟩ := q _ hD
  generalize hs3 : ({ s2 with heap := s2.heap.push { cls := .type "list", data := .seq ([] : List Value).toArray } } : Shared) = s3 at I3
  have hs3' : ({ s2 with heap := s2.heap.push { cls := .type "list", dict := none, data := .seq ([] : List Value).toArray } } : Shared) = s3 := hs3
  dsimp only at hns hsb ⊢
  generalize hDD : s2.heap.objs.size = D at *
  have eh : s2.heap.push { cls := .type "list", dict := none, data := .seq ([] : List Value).toArray } = s3.heap := by rw [← hs3]
  rw [eh] at hns hsb
  have keep : ∀ b o, s3.heap.get? b = some o → h1.get? b = some o := fun b o e => hsb.extBut b o (Nat.ne_of_lt (Heap.lt_size e)) (Heap.get?_push_of_some _ e)
  have objs : ∀ b ∈ fp, ∃ o, s3.heap.get? b = some o := fun b hb => by
    obtain ⟨o, e, _⟩ := T.obj _ _ st2 b hb
    rw [← eh]
    exact ⟨o, Heap.get?_push_of_some _ e⟩
  have f3 : ∀ b ∈ fp, FpOk X pins (upd H2 D (.lst [])) b := fun b hb => by
    obtain ⟨o, e, _⟩ := T.obj _ _ st2 b hb
    have ne : b ≠ D := by rw [← hDD]; exact Nat.ne_of_lt (Heap.lt_size e)
    exact ⟨by rw [upd_ne ne]; exact (f2 b hb).1, (f2 b hb).2⟩
  have I4 : Inv (X.comp x scope cl s3.heap.objs.size fp s3 (upd H2 D (.lst []))) (X.pn ++ pins) (none :: σ) (upd H2 D (.lst [])) { s3 with heap := h1, toks := s3.toks + ([] : List (Str × Value)).length } := comp_inv S I3 hns keep f3 objs hsub hall
  have st4 : tn 0 h1 := T.keep _ _ _ st2 fun b hb o e => keep b o (by rw [← eh]; exact Heap.get?_push_of_some _ e)
  -- what stays true of the iterator's objects
  have stat : ∀ {H' : Hp}, (∀ b ∈ fp, H' b = none) → ∀ b ∈ fp, FpOk (X.comp x scope cl s3.heap.objs.size fp s3 (upd H2 D (.lst []))) (X.pn ++ pins) H' b := fun hn b hb => by
    refine ⟨hn b hb, (I4.ok.exf b hb).1, I4.ok.exfs b hb, .inl hb, (I4.ok.exf b hb).2, fun p hp => (f3 b hb).2.2.2.2.2 p (by simpa using hp)⟩
  have loop : codeAny (model X.prog X.w) X.A (.compLoop (.ListComp elt [⟨.Name x px, iter, ifs, 0⟩] scope pos) 0 (.ref it) (.ref D) (compEnvC scope cl s3.heap.objs.size X.env)) (RR (.ref D) s3.heap.objs.size) { s3 with heap := h1, toks := s3.toks + ([] : List (Str × Value)).length } := by
    refine comp_loop_go (fun n s' => ∃ i o H', Inv (X.comp x scope cl s3.heap.objs.size fp s3 (upd H2 D (.lst []))) (X.pn ++ pins) (o :: σ) H' s' ∧ tn i s'.heap ∧ (∀ b ∈ fp, H' b = none) ∧ W i n H') ?_ m0
      ⟨0, none, _, I4, st4, fun b hb => (f3 b hb).1, w0⟩
    rintro n s5 ⟨i, o, H5, I5, st5, fr5, w5⟩
    rcases turn i n H5 w5 with ⟨stop, qn⟩ | ⟨go, step⟩
    · refine thn (T.done (X.comp x scope cl s3.heap.objs.size fp s3 (upd H2 D (.lst []))) rfl rfl rfl hcal i _ s5 _ H5 _ I5 (stat fr5) st5 stop) fun r s6 ⟨hr, I6⟩ => ?_
      subst hr
      obtain ⟨m6, hn6, _⟩ := I6.loc
      have I7 : Inv X pins σ H5 s6 := I3.call' (ch := fp) I6.os I6.base I6.hok I6.bare fun b hb => ⟨(f3 b hb).2.2.2.1, (f3 b hb).2.1, (f3 b hb).2.2.2.2.1, (f3 b hb).2.2.2.2.2⟩
      exact hRR D s3.heap.objs.size s6 H5 m6 I7 hn6 (I3.fpOk (Nat.le_refl _) I6.free) qn
    · refine thn (T.item (X.comp x scope cl s3.heap.objs.size fp s3 (upd H2 D (.lst []))) rfl rfl rfl hcal i _ s5 _ H5 _ I5 (stat fr5) st5 go) fun r s6 ⟨u, hr, h6⟩ => ?_
      subst hr
      refine thn h6 fun _ s7 ⟨y, H7, I7, r7, y7, st7, fr7⟩ => ?_
      have I7' := I7.pinned (stat fr7) (T.obj _ _ st7)
      have hxl : (relabel scope X.env).names.lookup x = some .local := lookup_relabel_local S.hx
      refine thn (pg_name (X := X.comp x scope cl s3.heap.objs.size fp s3 (upd H2 D (.lst []))) (i := 0) S.nd rfl (.inl hxl) (.inr hxl) _ s7 (o :: σ) H7 y u (fun σ' H' => σ' = some y :: σ ∧ H' = H7) I7' r7 ⟨rfl, rfl⟩) fun _ s8 ⟨σ8, H8, I8, e8, e8'⟩ => ?_
      subst e8 e8'
      refine thn (ht _ _ _ _ _ _ s8 _ H8 _ I8 (step y H8 y7)) fun ok s9 ⟨H9, I9, q9⟩ => ?_
      have back : ∀ {H' : Hp} {s' : Shared} {m' : Nat}, Inv (X.comp x scope cl s3.heap.objs.size fp s3 (upd H2 D (.lst []))) (X.pn ++ pins ++ pinsAt fp s7.heap) (some y :: σ) H' s' → m' < n → W (i + 1) m' H' →
          ∃ m, m < n ∧ ∃ i o H', Inv (X.comp x scope cl s3.heap.objs.size fp s3 (upd H2 D (.lst []))) (X.pn ++ pins) (o :: σ) H' s' ∧ tn i s'.heap ∧ (∀ b ∈ fp, H' b = none) ∧ W i m H' := fun {H' s' m'} I' hm w' => by
        have pin : ∀ b o, b ∈ fp → s7.heap.get? b = some o → s'.heap.get? b = some o ∧ H' b = none := fun b o hb e => by
          have z := I'.pin (b, o) (List.mem_append_right _ (List.mem_append_right _ (mem_pinsAt hb e)))
          exact ⟨z.1, z.2.1⟩
        refine ⟨m', hm, i + 1, some y, H', I'.unpinned, T.keep _ _ _ st7 fun b hb o e => (pin b o hb e).1, fun b hb => ?_, w'⟩
        obtain ⟨o', e, _⟩ := T.obj _ _ st7 b hb
        exact (pin b o' hb e).2
      cases ok with
      | false =>
        rw [if_neg Bool.false_ne_true] at q9 ⊢
        obtain ⟨m', hm, w'⟩ := q9
        exact back I9 hm w'
      | true =>
        rw [if_pos rfl] at q9 ⊢
        refine thn (he _ _ _ _ _ _ s9 _ H9 _ I9 q9) fun v s10 ⟨z, H10, I10, r10, q10⟩ => ?_
        obtain ⟨ys, e10, l10, m', hm, w'⟩ := q10
        refine thn (mt_append _ s10 _ H10 (.ref D) [z] (.ref D) [v] (fun _ H' => H' = upd H10 D (.lst (ys ++ [z]))) I10 rfl (.cons r10 .nil) ⟨D, ys, z, rfl, rfl, e10, l10, rfl⟩) fun _ s11 ⟨_, H11, I11, _, e11⟩ => ?_
        subst e11
        exact back I11 hm w'
  exact codeAny_compStart_list loop (T.self _ 0 _ _ _ st4 loop)
theorem ps_setComp {i : Nat} {y : Str} {py spos : Pos} (S : CompSc X x scope) (hcal : X.calm = true) (hN : X.N.Nodup) (hiN : X.N[i]? = some y) (hy : Loc X.env.scope y) (hi : PI X (.Name x px) iter wi) (ht : ∀ cl C fp s H, PTs (X.comp x scope cl C fp s H) ifs tt)
    (he : ∀ cl C fp s H, PE (X.comp x scope cl C fp s H) elt te) (hsw : swapsWith (.ListComp elt [⟨.Name x px, iter, ifs, 0⟩] scope pos) (some (.Name y py)) spos.line X.env = pure true)
    (hs : ∀ x, foldedSetIterable iter X.env x = pure x := by intro _; rfl) (hf : X.fn y = true ∨ X.env.scope.names.lookup y = some .local := by first | exact .inl rfl | exact .inr rfl | assumption) :
    PS X (.Assign [.Name y py] (.ListComp elt [⟨.Name x px, iter, ifs, 0⟩] scope pos) spos) (tAsg (tComp wi tt te) (gName i)) := by
  intro pins s σ H D0 I h
  obtain ⟨cl, hcl, hc⟩ := clos_ok (env := X.env) (scope := scope) fun y hy hf => I.ok.has y.1 (S.free y hy hf)
  rw [exec_Assign_Name_used _ _ _ _ hsw]
  refine wpAny_bind (wpAny_standAt (wpAny_bind ?_))
  show wpAny _ _ (do let _ ← comprehension (.ListComp elt [⟨.Name x px, iter, ifs, 0⟩] scope pos) scope X.env _ (newList []) false (eval iter X.env) (some (assign (.Name y py) X.env))) _ _ s
  refine wpAny_bind (thn (wpAny_comprehension_free (use := some (assign (.Name y py) X.env)) (Q := fun _ s' => SP X pins D0 .next s') rfl hs hcl S.kind S.names (thn (hi pins s σ H _ I h) fun xv s1 h1 => thn h1 fun itv s2 h2 => ?_)) fun _ s' hq => wpAny_pure (wpAny_pure hq))
  obtain ⟨it, fp, tn, J, H2, e, I2, T, st2, f2, q⟩ := h2
  subst e
  refine comp_core (Q := fun v H => D0.nx (σ.set i (some v)) H) (RR := fun acc C => compPost (model X.prog X.w) X.A X.xe (some (assign (.Name y py) X.env)) (fun _ s' => SP X pins D0 .next s') acc C) S hcal hc ht he I2 T st2 f2 q ?_
  intro D C s' H' m' I' hn F' hq
  show wpAny _ _ (assign (.Name y py) X.env (.ref D)) _ _ s'
  refine wpAny_assign_Name (store_ok2 (v := .ref D) I' hN hiN hy rfl (fun s'' I'' ch => ?_) hf)
  obtain ⟨a, sb, ha⟩ := ch
  have ne : C ≠ a := by
    rcases ha with z | z
    · rw [z]; exact F'.2.1
    · exact Ne.symm (F'.2.2.2.2.1 y a z)
  refine ⟨m', hn.sameBut sb ne, fun h' sb' => ⟨_, H', I''.turned (t' := s''.toks) (fun b o hb e => (sb'.2 b hb).trans e) F'.1 F'.2.1 F'.2.2.2.1 F'.2.2.2.2.1 F'.2.2.2.2.2, hq⟩⟩
end
end L2
namespace L2
open PySem PySem.Spec PyProof.Rows
open AutoSeq1 (wpAny_loadPart')
section
variable {prog : Program} {w : World} {A : Around} {E : Value → Shared → Prop} {s : Shared}
end
section
variable {prog : Program} {w : World} {A : Around} {E : Value → Shared → Prop} {s : Shared}
theorem en_item {e it : Addr} {fp : List Addr} {n i : Nat} {k : Int} {P : Nat → Value → Prop} {St : Nat → Heap → Prop} {old : Value} {Q : Value → Shared → Prop}
    (D : Draws prog w A it fp n P St) (he : IsEnum s.heap e it k old) (hst : St i s.heap) (hlt : i < n) (hne : e ≠ it) (hef : e ∉ fp)
    (hQ : ∀ x h' tk, P i x → IsEnumOut h' e it (k + 1) x s.heap.objs.size → St (i + 1) h' → h'.get? s.heap.objs.size = some { cls := .type "tuple", data := .seq #[.int k tk, x] } →
      (∀ b o, b ≠ e → b ≠ it → s.heap.get? b = some o → h'.get? b = some o) → Q (.ref s.heap.objs.size) { s with heap := h', toks := tk + 1 }) :
    wpAny (model prog w) A (Builtin.«enumerate.__next__» ⟨[.ref e], []⟩) (fun fin s' => ∃ v, fin = .done (.ret v) ∧ Q v s') E s := by
  obtain ⟨hp, g, d, t0, os⟩ := s
  (show wpAny _ _ (field (.ref e) 2 >>= _) _ _ _); refine wpAny_bind (wpAny_field he rfl (x := .ref it) rfl ?_)
  refine wpAny_bind (D.item i _ _ _ hlt hst fun x g1 tk px c1 b1 => ?_)
  have b1 : Heap.SameBut it hp g1 := b1
  have e1 : IsEnum g1 e it k old := (b1.2 e hne).trans he
  (show wpAny _ _ (field (.ref e) 3 >>= _) _ _ ⟨g1, g, d, tk, os⟩); refine wpAny_bind (wpAny_field e1 rfl (x := rawInt k) rfl ?_)
  (show wpAny _ _ (field (.ref e) 4 >>= _) _ _ ⟨g1, g, d, tk, os⟩); refine wpAny_bind (wpAny_field e1 rfl (x := .none) rfl ?_)
  (show wpAny _ _ (mkInt k >>= _) _ _ ⟨g1, g, d, tk, os⟩); refine wpAny_bind (wpAny_mkInt ?_)
  (show wpAny _ _ (setField (.ref e) 3 (rawInt (k + 1)) >>= _) _ _ ⟨g1, g, d, tk + 1, os⟩); refine wpAny_bind (wpAny_setField_rec e1 (by simp) fun g2 e2 b2 => ?_)
  have b2 : Heap.SameBut e g1 g2 := b2
  have e2 : IsEnum g2 e it (k + 1) old := e2
  (show wpAny _ _ (setField (.ref e) 4 .none >>= _) _ _ ⟨g2, g, d, tk + 1, os⟩); refine wpAny_bind (wpAny_setField_rec e2 (by simp) fun g3 e3 b3 => ?_)
  have b3 : Heap.SameBut e g2 g3 := b3
  have e3 : IsEnum g3 e it (k + 1) old := e3
  (show wpAny _ _ (newTuple [.int k tk, x] >>= _) _ _ ⟨g3, g, d, tk + 1, os⟩); refine wpAny_bind (wpAny_newTuple ?_)
  have e4 : IsEnum (g3.push { cls := .type "tuple", data := .seq #[.int k tk, x] }) e it (k + 1) old := Heap.get?_push_of_some _ e3
  generalize hg4 : g3.push { cls := .type "tuple", data := .seq #[.int k tk, x] } = g4 at e4
  have z3 : g3.objs.size = hp.objs.size := by rw [b3.1, b2.1, b1.1]
  have le : e < hp.objs.size := Heap.lt_size he
  have t4 : g4.get? hp.objs.size = some { cls := .type "tuple", data := .seq #[.int k tk, x] } := by rw [← hg4, ← z3]; exact Heap.get?_push_size _ rfl
  have k4 : ∀ b o, b ≠ e → b ≠ it → hp.get? b = some o → g4.get? b = some o := fun b o hbe hbi hb => by
    rw [← hg4]
    exact Heap.get?_push_of_some _ (b3.extBut b o hbe (b2.extBut b o hbe (b1.extBut b o hbi hb)))
  have c4 : St (i + 1) g4 := D.frame _ _ _ c1 fun b hb o y => by
    have hbe : b ≠ e := fun q => hef (q ▸ hb)
    rw [← hg4]
    exact Heap.get?_push_of_some _ (b3.extBut b o hbe (b2.extBut b o hbe y))
  show wpAny _ _ (Builtin.SmallTypes.ownedTupleIsFree (.ref e) >>= _) _ _ ⟨g4, g, d, tk + 1, os⟩
  rw [z3]
  refine wpAny_bind ?_
  unfold Builtin.SmallTypes.ownedTupleIsFree
  refine wpAny_bind (wpAny_field e4 rfl (x := .none) rfl (wpAny_pure ?_))
  simp only [if_true]
  refine wpAny_bind (wpAny_rule (wpAny_bind (wpAny_field e4 rfl (x := old) rfl (wpAny_bind (wpAny_setField_rec e4 (by simp) fun g5 e5 b5 => ?_)))))
  have b5 : Heap.SameBut e g4 g5 := b5
  have e5 : IsEnum g5 e it (k + 1) x := e5
  (show wpAny _ _ (Builtin.SmallTypes.ownedTupleHandOut (.ref e) (.ref hp.objs.size) >>= _) _ _ ⟨g5, g, d, tk + 1, os⟩); refine wpAny_bind ?_
  unfold Builtin.SmallTypes.ownedTupleHandOut
  refine wpAny_bind (wpAny_setField_rec e5 (by simp) fun g6 e6 b6 => ?_)
  have b6 : Heap.SameBut e g5 g6 := b6
  have e6 : IsEnumOut g6 e it (k + 1) x hp.objs.size := e6
  refine wpAny_setField_rec e6 (by simp) fun g7 e7 b7 => ?_
  have b7 : Heap.SameBut e g6 g7 := b7
  have e7 : IsEnumOut g7 e it (k + 1) x hp.objs.size := e7
  have k7 : ∀ b o, b ≠ e → g4.get? b = some o → g7.get? b = some o := fun b o hb y => b7.extBut b o hb (b6.extBut b o hb (b5.extBut b o hb y))
  refine wpAny_bind (wpAny_letGo (wpAny_pure ⟨_, rfl, hQ x g7 tk px e7 (D.frame _ _ _ c4 fun b hb o y => k7 b o (fun q => hef (q ▸ hb)) y) (k7 _ _ (Nat.ne_of_gt le) t4) fun b o hbe hbi hb => k7 b o hbe (k4 b o hbe hbi hb)⟩))
theorem en_next {e it : Addr} {fp : List Addr} {n i : Nat} {k : Int} {P : Nat → Value → Prop} {St : Nat → Heap → Prop} {old : Value} {Q : Option Value → Shared → Prop}
    (D : Draws prog w A.in1 it fp n P St) (he : IsEnum s.heap e it k old) (hst : St i s.heap) (hlt : i < n) (hne : e ≠ it) (hef : e ∉ fp)
    (hQ : ∀ x h' tk, P i x → IsEnumOut h' e it (k + 1) x s.heap.objs.size → St (i + 1) h' → h'.get? s.heap.objs.size = some { cls := .type "tuple", data := .seq #[.int k tk, x] } →
      (∀ b o, b ≠ e → b ≠ it → s.heap.get? b = some o → h'.get? b = some o) → Q (some (.ref s.heap.objs.size)) { s with heap := h', toks := tk + 1 }) :
    wpAny (model prog w) A (pyNext (.ref e)) Q E s := by
  have hT : s.TypeIs (.ref e) "enumerate" := ⟨_, he, rfl⟩
  unfold pyNext
  exact wpAny_bind (wpAny_attempt (wpAny_callSpecial?_slot (name := Str.ofString "__next__") hT F.slot_enumerate_next (wpAny_call_entry F.slot_enumerate_next hT F.entry_enumerate_next
    (en_item D he hst hlt hne hef fun x h' tk a b c d k => wpAny_pure (hQ x h' tk a b c d k)) (F.args_enumerate_next_1 _))))
end
end L2
namespace L2
open PySem PySem.Spec PyProof.Rows
section
variable {prog : Program} {w : World} {A : Around} {E : Value → Shared → Prop} {s : Shared}
end
end L2
namespace L2
open PySem PySem.Spec PyProof.Rows
section
variable {X : Cx} {pins : List (Addr × Obj)} {σ : St} {H : Hp} {s : Shared} {h' : Heap}
theorem Inv.turnedNew {t' : Nat} {ch : List Addr} {a : Addr} {o : HO} (I : Inv X pins σ H s) (k : ∀ b u, b ∉ ch → s.heap.get? b = some u → h'.get? b = some u) (hch : ∀ b ∈ ch, FpOk X pins H b)
    (hp : s.heap.objs.size ≤ a) (new : ObjOk X.prog X.w (upd H a o) h' a o) : Inv X pins σ (upd H a o) { s with heap := h', toks := t' } := by
  have hn : H a = none := I.hok.fresh hp
  have nch : ∀ b u, H b = some u → b ∉ ch := fun b u e z => by rw [(hch b z).1] at e; cases e
  refine I.step (g' := s.gens) (d' := s.drawn) (ch := ch) (fun b hb => ⟨(hch b hb).2.2.2.1, (hch b hb).2.1, (hch b hb).2.2.2.2.1, (hch b hb).2.2.2.2.2⟩) (fun b o _ _ hc e _ => k b o hc e) (fun b o _ _ hc e _ => ⟨o.slots, k b o hc e⟩)
    (fun b u hc e n => by rw [upd_ne (Nat.ne_of_lt (Nat.lt_of_lt_of_le (Heap.lt_size e) hp))]; exact n) (fun b o hc e => ⟨o, k b o hc e⟩) (fun b xs e => by rw [upd_ne (ne_of_none e hn)]; exact e) (fun b u xs e => by rw [upd_ne (ne_of_none e hn)]; exact e)
    (fun b ps e => ⟨#[], by rw [upd_ne (ne_of_none e hn), e]; simp⟩) (fun m hm => ?_) (fun b u e => ?_) I.bare
  · obtain ⟨ob, es, ep, ho, r⟩ := hm
    exact ⟨ob, es, ep, k _ ob (fun z => (hch _ z).2.1 rfl) ho, r⟩
  · by_cases hb : b = a
    · subst hb
      rw [upd_same] at e
      cases e
      exact new
    · rw [upd_ne hb] at e
      refine (I.hok b u e).stay (fun c v hc q => k c v ?_ q) (fun c q => by rw [upd_ne (ne_of_none q hn)]; exact q) fun c xs q => by rw [upd_ne (ne_of_none q hn)]; exact q
      rcases hc with z | z
      · rw [z]
        exact nch b u e
      · exact nch c _ z
end
def Ite (Sq : Hp → List V → Prop) (k : Int) : It :=
  ⟨fun i H => ∃ xs x, Sq H xs ∧ xs[i]? = some x, fun i H x H' => ∃ p y, x = .ref p ∧ H p = none ∧ H' = upd H p (.tup [.int (k + i), y]) ∧ ∀ xs, Sq H xs → xs[i]? = some y, fun i H => ∃ xs, Sq H xs ∧ xs.length = i⟩
theorem turn_enL {P : Program} {w : World} {K : PySem.W.Frag} {es : List Expr} {kk : Nat} {pt : Pos} (a e it : Addr) (k : Int) (hei : e ≠ it) :
    Turn P w K (.Tuple es kk pt) (Ite (fun H xs => SqL K H a xs) k) [e, it] e (fun i h => (∃ old, IsEnum h e it (k + (i : Int)) old) ∧ h.IsListIter it a i) where
  mem := by simp
  obj := fun i h st b hb => by
    obtain ⟨⟨old, he⟩, o, ho, hc, hd⟩ := st
    rcases List.mem_cons.mp hb with z | z
    · subst z
      exact ⟨_, he, fun v q => by cases q⟩
    · have z : b = it := by simpa using z
      subst z
      exact ⟨o, ho, fun v q => by rw [hd] at q; cases q⟩
  keep := fun i h h' st kk => by
    obtain ⟨⟨old, he⟩, o, ho, r⟩ := st
    exact ⟨⟨old, kk e (by simp) _ he⟩, o, kk it (by simp) o ho, r⟩
  item := by
    intro X hP hw hK hc i pins s σ H E I hf st hg
    subst hP hw hK
    obtain ⟨xs, x, hq, hx⟩ := hg
    obtain ⟨its, rv, p, hz⟩ := I.list hq
    obtain ⟨u, hu, ru⟩ := rv.get hx
    obtain ⟨⟨old, he⟩, hit⟩ := st
    have pl : s.heap.IsList a its.toArray := p.isList
    have nai : a ≠ it := fun z => by
      obtain ⟨o, ho, hc, _⟩ := pl
      obtain ⟨o', ho', hc', _⟩ := hit
      rw [z, ho'] at ho
      cases ho
      rw [hc'] at hc
      injection hc with q
      exact absurd q (by decide)
    have nae : e ≠ a := fun z => by
      obtain ⟨o, ho, hc, _⟩ := pl
      rw [← z, he] at ho
      cases ho
      injection hc with q
      exact absurd q (by decide)
    have D := Draws.list (prog := X.prog) (w := X.w) (A := X.A.in1) (I.ok.hd hc) it a nai its.toArray
    have lt : i < its.toArray.size := by
      rw [List.size_toArray]
      exact (List.getElem?_eq_some_iff.mp hu).1
    refine en_next D he ⟨hit, pl⟩ lt hei (fun z => ?_) fun y g tk py eo st' tt kp => ?_
    · rcases List.mem_cons.mp z with z | z
      · exact hei z
      · exact nae (by simpa using z)
    · have ey : y = u := by
        have q : its.toArray[i]? = some y := py
        have q2 : its.toArray[i]? = some u := by simpa using hu
        rw [q2] at q
        exact (Option.some.inj q).symm
      subst ey
      refine ⟨_, rfl, wpAny_letOwnedTupleGo_enum eo fun g2 eo2 sb => ?_⟩
      have le : e < s.heap.objs.size := Heap.lt_size he
      have li : it < s.heap.objs.size := by
        obtain ⟨o, ho, _⟩ := hit
        exact Heap.lt_size ho
      have tt2 : g2.get? s.heap.objs.size = some { cls := .type "tuple", data := .seq #[.int (k + i) tk, y] } := (sb.2 _ (Nat.ne_of_gt le)).trans tt
      have nT : H s.heap.objs.size = none := I.fresh
      have I1 : Inv X pins σ (upd H s.heap.objs.size (.tup [.int (k + i), x])) { s with heap := g2, toks := tk + 1 } := by
        refine I.turnedNew (t' := tk + 1) (ch := [e, it]) (fun b o hb q => ?_) hf (Nat.le_refl _) ⟨?_, [.int (k + i) tk, y], .cons ⟨tk, rfl⟩ (.cons ru .nil), ⟨_, tt2, rfl, 0, rfl⟩⟩
        · have hbe : b ≠ e := fun z => hb (by simp [z])
          have hbi : b ≠ it := fun z => hb (by simp [z])
          exact (sb.2 b hbe).trans (kp b o hbe hbi q)
        · show 2 ≤ sizeLine
          decide
      have e1 : k + ((i + 1 : Nat) : Int) = k + (i : Int) + 1 := by omega
      refine ⟨.ref s.heap.objs.size, _, I1, rfl, ⟨_, x, rfl, nT, rfl, fun ys hy => ?_⟩, ⟨⟨y, by rw [e1]; exact eo2⟩, ?_⟩, fun b hb => ?_⟩
      · rw [I.list_inj hy hq]
        exact hx
      · obtain ⟨⟨o, ho, r⟩, _⟩ := st'
        exact ⟨o, (sb.2 it hei.symm).trans ho, r⟩
      · rcases List.mem_cons.mp hb with z | z
        · subst z
          rw [upd_ne (Nat.ne_of_lt le)]
          exact (hf b (by simp)).1
        · have z : b = it := by simpa using z
          subst z
          rw [upd_ne (Nat.ne_of_lt li)]
          exact (hf b (by simp)).1
  done := by
    intro X hP hw hK hc i pins s σ H E I hf st hg
    subst hP hw hK
    obtain ⟨xs, hq, hx⟩ := hg
    obtain ⟨its, rv, p, hz⟩ := I.list hq
    obtain ⟨⟨old, he⟩, hit⟩ := st
    have pl : s.heap.IsList a its.toArray := p.isList
    have nai : a ≠ it := fun z => by
      obtain ⟨o, ho, hc, _⟩ := pl
      obtain ⟨o', ho', hc', _⟩ := hit
      rw [z, ho'] at ho
      cases ho
      rw [hc'] at hc
      injection hc with q
      exact absurd q (by decide)
    have D := Draws.list (prog := X.prog) (w := X.w) (A := X.A.in1) (I.ok.hd hc) it a nai its.toArray
    have ei : its.toArray.size = i := by
      rw [List.size_toArray, ← rv.length]
      exact hx
    obtain ⟨f0, f1, f2, f3, f4, f5⟩ := hf it (by simp)
    refine wpAny_pyNext_enum_endD D he (by rw [ei]; exact ⟨hit, pl⟩) fun h' eb => ⟨rfl, I.turned (t' := s.toks) (fun b o hb q => eb b o hb q) f0 f1 f3 f4 f5⟩
  self := fun _ _ _ _ _ st h => by
    obtain ⟨⟨old, he⟩, _⟩ := st
    exact wpAny_pyIter_enum he h
section
variable {M : Model} {A : Around} {E : Value → Shared → Prop} {s : Shared} {env : Env}
end
section
variable {X : Cx} {es : List Expr} {kk : Nat} {pt : Pos}
end
theorem for_en {Sq : Hp → List V → Prop} {k : Int} {xs : List V} {g : TG} {tb : TS} {D : Ends} {σ : St} {H : Hp} (Pv : Nat → St → Hp → Prop) (h0 : Pv 0 σ H) (hl : ∀ i σ H, i ≤ xs.length → Pv i σ H → Sq H xs)
    (hs : ∀ i x p σ H, xs[i]? = some x → H p = none → Pv i σ H → g (.ref p) σ (upd H p (.tup [.int (k + i), x])) fun σ2 H2 => tb { D with nx := Pv (i + 1), ct := Pv (i + 1), bk := D.nx } σ2 H2) (hd : ∀ σ H, Pv xs.length σ H → D.nx σ H) :
    ∃ W : Nat → Nat → St → Hp → Prop, (∃ m, W 0 m σ H) ∧ ∀ i m σ H, W i m σ H →
      ((Ite Sq k).stop i H ∧ D.nx σ H) ∨ ((Ite Sq k).go i H ∧ ∃ N : St → Hp → Prop, (∀ σ' H', N σ' H' → ∃ m', m' < m ∧ W (i + 1) m' σ' H') ∧ ∀ x H', (Ite Sq k).yld i H x H' → g x σ H' fun σ2 H2 => tb { D with nx := N, ct := N, bk := D.nx } σ2 H2) := by
  refine ⟨fun i m σ H => m = xs.length - i ∧ i ≤ xs.length ∧ Pv i σ H, ⟨xs.length, by simp, Nat.zero_le _, h0⟩, ?_⟩
  rintro i m σ H ⟨rfl, hi, p⟩
  have q := hl i σ H hi p
  by_cases hlt : i < xs.length
  · refine .inr ⟨⟨xs, xs[i], q, by simp [hlt]⟩, Pv (i + 1), fun σ' H' p' => ⟨xs.length - (i + 1), by omega, rfl, hlt, p'⟩, fun x H' y => ?_⟩
    obtain ⟨a, z, e1, hn, e2, y⟩ := y
    subst e1 e2
    exact hs i z a σ H (y xs q) hn p
  · have e : i = xs.length := by omega
    subst e
    exact .inl ⟨⟨xs, q, rfl⟩, hd σ H p⟩
end L2
namespace L2
open PySem PySem.Spec PyProof.Rows
open AutoSeq1 (wpAny_loadPart')
section
variable {X : Cx}
end
end L2
namespace L2
open PySem PySem.Spec PyProof.Rows
def compChk (fs : Scope) (N : List Str) (x : Str) (scope : Scope) : Bool :=
  decide (scope.kind = .function) && scope.names.all (fun y => decide (y.2 ≠ .cell)) && scope.names.all (fun y => decide (y.2 = .local → scope.names.lookup y.1 = some .local)) && decide (scope.names.lookup x = some .local) &&
  scope.names.all (fun y => decide (y.2 = .free → fs.names.lookup y.1 = some .cell ∨ fs.names.lookup y.1 = some .free)) &&
  N.all (fun y => match scope.names.lookup y with
    | none => true
    | some .free => decide (fs.names.lookup y = some .cell ∨ fs.names.lookup y = some .free)
    | some _ => false) && decide ((x :: N).Nodup)
theorem compSc_mk {X : Cx} {x : Str} {scope fs : Scope} {N : List Str} (hs : X.env.scope = fs) (hN : X.N = N) (c : compChk fs N x scope = true) : CompSc X x scope := by
  subst hs hN
  unfold compChk at c
  simp only [Bool.and_eq_true, List.all_eq_true, decide_eq_true_eq] at c
  obtain ⟨⟨⟨⟨⟨⟨c1, c2⟩, c3⟩, c4⟩, c5⟩, c6⟩, c7⟩ := c
  refine ⟨c1, c2, c3, c4, c5, fun y hy => ?_, c7⟩
  have q := c6 y hy
  unfold capOk
  cases e : scope.names.lookup y with
  | none => rfl
  | some k =>
    rw [e] at q
    cases k with
    | free =>
      have q2 : X.env.scope.names.lookup y = some .cell ∨ X.env.scope.names.lookup y = some .free := by simpa using q
      show (X.env.kindOf y == some .cell || X.env.kindOf y == some .free) = true
      have e2 : X.env.kindOf y = X.env.scope.names.lookup y := rfl
      rw [e2]
      rcases q2 with z | z <;> rw [z] <;> rfl
    | _ => simp at q
end L2
namespace L2
open PySem PySem.Spec PyProof.Rows
section
variable {X : Cx}
def rMinL (K : PySem.W.Frag) : List V → Hp → VK → Prop := fun xs H Q => ∃ (p : Addr) (ns : List Int), xs = [.ref p] ∧ SqL K H p (ns.map V.int) ∧ 0 < ns.length ∧ ∀ M : Int, M ∈ ns → (∀ b ∈ ns, M ≤ b) → Q (.int M) H
theorem call_minL (hc : X.calm = true) : CallR X (.builtin "min") (rMinL X.K) := by
  intro pins s σ H xs us Q I r h
  obtain ⟨p, ns, e1, hS, hn, q⟩ := h
  subst e1
  obtain ⟨u, e2, ru⟩ := vals1 r
  subst e2
  obtain rfl : u = Value.ref p := ru
  obtain ⟨its, rv, pl, hz⟩ := I.list hS
  have ia := intsAre_of rv
  obtain ⟨zs, ez⟩ := ia.allInts.items
  have en : ns = zs.toList.map (·.1) := by rw [← ia.numsOf, ← nums_intItems, ← ez]
  have hs : 0 < zs.size := by
    rw [en, List.length_map, Array.length_toList] at hn
    exact hn
  have hL := pl.isList
  rw [ez] at hL
  refine min_intList (I.ok.hd hc) hL hs fun v h' tk hv hk => ?_
  obtain ⟨t, e3⟩ := intItems_at hv
  subst e3
  obtain ⟨g1, g2⟩ := argBest_lt (numAt zs) (zs.size - 1)
  refine ⟨.int _, H, I.kept hk, ⟨t, rfl⟩, q _ ?_ fun b hb => ?_⟩
  · rw [en, numAt_eq]
    exact getD_mem (by rw [List.length_map, Array.length_toList]; omega)
  · rw [en] at hb
    obtain ⟨j, hj, e4⟩ := mem_getD hb
    subst e4
    rw [List.length_map, Array.length_toList] at hj
    rw [← numAt_eq]
    exact g2 j (by omega)
def iEnL0 (K : PySem.W.Frag) (ta : TA) : TI := fun σ H R => ta σ H fun vs H1 => ∃ a, vs = [.ref a] ∧ (∃ xs, SqL K H1 a xs) ∧ R (Ite (fun H xs => SqL K H a xs) 0) H1
theorem pi_enL0 {es : List Expr} {kk : Nat} {pt : Pos} {l : Expr} {ta : TA} {p pos : Pos} (hg : Gl X "enumerate") (hm : X.mg "enumerate" = none) (ha : PA X [l] ta) (hs : starEach [l] X.env = [(false, eval l X.env)] := by rfl) :
    PI X (.Tuple es kk pt) (.Call (.Name "enumerate" p) [l] [] pos) (iEnL0 X.K ta) := by
  intro pins s σ H R I h
  refine Call_ (ld_blt I hg hm boot_enumerate (PyProof.Rows.callWith_type1 (thn (ha pos pins s σ H _ I h) fun us s1 ⟨vs, H1, I1, r1, q1⟩ => ?_) hs rfl))
  obtain ⟨a, e1, ⟨xs, hq⟩, q⟩ := q1
  subst e1
  obtain ⟨u, e1, r3⟩ := vals1 r1
  subst e1
  obtain rfl : u = Value.ref a := r3
  obtain ⟨its, rv, pl, hz⟩ := I1.list hq
  refine call_enumerate_list pl.isList fun h' he hit hsz kp => ?_
  have I3 : Inv X pins σ H1 { s1 with heap := h' } := I1.kept (t' := s1.toks) kp
  refine wpAny_pyIter_enum he ⟨s1.heap.objs.size + 1, [s1.heap.objs.size + 1, s1.heap.objs.size], _, _, H1, rfl, I3, turn_enL a _ _ 0 (Nat.succ_ne_self _), ⟨⟨.none, by rw [show (0 : Int) + ((0 : Nat) : Int) = 0 by omega]; exact he⟩, hit⟩, fun b hb => ?_, q⟩
  rcases List.mem_cons.mp hb with z | z
  · subst z
    exact I1.fpOk (Nat.le_succ _) (I1.hok.fresh (Nat.le_succ _))
  · have z : b = s1.heap.objs.size := by simpa using z
    subst z
    exact I1.fpOk (Nat.le_refl _) (I1.hok.fresh (Nat.le_refl _))
end
section
variable {X : Cx} {K : PySem.W.Frag}
theorem call_lenK (hK : X.K = K) : CallR X (.builtin "len") (fun xs H Q => ∃ p ys, xs = [.ref p] ∧ (SqL K H p ys ∨ SqT K H p ys) ∧ Q (.int ys.length) H) := by
  subst hK
  exact call_len_seq
end
end L2
namespace L2
open PySem
section
variable {prog : Program} {w : World} {A : Around} {R : Result → Shared → Prop} {I Z : Addr} {fp wr : List Addr} {n : Nat} {P : Nat → Value → Prop} {St : Nat → Heap → Prop} {Ok : Heap → Prop}
end
section
variable {prog : Program} {w : World} {A : Around} {E : Value → Shared → Prop} {s : Shared}
end
end L2
namespace L2
open PySem PySem.Spec PyProof.Rows
section
variable {X : Cx}
end
section
variable {X : Cx}
end
end L2
namespace L2
open PySem PySem.Spec PyProof.Rows
section
variable {κ : Type} [DecidableEq κ]
end
section
variable {P : Program} {w : World} {H : Hp} {h : Heap} {a : Addr}
end
section
variable {X : Cx} {pins : List (Addr × Obj)} {σ : St} {H : Hp} {s : Shared} {a : Addr} {y v : V} {u r : Value} {o : Option V} {A : Around} {E : Value → Shared → Prop}
end
section
variable {X : Cx} {pins : List (Addr × Obj)} {σ : St} {H : Hp} {s : Shared} {a : Addr} {kvs : List (Key × V)} {k : Key} {u : Value} {A : Around} {E : Value → Shared → Prop}
end
section
variable {X : Cx} {o i e value : Expr} {pos pos' tpos : Pos} {td ty tv : TE}
end
section
variable {X : Cx} {pos : Pos}
end
structure M1 (X : Cx) (o : Expr) (m : Str) (apos : Pos) (e : Expr) (cpos : Pos) : Prop where
  base : attributeBase o m X.env (eval o X.env) = eval o X.env
  few : ((backTo cpos (starEach [e] X.env)).all (fun x => !x.1) && (backToKw cpos (keywordEach [] X.env)).all (fun x => x.1.isSome)
    && decide (([e] : List Expr).length + ([] : List Keyword).length + (if ([] : List Keyword).isEmpty then 0 else 1) < 30)) = true
  line : (apos.endLine == cpos.line) = true
  trees : backTo cpos (starEach [e] X.env) = [(false, eval e X.env)]
structure M2 (X : Cx) (o : Expr) (m : Str) (apos : Pos) (e f : Expr) (cpos : Pos) : Prop where
  base : attributeBase o m X.env (eval o X.env) = eval o X.env
  few : ((backTo cpos (starEach [e, f] X.env)).all (fun x => !x.1) && (backToKw cpos (keywordEach [] X.env)).all (fun x => x.1.isSome)
    && decide (([e, f] : List Expr).length + ([] : List Keyword).length + (if ([] : List Keyword).isEmpty then 0 else 1) < 30)) = true
  line : (apos.endLine == cpos.line) = true
  trees : backTo cpos (starEach [e, f] X.env) = [(false, eval e X.env), (false, eval f X.env)]
section
variable {X : Cx} {pins : List (Addr × Obj)} {σ : St} {H : Hp} {s : Shared} {a : Addr} {y d : V} {u r : Value} {o : Option V} {A : Around} {E : Value → Shared → Prop}
end
section
variable {X : Cx} {o e f : Expr} {apos cpos : Pos} {td ty tx : TE}
end
section
variable {X : Cx} {pins : List (Addr × Obj)} {σ : St} {H : Hp} {s : Shared} {a : Addr} {kvs : List (Key × V)} {A : Around} {E : Value → Shared → Prop}
end
section
variable {X : Cx} {pins : List (Addr × Obj)} {σ : St} {H : Hp} {s : Shared} {a : Addr} {y : V} {u : Value} {A : Around} {E : Value → Shared → Prop}
end
end L2
namespace L2
open PySem
def XD (h : Heap) (e : Addr) (od : Option Addr) : Prop := ∃ o, h.get? e = some o ∧ o.dict = od
theorem XD.push {h : Heap} {e : Addr} {od : Option Addr} (d : XD h e od) (o : Obj) : XD (h.push o) e od := by
  obtain ⟨u, hu, hd⟩ := d
  exact ⟨u, Heap.get?_push_of_some _ hu, hd⟩
theorem XD.upd {h : Heap} {e : Addr} {od : Option Addr} (d : XD h e od) (b : Addr) {f : Obj → Obj} (f1 : ∀ o, (f o).dict = o.dict) (f2 : ∀ o, o.isFreed = false → (f o).isFreed = false) : XD (h.update b f) e od := by
  obtain ⟨u, hu, hd⟩ := d
  by_cases q : b = e
  · subst q
    exact ⟨f u, Heap.get?_update_self f hu (f2 u (Heap.get?_some_iff.mp hu).2), (f1 u).trans hd⟩
  · exact ⟨u, by rw [Heap.get?_update_other _ _ q]; exact hu, hd⟩
theorem freed_map (g : Array Value → Array Value) (o : Obj) (h : o.isFreed = false) : (o.mapFields g).isFreed = false := by
  obtain ⟨c, d, dt, sl⟩ := o
  cases dt <;> first | rfl | exact h
theorem dict_map (g : Array Value → Array Value) (o : Obj) : (o.mapFields g).dict = o.dict := by
  obtain ⟨c, d, dt, sl⟩ := o
  cases dt <;> rfl
theorem freed_slots (o : Obj) (sl : Array (Option Value)) (h : o.isFreed = false) : ({ o with slots := sl } : Obj).isFreed = false := by
  obtain ⟨c, d, dt, s⟩ := o
  cases dt <;> first | rfl | exact h
structure KpD {α : Type} (t : Sem α) : Prop where
  out : ∀ (M : Model) (Γ : Ctx) (P : α → Pos → Shared → Prop) (Ee : Value → Pos → Shared → Prop) (p : Pos) (s : Shared) (e : Addr) (od : Option Addr), XD s.heap e od → Sem.wp M Γ t P Ee p s → Sem.wp M Γ t (fun a p' s' => P a p' s' ∧ XD s'.heap e od) Ee p s
namespace KpD
variable {α β : Type}
theorem pure (a : α) : KpD (Pure.pure a : Sem α) := ⟨fun _ _ _ _ _ _ _ _ d h => ⟨h, d⟩⟩
theorem uns (w : String) : KpD (PySem.unsupported w : Sem α) := ⟨fun _ _ _ _ _ _ _ _ _ h => h⟩
theorem bind {m : Sem α} {f : α → Sem β} (hm : KpD m) (hf : ∀ a, KpD (f a)) : KpD (m >>= f) := ⟨fun M Γ P Ee p s e od d h => by
  rw [Sem.wp_bind'] at h ⊢
  exact Sem.wp_mono M Γ m (fun a p' s' h' => (hf a).out M Γ P Ee p' s' e od h'.2 h'.1) (fun _ _ _ x => x) p s (hm.out M Γ _ Ee p s e od d h)⟩
theorem ite {c : Prop} [Decidable c] {t u : Sem α} (ht : KpD t) (hu : KpD u) : KpD (if c then t else u) := by split <;> assumption
theorem load (a : Addr) : KpD (PySem.load a) := ⟨fun M Γ P Ee p s e od d h => by
  unfold PySem.load at h ⊢
  rw [Sem.wp_load] at h ⊢
  obtain ⟨o, ho, h⟩ := h
  exact ⟨o, ho, by rw [Sem.wp_pure] at h ⊢; exact ⟨h, d⟩⟩⟩
theorem update (a : Addr) (f : Obj → Obj) (f1 : ∀ o, (f o).dict = o.dict) (f2 : ∀ o, o.isFreed = false → (f o).isFreed = false) : KpD (PySem.update a f) := ⟨fun M Γ P Ee p s e od d h => by
  rw [Sem.wp_cmd_update] at h ⊢
  exact ⟨h.1, h.2, d.upd a f1 f2⟩⟩
theorem stack : KpD PySem.stack := ⟨fun M Γ P Ee p s e od d h => by
  unfold PySem.stack at h ⊢
  rw [Sem.wp_stack] at h ⊢
  rw [Sem.wp_pure] at h ⊢
  exact ⟨h, d⟩⟩
theorem alloc (o : Obj) : KpD (PySem.alloc o) := ⟨fun M Γ P Ee p s e od d h => by
  rw [Sem.wp_cmd_alloc] at h ⊢
  exact ⟨h, d.push o⟩⟩
theorem field (v : Value) (i : Nat) : KpD (PySem.field v i) := ⟨fun M Γ P Ee p s e od d h => by
  rw [wp_field_iff] at h ⊢
  obtain ⟨a, o, vs, x, e1, e2, e3, e4, h⟩ := h
  exact ⟨a, o, vs, x, e1, e2, e3, e4, h, d⟩⟩
theorem setField (v : Value) (i : Nat) (x : Value) : KpD (PySem.setField v i x) := ⟨fun M Γ P Ee p s e od d h => by
  rw [wp_setField_iff] at h ⊢
  obtain ⟨a, o, vs, e1, e2, e3, e4, h⟩ := h
  exact ⟨a, o, vs, e1, e2, e3, e4, h, d.upd a (dict_map _) (freed_map _)⟩⟩
end KpD
theorem kpd_import (env : Env) (outer : List Env) : KpD (behindIsImport env outer) := by
  unfold behindIsImport
  (repeat' with_reducible first
    | assumption
    | exact KpD.pure _
    | exact KpD.uns _
    | exact KpD.field _ _
    | exact KpD.setField _ _ _
    | exact KpD.load _
    | exact KpD.stack
    | exact KpD.alloc _
    | exact KpD.update _ _ (fun _ => rfl) (fun o h => freed_slots o _ h)
    | apply KpD.ite
    | apply KpD.bind
    | intro _
    | split)
theorem kpd_under : KpD underTheClaimsCaller := by
  unfold underTheClaimsCaller
  (repeat' with_reducible first
    | assumption
    | exact KpD.pure _
    | exact KpD.uns _
    | exact KpD.field _ _
    | exact KpD.setField _ _ _
    | exact KpD.load _
    | exact KpD.stack
    | exact KpD.alloc _
    | exact KpD.update _ _ (fun _ => rfl) (fun o h => freed_slots o _ h)
    | apply KpD.ite
    | apply KpD.bind
    | intro _
    | split)
theorem kpd_back (env : Env) (i : Bool) (l : List Env) : KpD (keptBack env i l) := by
  have := kpd_under
  cases l <;> unfold keptBack <;> (repeat' with_reducible first
    | assumption
    | exact KpD.pure _
    | exact KpD.uns _
    | exact KpD.field _ _
    | exact KpD.setField _ _ _
    | exact KpD.load _
    | exact KpD.stack
    | exact KpD.alloc _
    | exact KpD.update _ _ (fun _ => rfl) (fun o h => freed_slots o _ h)
    | apply KpD.ite
    | apply KpD.bind
    | intro _
    | split)
theorem kpd_ready : ∀ l : List Env, KpD (readyFrames l)
  | [] => KpD.pure _
  | env :: outer => by
    have ih := kpd_ready outer
    have h1 := kpd_import env outer
    have h2 := fun i => kpd_back env i outer
    unfold readyFrames
    (repeat' with_reducible first
    | assumption
    | exact KpD.pure _
    | exact KpD.uns _
    | exact KpD.field _ _
    | exact KpD.setField _ _ _
    | exact KpD.load _
    | exact KpD.stack
    | exact KpD.alloc _
    | exact KpD.update _ _ (fun _ => rfl) (fun o h => freed_slots o _ h)
    | apply KpD.ite
    | apply KpD.bind
    | intro _
    | split)
    all_goals first | exact h2 _ | skip
theorem kpd_frame (l : List Env) : KpD (frameObject l) := by
  cases l with
  | nil => exact KpD.pure _
  | cons env outer =>
    have := kpd_ready (env :: outer)
    unfold frameObject
    (repeat' with_reducible first
    | assumption
    | exact KpD.pure _
    | exact KpD.uns _
    | exact KpD.field _ _
    | exact KpD.setField _ _ _
    | exact KpD.load _
    | exact KpD.stack
    | exact KpD.alloc _
    | exact KpD.update _ _ (fun _ => rfl) (fun o h => freed_slots o _ h)
    | apply KpD.ite
    | apply KpD.bind
    | intro _
    | split)
theorem kpd_frameOf (env : Env) : KpD (frameOf env) := by
  have h1 : KpD frameEnvs := by unfold frameEnvs; (repeat' with_reducible first
    | assumption
    | exact KpD.pure _
    | exact KpD.uns _
    | exact KpD.field _ _
    | exact KpD.setField _ _ _
    | exact KpD.load _
    | exact KpD.stack
    | exact KpD.alloc _
    | exact KpD.update _ _ (fun _ => rfl) (fun o h => freed_slots o _ h)
    | apply KpD.ite
    | apply KpD.bind
    | intro _
    | split)
  have h2 := kpd_frame
  unfold frameOf
  (repeat' with_reducible first
    | assumption
    | exact KpD.pure _
    | exact KpD.uns _
    | exact KpD.field _ _
    | exact KpD.setField _ _ _
    | exact KpD.load _
    | exact KpD.stack
    | exact KpD.alloc _
    | exact KpD.update _ _ (fun _ => rfl) (fun o h => freed_slots o _ h)
    | apply KpD.ite
    | apply KpD.bind
    | intro _
    | split)
  all_goals first | exact h2 _ | skip
theorem kpd_place (f : Addr) (b : Bool) : KpD (entryPlaceOf f b) := by
  unfold entryPlaceOf
  (repeat' with_reducible first
    | assumption
    | exact KpD.pure _
    | exact KpD.uns _
    | exact KpD.field _ _
    | exact KpD.setField _ _ _
    | exact KpD.load _
    | exact KpD.stack
    | exact KpD.alloc _
    | exact KpD.update _ _ (fun _ => rfl) (fun o h => freed_slots o _ h)
    | apply KpD.ite
    | apply KpD.bind
    | intro _
    | split)
theorem kpd_newFields (n : String) (l : List Value) : KpD (newFields n l) := by
  unfold newFields newObj newObjAsIs
  (repeat' with_reducible first
    | assumption
    | exact KpD.pure _
    | exact KpD.uns _
    | exact KpD.field _ _
    | exact KpD.setField _ _ _
    | exact KpD.load _
    | exact KpD.stack
    | exact KpD.alloc _
    | exact KpD.update _ _ (fun _ => rfl) (fun o h => freed_slots o _ h)
    | apply KpD.ite
    | apply KpD.bind
    | intro _
    | split)
theorem kpd_entry (a b c d f : Value) (l : List Value) : KpD (EntryCells.newEntry a b c d f l) := kpd_newFields _ _
theorem kpd_note (e : Value) (env : Env) : KpD (noteFrame e env) := by
  have h1 := kpd_frameOf env
  have h2 := kpd_place
  have h3 := kpd_entry
  unfold noteFrame
  (repeat' with_reducible first
    | assumption
    | exact KpD.pure _
    | exact KpD.uns _
    | exact KpD.field _ _
    | exact KpD.setField _ _ _
    | exact KpD.load _
    | exact KpD.stack
    | exact KpD.alloc _
    | exact KpD.update _ _ (fun _ => rfl) (fun o h => freed_slots o _ h)
    | apply KpD.ite
    | apply KpD.bind
    | intro _
    | split)
  all_goals first | exact h2 _ _ | exact h3 _ _ _ _ _ _ | skip
theorem kpd_flight (e : Value) (f : Option Addr) : KpD (setFlight e f) := by
  unfold setFlight
  (repeat' with_reducible first
    | assumption
    | exact KpD.pure _
    | exact KpD.uns _
    | exact KpD.field _ _
    | exact KpD.setField _ _ _
    | exact KpD.load _
    | exact KpD.stack
    | exact KpD.alloc _
    | exact KpD.update _ _ (fun _ => rfl) (fun o h => freed_slots o _ h)
    | apply KpD.ite
    | apply KpD.bind
    | intro _
    | split)
theorem kpd_leaving (env : Env) (e : Value) : KpD (leaving env e) := by
  have h1 := kpd_note e env
  have h2 := kpd_flight e none
  unfold leaving
  (repeat' with_reducible first
    | assumption
    | exact KpD.pure _
    | exact KpD.uns _
    | exact KpD.field _ _
    | exact KpD.setField _ _ _
    | exact KpD.load _
    | exact KpD.stack
    | exact KpD.alloc _
    | exact KpD.update _ _ (fun _ => rfl) (fun o h => freed_slots o _ h)
    | apply KpD.ite
    | apply KpD.bind
    | intro _
    | split)
theorem wp_xd {α : Type} {M : Model} {A : Around} {t : Sem α} {Q : α → Shared → Prop} {E : Value → Shared → Prop} {s : Shared} {e : Addr} {od : Option Addr} (k : KpD t) (d : XD s.heap e od) (h : wpAny M A t Q E s) :
    wpAny M A t (fun a s' => Q a s' ∧ XD s'.heap e od) E s := fun Γ p hΓ => k.out M Γ _ _ p s e od d (h Γ p hΓ)
end L2
namespace L2
open PySem
abbrev excObj (C t : Addr) (od : Option Addr) : Obj := { cls := .ref C, dict := od, data := .fields #[.ref t, .none, .none, .none, .bool false, .none] }
abbrev tupObj (vs : List Value) : Obj := { cls := .type "tuple", data := .seq vs.toArray }
section
variable {prog : Program} {w : World} {A : Around} {E : Value → Shared → Prop} {h : Heap} {g : Array GenState} {d : Drawn} {t : Nat} {os : OsState}
variable {nm q : Str} {C N f : Addr} {bs bm bmB : List Value} {hdct : Bool} {sn : List Str} {sub : List Value} {ab : Bool} {col : Option Bool} {dd : Option Addr} {k0 k1 k2 k3 k5 : Option Value} {B Bn newId nid initId inN : String} {bmN : List Value} {mN : Str → Option Value}
theorem bind_of {M : Model} {s : Shared} {oF : Obj} {self : Value} {Q : Value × List Value → Shared → Prop} (hf : s.heap.get? f = some oF) (hc : oF.cls = .type "function") (hq : Q (.ref f, [self]) s) : wpAny M A (bindSpecial (.ref f) self) Q E s := by
  unfold bindSpecial
  refine wpAny_bind (wpAny_typeOf ⟨_, hf, hc⟩ ?_)
  exact wpAny_of_eq (by kernel_rfl) hq
theorem tcall_own (Fn : ExcBaseFacts Bn newId inN bmN) (hBn : bmB.contains (.type Bn) = true) (F : ExcBaseFacts B nid initId bmB) (T : OwnTail h bmB bm) {vs : List Value} {oF : Obj} {Q : Fin → Shared → Prop}
    (hC : h.get? C = some (excClassObj nm q C N bs bm hdct sn sub ab col dd k0 k1 k2 k3 k5 newId)) (hn : h.Ns N mN) (hi : mN "__init__" = some (.ref f)) (hf : h.get? f = some oF) (hfc : oF.cls = .type "function")
    (hq : codeAny (model prog w) A (.call (.ref f) ⟨.ref (h.objs.size + 1) :: vs, []⟩) (fun r s' => match r with
      | .ok (.ret v) => v = .none ∧ Q (.done (.ret (.ref (h.objs.size + 1)))) s'
      | .ok _ => False
      | .error e => E e s') ⟨(h.push (tupObj vs)).push (excObj C h.objs.size none), g, d, t, os⟩) (hz : vs.length ≤ sizeLine) :
    wpAny (model prog w) A (Builtin.«type.__call__» ⟨.ref C :: vs, []⟩) Q E ⟨h, g, d, t, os⟩ := by
  repeat (first | with_reducible refine wpAny_loadPart_at hC ?_ | with_reducible refine wpAny_madeBy_exc hC ?_ | wp_step)
  refine codeAny_call_builtin_code (Code.quiet_builtin _ Fn.quiet) (wpAny_check_new_subU Fn hBn T hC ?_)
  refine codeAny_exc_new_subU Fn hBn F T hC ?_ hz
  show wpAny _ _ _ _ _ _
  have kp : ∀ b o, h.get? b = some o → ((h.push (tupObj vs)).push (excObj C h.objs.size none)).get? b = some o := fun b o e => Heap.get?_push_of_some _ (Heap.get?_push_of_some _ e)
  have c1 := kp _ _ hC
  have n1 := hn.keeps kp
  have f1 := kp _ _ hf
  have x1 : ((h.push (tupObj vs)).push (excObj C h.objs.size none)).get? (h.objs.size + 1) = some (excObj C h.objs.size none) := by heap_get
  have cc : (Value.ref C :: bm).contains (.ref C) = true := by simp
  have t1 := T.keeps kp
  unfold isInstance
  repeat (first | with_reducible refine wpAny_loadPart_at x1 ?_ | (with_reducible refine wpAny_isSubtype_exc c1 ?_; rw [cc]) | wp_step)
  show wpAny _ _ (typeLookup (.ref C) _) _ _ _
  refine wpAny_typeLookup_tail c1 n1 t1 F.mroIs F.init.lookup ?_
  rw [hi]
  refine wpAny_holding (wpAny_bind (bind_of f1 hfc ?_))
  refine wpAny_bind (wpAny_call (codeAny_mono hq fun r s' z => ?_))
  rcases r with e | (v | _ | _ | _) <;> first | exact z | exact z.elim | skip
  obtain ⟨rfl, z⟩ := z
  exact wpAny_pure (wpAny_pure z)
theorem call_own (Fn : ExcBaseFacts Bn newId inN bmN) (hBn : bmB.contains (.type Bn) = true) (F : ExcBaseFacts B nid initId bmB) (T : OwnTail h bmB bm) {vs : List Value} {oF : Obj} {Q : Value → Shared → Prop}
    (hC : h.get? C = some (excClassObj nm q C N bs bm hdct sn sub ab col dd k0 k1 k2 k3 k5 newId)) (hn : h.Ns N mN) (hi : mN "__init__" = some (.ref f)) (hf : h.get? f = some oF) (hfc : oF.cls = .type "function")
    (hq : codeAny (model prog w) (A.under (.builtin "type.__call__" ⟨.ref C :: vs, []⟩)) (.call (.ref f) ⟨.ref (h.objs.size + 1) :: vs, []⟩) (fun r s' => match r with
      | .ok (.ret v) => v = .none ∧ Q (.ref (h.objs.size + 1)) s'
      | .ok _ => False
      | .error e => E e s') ⟨(h.push (tupObj vs)).push (excObj C h.objs.size none), g, d, t, os⟩) (hz : vs.length ≤ sizeLine) :
    wpAny (model prog w) A (call (.ref C) vs) Q E ⟨h, g, d, t, os⟩ := by
  have f1 := tc_lookup
  have f2 := tc_bind (.ref C)
  have ty : (⟨h, g, d, t, os⟩ : Shared).TypeIs (.ref C) "type" := ⟨_, hC, rfl⟩
  refine wpAny_call (codeAny_of_tree ?_)
  show wpAny _ _ (callAny (.ref C) _) _ _ _
  repeat (any_goals (first | assumption | with_reducible refine wpAny_loadPart_at hC ?_ | wp_step))
  refine ⟨rfl, codeAny_call_builtin_at (Code.quiet_builtin _ (by decide +kernel)) entry_typeCall (wpAny_check_type_call_sub hC (tcall_own Fn hBn F T hC hn hi hf hfc (codeAny_mono hq fun r s' z => ?_) hz))⟩
  rcases r with e | (v | _ | _ | _) <;> exact z
theorem raise_own {M : Model} {env : Env} {s : Shared} {x : Expr} {pos : Pos} {Q : Flow → Shared → Prop} (hbase : bm.contains (.type "BaseException") = true) (hh : A.handled = none)
    (h : wpAny M A (eval x env) (fun v s1 => ∃ e t od, v = .ref e ∧ s1.heap.get? C = some (excClassObj nm q C N bs bm hdct sn sub ab col dd k0 k1 k2 k3 k5 newId) ∧ s1.heap.get? e = some (excObj C t od) ∧ E (.ref e) s1) E s) :
    wpAny M A (exec (.Raise (some x) none pos) env) Q E s := by
  have cb : (Value.ref C :: bm).contains (.type "BaseException") = true := by rw [List.contains_cons, hbase, Bool.or_true]
  show wpAny M A (do standAt pos; raiseStmt env (some (do let v ← eval x env; standAt pos; pure v)) none) Q E s
  refine wpAny_bind (wpAny_standAt ?_)
  unfold raiseStmt
  dsimp only
  refine wpAny_bind (wpAny_bind (wpAny_mono h (fun v s1 h1 => wpAny_bind (wpAny_standAt (wpAny_pure ?_))) fun _ _ z => z))
  obtain ⟨e, t, od, rfl, hC, he, hE⟩ := h1
  obtain ⟨hp, g, d, tk, os⟩ := s1
  repeat (first | with_reducible refine wpAny_loadPart_at he ?_ | with_reducible refine wpAny_loadPart_at hC ?_ | (with_reducible refine wpAny_isSubtype_exc hC ?_; rw [cb]) | wp_step)
  exact wpAny_raiseNew_none hh hE
end
end L2
namespace L2
open PySem PySem.W PyProof.Rows Builtin Builtin.ObjectAttr
def offRefs : List Value → List Value
  | .ref _ :: r => offRefs r
  | l => l
theorem refuse_off (self : Value) (what : Str) : ∀ l : List Value, refuseLoop self what l = refuseLoop self what (offRefs l)
  | [] => rfl
  | v :: r => by
    cases v with
    | ref c => rw [refuseLoop_ref]; exact refuse_off self what r
    | _ => rfl
def onlyExc (l : List Value) : Bool := offRefs l == [.type "ValueError", .type "Exception", .type "BaseException", .type "object"]
theorem exc_pass (self : Value) {l : List Value} (e : onlyExc l = true) : refuseLoop self "__setattr__" l = pure () := by
  rw [refuse_off, beq_iff_eq.mp e]
  exact PySem.F.store_ValueError.passes self
def excOver (K : Frag) (C : Addr) : Bool := (clsIn K C).any fun cd => onlyExc cd.mro && cd.hasDict && !cd.mro.isEmpty && cd.mro.contains (.type "object")
section
variable {prog : Program} {w : World} {A : Around} {K : Frag} {C x : Addr} {s : Shared} {R : Result → Shared → Prop}
theorem osa_exc {ox : Obj} {od : Option Obj} {name : Str} {tk : Tok} {v : Value} (X : K.In s.heap) (I : InstAt s.heap x ox C od) (hp : excOver K C = true) (hf : findIn K (.ref C) name = some none)
    (h : wpAny (model prog w) A.in1 (storeInOwnDict (.ref x) (.ref C) (.str name tk) name v false) (fun fin s' => match fin with | .done f => R (.ok f) s' | .again c' => c'.quiet = true ∧ codeAny (model prog w) A c' R s') (fun e s' => R (.error e) s') s) :
    codeAny (model prog w) A (.call (.builtin "object.__setattr__") ⟨[.ref x, .str name tk, v], []⟩) R s := by
  have SF := PySem.F.store_object
  obtain ⟨cd, hc, ho⟩ := any_some hp
  simp only [Bool.and_eq_true, Bool.not_eq_true'] at ho
  obtain ⟨⟨⟨ho, hd⟩, ne⟩, ob⟩ := ho
  have sub : Looks (model prog w) s.heap (isInstance (.ref x) (.type "object")) true := I.type.andThen (looks_mroIn X (by unfold mroIn; rw [hc, Option.bind_some, if_neg (by rw [ne]; decide), ob]))
  refine codeAny_call_builtin SF.slot.plain SF.entry (@check_slot (model prog w) _ _ s "object.__setattr__" "object" "__setattr__" (.ref x) [.str name tk, v] [] _ SF.kind SF.split sub (SF.args (.ref x) (.str name tk) v) ?_)
  have hm : Looks (model prog w) s.heap (mroOf (.ref C)) cd.mro := (looks_clsIn X hc).andThen .now
  rw [osa_eq, refuse_eq]
  refine wpAny_bind (wpAny_bind (I.type.here (wpAny_bind (hm.here ?_))))
  rw [exc_pass _ ho]
  refine wpAny_pure (wpAny_bind (I.type.here (wpAny_bind ((looks_findIn X hf).here (wpAny_bind (wpAny_pure ?_))))))
  exact h
theorem set_exc {t : Addr} {name : Str} {v : Value} {E : Value → Shared → Prop} {Q : Unit → Shared → Prop} (X : K.In s.heap) (hx : s.heap.get? x = some (excObj C t none)) (hp : excOver K C = true) (hf : findIn K (.ref C) name = some none)
    (hs : findIn K (.ref C) "__setattr__" = some (some (.builtin "object.__setattr__")))
    (h : ∀ h' tk, h'.get? x = some (excObj C t (some s.heap.objs.size)) → h'.Ns1 s.heap.objs.size (fun y => if y = name then some v else none) → (∀ b o, b ≠ x → s.heap.get? b = some o → h'.get? b = some o) → Q () { s with heap := h', toks := tk }) :
    wpAny (model prog w) A (setAttr (.ref x) name v) Q E s := by
  have I : InstAt s.heap x (excObj C t none) C none := ⟨hx, rfl, rfl, True.intro⟩
  refine set_plain X I hs (osa_exc (s := { s with toks := s.toks + 1 }) X I hp hf ?_)
  obtain ⟨cd, hc, ho⟩ := any_some hp
  simp only [Bool.and_eq_true, Bool.not_eq_true'] at ho
  obtain ⟨⟨⟨ho, hd⟩, ne⟩, ob⟩ := ho
  refine wpAny_bind (wpAny_pure (wpAny_bind (wpAny_bind (wpAny_loadPart hx (wpAny_bind (Looks.here (s := { s with toks := s.toks + 1 }) (looks_clsIn X hc) ?_))))))
  rw [hd, if_neg (by decide)]
  show wpAny _ _ (if (!true || !typeHasDict (Value.ref C)) = true then _ else _) _ _ _
  rw [if_neg (by simp [typeHasDict])]
  show wpAny _ _ (alloc { cls := .type "dict", data := .dict #[] } >>= fun d => update x (fun o => { cls := o.cls, dict := some d, data := o.data, slots := o.slots }) >>= fun _ => dictMade (Value.ref C) x d) _ _ _
  have hxs : x ≠ s.heap.objs.size := Nat.ne_of_lt (Heap.lt_size hx)
  have x1 : (s.heap.push { cls := .type "dict", data := .dict #[] }).get? x = some (excObj C t none) := Heap.get?_push_of_some _ hx
  refine wpAny_bind (wpAny_alloc (wpAny_bind (wpAny_update x1 (wpAny_pure ?_))))
  have gd : ((s.heap.push { cls := .type "dict", data := .dict #[] }).update x fun o => { cls := o.cls, dict := some s.heap.objs.size, data := o.data, slots := o.slots }).get? s.heap.objs.size = some { cls := .type "dict", data := .dict #[] } :=
    (Heap.get?_update_ne _ _ _ _ hxs.symm).trans (Heap.get?_push_at rfl rfl)
  have gn : ((s.heap.push { cls := .type "dict", data := .dict #[] }).update x fun o => { cls := o.cls, dict := some s.heap.objs.size, data := o.data, slots := o.slots }).Ns s.heap.objs.size (fun _ => none) :=
    ⟨_, #[], _, gd, rfl, fun e he => absurd he (by simp), fun _ => rfl⟩
  have gx : ((s.heap.push { cls := .type "dict", data := .dict #[] }).update x fun o => { cls := o.cls, dict := some s.heap.objs.size, data := o.data, slots := o.slots }).get? x = some (excObj C t (some s.heap.objs.size)) := Heap.get?_update_self _ x1 rfl
  show wpAny _ _ (storeInDict s.heap.objs.size (.str name s.toks) name v) _ _ _
  unfold storeInDict newKeyGuard
  refine wpAny_bind (wpAny_pure (wpAny_bind (wpAny_nsSet1 (Heap.Ns1.of_empty gn) fun h' n1 sb => ?_)))
  obtain ⟨oD, esD, epD, hoD, hdD, hcD⟩ := n1.count (Within.cons name v Within.nil)
  refine wpAny_bind (wpAny_lookBehind hoD (by rw [hdD]; exact pastItsLine_dict (Nat.le_trans hcD (by rw [List.length_cons, List.length_nil, sizeLine_eq]; omega))) ?_)
  refine wpAny_pure (h h' _ ((sb.2 x hxs).trans gx) n1 fun b o hb e => ?_)
  exact (sb.2 b (Nat.ne_of_lt (Heap.lt_size e))).trans ((Heap.get?_update_ne _ _ _ _ hb).trans (Heap.get?_push_of_some _ e))
end
end L2
namespace L2
open PySem PySem.W PyProof.Rows Builtin Builtin.ObjectAttr
section
variable {prog : Program} {w : World} {A : Around} {E : Value → Shared → Prop} {s : Shared} {K : Frag} {x C : Addr} {ox : Obj} {od : Option Obj} {name : Str} {expr : Bool} {Q : Value → Shared → Prop}
theorem get_exc {v : Value} (X : K.In s.heap) (I : InstAt s.heap x ox C od) (hga : findIn K (.ref C) "__getattribute__" = some (some (.builtin "BaseException.__getattribute__"))) (hgt : findIn K (.ref C) "__getattr__" = some none) (hb : mroIn K C (.type "BaseException") = some true)
    (hf : findObj K C od name = some (.value v)) (hv : handedIn v = true) (h : Q v { s with toks := s.toks + 1 }) : wpAny (model prog w) A (getAttr (.ref x) name expr) Q E s := by
  obtain ⟨hh, g, d, t, os⟩ := s
  have L0 := I.type (M := model prog w)
  have L1 := looks_findIn (M := model prog w) X hga
  have L2 := looks_findIn (M := model prog w) X hgt
  have L3 := looks_find (M := model prog w) X I hf
  have sub : Looks (model prog w) hh (isInstance (.ref x) (.type "BaseException")) true := L0.andThen (looks_mroIn X hb)
  have x0 : (expr && onTheHeap (Value.builtin "BaseException.__getattribute__")) = false := by cases expr <;> rfl
  have x1 : (onTheHeap (Value.ref C) && Value.builtin "BaseException.__getattribute__" == Value.builtin "object.__getattribute__") = false := by
    rw [show (Value.builtin "BaseException.__getattribute__" == Value.builtin "object.__getattribute__") = false by decide +kernel, Bool.and_false]
  unfold getAttr getAttrBy
  refine wpAny_bind (wpAny_mkText (wpAny_holding (wpAny_bind (L0.at (wpAny_bind (L1.at ?_))))))
  dsimp only
  rw [x1]
  show wpAny _ _ (getAttrByItsOwn _ _ _ _ _ _) _ _ _
  unfold getAttrByItsOwn hookBefore
  refine wpAny_bind ?_
  show wpAny _ _ (typeLookup (.ref C) "__getattr__") _ _ _
  refine L2.at ?_
  refine wpAny_bind (wpAny_attempt (wpAny_holding ?_))
  unfold callGetattribute
  rw [x0]
  show wpAny _ _ (boundAndCalled _ _ _) _ _ _
  unfold boundAndCalled
  rw [PySem.F.attr_ValueError.ga.bind]
  refine wpAny_bind (wpAny_pure (wpAny_call ?_))
  refine codeAny_call_builtin PySem.F.attr_ValueError.ga.plain PySem.F.entry_bexc_ga (@check_slot (model prog w) _ _ _ "BaseException.__getattribute__" "BaseException" "__getattribute__" (.ref x) [.str name t] [] _ (by decide +kernel) (by decide +kernel) sub (PySem.F.args_bexc_ga (.ref x) (.str name t)) ?_)
  unfold Builtin.«object.__getattribute__»
  refine wpAny_bind (wpAny_pure (wpAny_bind (wpAny_pure (wpAny_bind (L0.at (wpAny_bind (L3.at ?_)))))))
  refine wpAny_pure ?_
  show wpAny _ _ (handedOut v) _ _ _
  rw [handedOut_of hv]
  exact wpAny_pure h
end
end L2
namespace L2
open PySem PySem.W PyProof.Rows Builtin Builtin.ObjectAttr
section
variable {prog : Program} {w : World} {A : Around} {E : Value → Shared → Prop} {s : Shared} {K : Frag} {x C : Addr} {ox : Obj} {od : Option Obj} {Q : Option Value → Shared → Prop}
theorem cls_exc (X : K.In s.heap) (I : InstAt s.heap x ox C od) (hga : findIn K (.ref C) "__getattribute__" = some (some (.builtin "BaseException.__getattribute__"))) (hgt : findIn K (.ref C) "__getattr__" = some none) (hb : mroIn K C (.type "BaseException") = some true)
    (hm : mroIn K C (.type "object") = some true) (hf : findObj K C od "__class__" = some (.bind (.builtin "getset_descriptor.__get__") (.builtin "object.__class__"))) (h : Q (some (.ref C)) { s with toks := s.toks + 1 }) : wpAny (model prog w) A (getAttr? (.ref x) "__class__") Q E s := by
  obtain ⟨hh, g, d, t, os⟩ := s
  have L0 := I.type (M := model prog w)
  have L1 := looks_findIn (M := model prog w) X hga
  have L2 := looks_findIn (M := model prog w) X hgt
  have L3 := looks_find (M := model prog w) X I hf
  have sub : Looks (model prog w) hh (isInstance (.ref x) (.type "BaseException")) true := L0.andThen (looks_mroIn X hb)
  have x1 : (onTheHeap (Value.ref C) && Value.builtin "BaseException.__getattribute__" == Value.builtin "object.__getattribute__") = false := by
    rw [show (Value.builtin "BaseException.__getattribute__" == Value.builtin "object.__getattribute__") = false by decide +kernel, Bool.and_false]
  unfold getAttr? getAttrBy? getAttrBy
  refine wpAny_bind (wpAny_mkText (wpAny_bind (wpAny_attempt (wpAny_holding (wpAny_bind (L0.at (wpAny_bind (L1.at ?_))))))))
  dsimp only
  rw [x1]
  show wpAny _ _ (getAttrByItsOwn _ _ _ _ _ _) _ _ _
  unfold getAttrByItsOwn hookBefore
  refine wpAny_bind ?_
  show wpAny _ _ (typeLookup (.ref C) "__getattr__") _ _ _
  refine L2.at ?_
  refine wpAny_bind (wpAny_attempt (wpAny_holding ?_))
  show wpAny _ _ (boundAndCalled _ _ _) _ _ _
  unfold boundAndCalled
  rw [PySem.F.attr_ValueError.ga.bind]
  refine wpAny_bind (wpAny_pure (wpAny_call ?_))
  refine codeAny_call_builtin PySem.F.attr_ValueError.ga.plain PySem.F.entry_bexc_ga (@check_slot (model prog w) _ _ _ "BaseException.__getattribute__" "BaseException" "__getattribute__" (.ref x) [.str "__class__" t] [] _ (by decide +kernel) (by decide +kernel) sub (PySem.F.args_bexc_ga (.ref x) (.str "__class__" t)) ?_)
  unfold Builtin.«object.__getattribute__»
  refine wpAny_bind (wpAny_pure (wpAny_bind (wpAny_pure (wpAny_bind (L0.at (wpAny_bind (L3.at ?_)))))))
  show wpAny _ _ (bindTo _ _ _ _) _ _ _
  unfold bindTo
  dsimp only
  refine wpAny_bind (wpAny_holding (wpAny_call (class_get (s := ⟨hh, g, d, t + 1, os⟩) X I hm ?_)))
  refine wpAny_pure ?_
  show wpAny _ _ (handedOut (.ref C)) _ _ _
  rw [handedOut_of rfl]
  exact wpAny_pure (wpAny_pure h)
end
end L2
namespace L2
open PySem PySem.W PyProof.Rows Builtin Builtin.ObjectAttr
section
variable {M : Model} {A : Around} {E : Value → Shared → Prop} {s : Shared} {K : Frag} {e C D : Addr} {oe : Obj} {b : Bool} {Q : Bool → Shared → Prop}
theorem exc_match {cd : ClassData} (X : K.In s.heap) (he : s.heap.get? e = some oe) (hc : oe.cls = .ref C) (hD : clsIn K D = some cd) (h1 : instIn K (.ref D) (.type "tuple") = some false) (h2 : mroIn K D (.type "BaseException") = some true) (h3 : mroIn K C (.ref D) = some b) (q : Q b s) :
    wpAny M A (excMatches (.ref e) (.ref D)) Q E s := by
  obtain ⟨hh, g, d, t, os⟩ := s
  have L1 := looks_instIn (M := M) X h1
  have L2 : Looks M hh (isType (.ref D)) true := by
    unfold clsIn at hD
    split at hD
    · rename_i ho
      intro A' Q' E' s' k q'
      unfold isType loadHead
      exact wpAny_bind (wpAny_loadPart (k _ _ (X _ _ ho)) (wpAny_pure q'))
    · cases hD
  have L3 := looks_mroIn (M := M) X h2
  have L4 : Looks M hh (typeOf (.ref e)) (.ref C) := hc ▸ (Looks.ld he).andThen .now
  have L5 := looks_mroIn (M := M) X h3
  unfold excMatches
  refine wpAny_bind (L1.at ?_)
  simp only [Bool.false_eq_true, if_false]
  refine wpAny_bind (wpAny_pure ?_)
  rw [List.forIn_cons]
  unfold isExcClass
  refine wpAny_bind (wpAny_bind (wpAny_bind (wpAny_bind (L2.at ?_))))
  simp only [if_true]
  refine L3.at ?_
  simp only [Bool.not_true, Bool.false_eq_true, if_false]
  refine wpAny_pure ?_
  dsimp only
  rw [List.forIn_nil]
  refine wpAny_pure (wpAny_bind (L4.at ?_))
  rw [List.forIn_cons]
  refine wpAny_bind (wpAny_bind (wpAny_bind (L5.at ?_)))
  cases b with
  | true =>
    simp only [if_true]
    exact wpAny_pure (wpAny_pure (wpAny_pure q))
  | false =>
    simp only [Bool.false_eq_true, if_false]
    refine wpAny_pure ?_
    dsimp only
    rw [List.forIn_nil]
    exact wpAny_pure (wpAny_pure q)
end
end L2
namespace L2
open PySem PySem.Spec PyProof.Rows
theorem ObjOk.ex {P : Program} {w : World} {H : Hp} {h : Heap} {a : Addr} {o : HO} (x : ObjOk P w H h a o) : ∃ u, h.get? a = some u := by
  cases o with
  | lst xs => obtain ⟨_, _, _, _, e⟩ := x; exact ⟨_, e⟩
  | tup xs => obtain ⟨_, _, _, o, e, _⟩ := x; exact ⟨_, e⟩
  | dK kvs => obtain ⟨_, _, _, _, o, _, _, e, _⟩ := x; exact ⟨_, e⟩
  | dT kvs => obtain ⟨_, _, _, _, o, _, _, e, _⟩ := x; exact ⟨_, e⟩
  | set S n => obtain ⟨o, _, _, _, e, _⟩ := x; exact ⟨_, e⟩
  | ins C dx fs => obtain ⟨_, _, _, e, _⟩ := x; exact ⟨_, e⟩
  | own y => obtain ⟨_, e⟩ := x; exact ⟨_, e⟩
  | xd fs => obtain ⟨_, ⟨_, _, _, e, _⟩, _⟩ := x; exact ⟨_, e⟩
  | rng lo hi => obtain ⟨_, _, _, e⟩ := x; exact ⟨_, e⟩
  | frz ob u => obtain ⟨e, _⟩ := x; exact ⟨_, e⟩
  | tbl ps => exact ⟨_, (show h.get? a = some _ from x)⟩
  | met f y => exact ⟨_, (show h.get? a = some _ from x)⟩
  | ext φ => obtain ⟨_, ⟨_, e⟩, _⟩ := x; exact ⟨_, e⟩
def Fly (P : Program) (w : World) : CXT := fun outer H s E e s' => ∃ (a t : Addr) (cls : Value) (od : Option Addr) (B : Heap) (H' : Hp), e = .ref a ∧ s'.os = s.os ∧ AllBare s'.gens ∧ Un (frs outer) [] H H' s.heap s'.heap ∧ HOk P w H' s'.heap ∧
  Heap.FlyingW B outer a cls (.ref t) s'.heap ∧ XD s'.heap a od ∧ H' a = none ∧ (∀ b o, H' b = some o → ∀ ob, s'.heap.get? b = some ob → B.get? b = some ob) ∧ (∀ b ob, s.heap.get? b = some ob → b ∉ frs outer → ∃ o2, B.get? b = some o2 ∧ (H b = none → o2 = ob)) ∧ E cls od H'
theorem fly_un {H H' : Hp} {h hs h2 B : Heap} {outer : List Env} (u : Un (frs outer) [] H H' h hs) (hl : hs.FunFrames B outer) (cov : ∀ b ob, h.get? b = some ob → b ∉ frs outer → ∃ o2, B.get? b = some o2 ∧ (H b = none → o2 = ob)) (kb : B.StaysIn h2) (us : hs.UpToSlots h2) : Un (frs outer) [] H H' h h2 where
  keep := fun b o q n hb _ => by
    obtain ⟨o2, e, z⟩ := cov b o q hb
    rw [← z n]
    exact kb b o2 e
  slot := fun b o q n hb hx => by
    obtain ⟨sl, e⟩ := u.slot b o q n hb hx
    obtain ⟨_, o', e', nf⟩ := hl.mem hb
    rw [e] at e'
    cases e'
    obtain ⟨sl', e2⟩ := us b _ e nf
    exact ⟨sl', e2⟩
  free := u.free
  there := fun b o q hx => by
    by_cases hb : b ∈ frs outer
    · obtain ⟨_, o', e', nf⟩ := hl.mem hb
      obtain ⟨sl', e2⟩ := us b _ e' nf
      exact ⟨_, e2⟩
    · obtain ⟨o2, e, _⟩ := cov b o q hb
      exact ⟨o2, kb b o2 e⟩
  tups := u.tups
  frzs := u.frzs
  tbls := u.tbls
theorem fly_hok {P : Program} {w : World} {H' : Hp} {hs h2 B : Heap} (ok : HOk P w H' hs) (c1 : ∀ b o, H' b = some o → ∀ ob, hs.get? b = some ob → B.get? b = some ob) (kb : B.StaysIn h2) : HOk P w H' h2 := fun a o e =>
  (ok a o e).stay (fun b u hb q => by
    rcases hb with z | z
    · subst z
      exact kb _ _ (c1 _ _ e u q)
    · exact kb _ _ (c1 _ _ z u q)) (fun _ q => q) fun _ _ q => q
theorem fly_cov {P : Program} {w : World} {H' : Hp} {hs h2 B : Heap} (ok : HOk P w H' hs) (c1 : ∀ b o, H' b = some o → ∀ ob, hs.get? b = some ob → B.get? b = some ob) (kb : B.StaysIn h2) : ∀ b o, H' b = some o → ∀ ob, h2.get? b = some ob → B.get? b = some ob := fun b o e ob q => by
  obtain ⟨u, hu⟩ := (ok b o e).ex
  have z := c1 b o e u hu
  rw [kb b u z] at q
  cases q
  exact z
section
variable {P : Program} {w : World} {K : PySem.W.Frag} {mg : Str → Option Value} {base : Heap} {N : List Str} {qual : Str} {scope : Scope} {f : Addr} {cd : Value} {A : Around} {outer : List Env} {s : Shared} {H : Hp} {E : XK}
end
def xo (C a : Addr) (od : Option Addr) : HO := .ext fun h => ∃ t, h.get? a = some (excObj C t od)
def del (H : Hp) (a : Addr) : Hp := fun b => if b = a then none else H b
theorem del_same {H : Hp} {a : Addr} : del H a a = none := by unfold del; rw [if_pos rfl]
theorem del_ne {H : Hp} {a b : Addr} (h : b ≠ a) : del H a b = H b := by unfold del; rw [if_neg h]
theorem xo_ok {P : Program} {w : World} {H : Hp} {h : Heap} {C a t : Addr} {od : Option Addr} (e : h.get? a = some (excObj C t od)) : ObjOk P w H h a (xo C a od) := ⟨⟨t, e⟩, ⟨_, e⟩, fun h1 h2 ⟨t', e'⟩ k => ⟨t', k _ e'⟩⟩
theorem xo_get {P : Program} {w : World} {H : Hp} {h : Heap} {C a : Addr} {od : Option Addr} (ok : HOk P w H h) (e : H a = some (xo C a od)) : ∃ t, h.get? a = some (excObj C t od) := (show ObjOk P w H h a (xo C a od) from ok a _ e).1
theorem Inv.drop {X : Cx} {pins : List (Addr × Obj)} {σ : St} {H : Hp} {s : Shared} {a : Addr} {φ : Heap → Prop} (I : Inv X pins σ H s) (hn : X.s₀.heap.objs.size ≤ a) (hx : H a = some (.ext φ)) : Inv X pins σ (del H a) s := by
  have ne : ∀ {b : Addr} {o : HO}, H b = some o → (∀ ψ, o ≠ .ext ψ) → b ≠ a := fun {b o} e n z => by
    rw [z, hx] at e
    exact n φ (Option.some.inj e).symm
  have non : ∀ {b : Addr}, H b = none → del H a b = none := fun {b} e => by
    by_cases z : b = a
    · rw [z]; exact del_same
    · rw [del_ne z]; exact e
  refine ⟨I.ok, I.os, I.bare, ⟨I.base.keep, I.base.slot, fun b o q n hb => non (I.base.free b o q n hb), I.base.there, fun b xs q => ?_, fun b o u q => ?_, fun b ps q => ?_⟩, I.loc, I.cell, non I.free, fun x c e => non (I.freeC x c e), fun p hp => ?_, fun b o e => ?_, I.len⟩
  · have z := I.base.tups b xs q
    rw [del_ne (ne z fun ψ e => by cases e)]
    exact z
  · have z := I.base.frzs b o u q
    rw [del_ne (ne z fun ψ e => by cases e)]
    exact z
  · obtain ⟨more, z⟩ := I.base.tbls b ps q
    exact ⟨more, by rw [del_ne (ne z fun ψ e => by cases e)]; exact z⟩
  · obtain ⟨p1, p2, p3, p4, p5⟩ := I.pin p hp
    exact ⟨p1, non p2, p3, p4, p5⟩
  · have hb : b ≠ a := fun z => by rw [z, del_same] at e; cases e
    rw [del_ne hb] at e
    refine (I.hok b o e).stay (fun c u _ q => q) (fun c q => ?_) fun c xs q => ?_
    · rw [del_ne (ne q fun ψ e => by cases e)]
      exact q
    · rw [del_ne (ne q fun ψ e => by cases e)]
      exact q
section
variable {P : Program} {w : World} {K : PySem.W.Frag} {mg : Str → Option Value} {base : Heap} {N : List Str} {qual : Str} {scope : Scope} {f : Addr} {cd : Value} {A : Around} {outer : List Env} {s : Shared} {H : Hp} {E : XK}
theorem fly_drop {pins : List (Addr × Obj)} {σ : St} {H1 : Hp} {s1 : Shared} {a C : Addr} {od : Option Addr} (I : Inv (cxOf (Fly P w) P w K mg base N qual scope f cd A outer s H E) pins σ H1 s1) (hs : s.heap.objs.size ≤ a) (ha : H1 a = some (xo C a od)) (q : E (.ref C) od (del H1 a)) :
    (cxOf (Fly P w) P w K mg base N qual scope f cd A outer s H E).xe (.ref a) s1 := by
  obtain ⟨t, et⟩ := xo_get I.hok ha
  have ID := I.drop hs ha
  have nfa : a ∉ frs (cxOf (Fly P w) P w K mg base N qual scope f cd A outer s H E).stack := fun z => by
    rw [I.stkFree a z] at ha
    cases ha
  have ff := I.stack
  have hin : ∀ env ∈ (cxOf (Fly P w) P w K mg base N qual scope f cd A outer s H E).stack, ∀ b, env.frame = some b → b ∈ a :: frs (cxOf (Fly P w) P w K mg base N qual scope f cd A outer s H E).stack := fun env he b hb => List.mem_cons_of_mem _ (List.mem_filterMap.mpr ⟨env, he, hb⟩)
  have ff2 := PySem.W.funFrames_hide (as := a :: frs (cxOf (Fly P w) P w K mg base N qual scope f cd A outer s H E).stack) ff hin
  have st : Heap.StaysIn (PySem.W.hideAll s1.heap (a :: frs (cxOf (Fly P w) P w K mg base N qual scope f cd A outer s H E).stack)) s1.heap := fun b o q => PySem.W.of_hideAll _ q
  have hid : (PySem.W.hideAll s1.heap (a :: frs (cxOf (Fly P w) P w K mg base N qual scope f cd A outer s H E).stack)).get? a = none := PySem.W.hideAll_none _ List.mem_cons_self
  have xd : XD s1.heap a od := ⟨_, et, rfl⟩
  have go : wpAny (model P w) (A.deeper (envOfC qual scope s.heap.objs.size f cd)) (leaving (envOfC qual scope s.heap.objs.size f cd) (.ref a))
      (fun _ s'' => ∃ h3, s'' = { s1 with heap := h3 } ∧ Heap.LeftW (PySem.W.hideAll s1.heap (a :: frs (cxOf (Fly P w) P w K mg base N qual scope f cd A outer s H E).stack)) (envOfC qual scope s.heap.objs.size f cd :: outer) a (.ref C) (.ref t) s1.heap h3) (fun _ _ => False) s1 :=
    wpAny_leaving_firstW (env := envOfC qual scope s.heap.objs.size f cd) (outer := outer) (a0 := .ref t) I.ok.frames ff2 rfl et st hid rfl rfl rfl fun h3 L3 => ⟨h3, rfl, L3⟩
  refine wpAny_mono (wp_xd (kpd_leaving _ _) xd go) (fun _ s'' hs => ?_) fun _ _ z => z.elim
  obtain ⟨⟨h3, e3, ⟨k1, ⟨_, _, k2⟩, k3, k4⟩⟩, xd3⟩ := hs
  subst e3
  obtain ⟨hp1, g1, d1, t1, os1⟩ := s1
  have un : Un (frs (cxOf (Fly P w) P w K mg base N qual scope f cd A outer s H E).stack) [a] (del H1 a) (del H1 a) hp1 h3 := by
    refine ⟨fun b o e n hb hx => k1 b o (PySem.W.hideAll_get _ e fun z => ?_), fun b o e n hb hx => ?_, fun _ _ _ n _ => n, fun b o e hx => ?_, fun _ _ e => e, fun _ _ _ e => e, fun _ ps e => ⟨#[], by rw [e]; simp⟩⟩
    · rcases List.mem_cons.mp z with y | y
      · exact hx (by rw [y]; exact List.mem_singleton.mpr rfl)
      · exact hb y
    · obtain ⟨_, o', e', nf⟩ := ff.mem hb
      rw [e] at e'
      cases e'
      exact k4 b o e nf
    · by_cases hb : b ∈ frs (cxOf (Fly P w) P w K mg base N qual scope f cd A outer s H E).stack
      · obtain ⟨_, o', e', nf⟩ := ff.mem hb
        obtain ⟨sl, e2⟩ := k4 b o' e' nf
        exact ⟨_, e2⟩
      · exact ⟨o, k1 b o (PySem.W.hideAll_get _ e fun z => by
          rcases List.mem_cons.mp z with y | y
          · exact hx (by rw [y]; exact List.mem_singleton.mpr rfl)
          · exact hb y)⟩
  have c1 : ∀ b o, del H1 a b = some o → ∀ ob, hp1.get? b = some ob → (PySem.W.hideAll hp1 (a :: frs (cxOf (Fly P w) P w K mg base N qual scope f cd A outer s H E).stack)).get? b = some ob := fun b o e ob eb => by
    have hb : b ≠ a := fun z => by rw [z, del_same] at e; cases e
    rw [del_ne hb] at e
    refine PySem.W.hideAll_get _ eb fun z => ?_
    rcases List.mem_cons.mp z with y | y
    · exact hb y
    · rw [I.stkFree b y] at e
      cases e
  have J := ID.call' (s' := ⟨h3, g1, d1, t1, os1⟩) (ch := [a]) rfl un (fly_hok ID.hok c1 k1) ID.bare (fun b z => by
    rw [List.mem_singleton.mp z]
    refine ⟨.inr hs, fun y => ?_, fun x c e y => ?_, fun p hp y => ?_⟩
    · rw [y, I.free] at ha
      cases ha
    · have := I.freeC x c e
      rw [y, ha] at this
      cases this
    · have := (I.pin p hp).2.1
      rw [y, ha] at this
      cases this)
  have eo : os1 = s.os := J.os
  subst eo
  refine ⟨a, t, .ref C, od, _, del H1 a, rfl, rfl, J.bare, J.base, J.hok, ⟨k1, hid, k2, k3⟩, xd3, del_same, fly_cov ID.hok c1 k1, fun b ob hb hf => ?_, q⟩
  have hlt : b ≠ (cxOf (Fly P w) P w K mg base N qual scope f cd A outer s H E).env.locals := fun z => by
    have h1 := Heap.lt_size hb
    have h2 := I.ok.above
    rw [z] at h1
    exact Nat.lt_irrefl _ (Nat.lt_of_lt_of_le h1 h2)
  have nba : b ≠ a := fun z => by
    have h1 := Heap.lt_size hb
    rw [z] at h1
    exact Nat.lt_irrefl _ (Nat.lt_of_lt_of_le h1 hs)
  have nst : b ∉ a :: frs (cxOf (Fly P w) P w K mg base N qual scope f cd A outer s H E).stack := fun z => by
    rcases List.mem_cons.mp z with y | y
    · exact nba y
    · rcases List.mem_cons.mp (I.stkSub b y) with x | x
      · exact hlt x
      · exact hf x
  obtain ⟨o', ho'⟩ := I.base.there b ob hb (by simp [cxOf])
  refine ⟨o', PySem.W.hideAll_get _ ho' nst, fun hn => ?_⟩
  have k := I.base.keep b ob hb hn hf (by simp [cxOf])
  rw [show hp1.get? b = some o' from ho'] at k
  exact Option.some.inj k
end
theorem Fun.okE {P : Program} {w : World} {K : PySem.W.Frag} {mg : Str → Option Value} {base : Heap} {x qual : Str} {st : Stmt} {f : Addr} {fd : FuncData} {N ps : List Str} {k : Nat} {sp : Sp} (F : Fun K x qual st f fd) (S : FnScope N ps (defScope st)) (len : ∀ vs H Q E, sp vs H Q E → vs.length = ps.length)
    (hbody : ∀ (cdv : Value) (A : Around) (outer : List Env) (s : Shared) (H : Hp) (vs : List V) (Q : VK) (E : XK), Room k (A.deeper (envOfC qual (defScope st) s.heap.objs.size f cdv)) → sp vs H Q E →
      ∃ t, PSs (cxOf (Fly P w) P w K mg base N qual (defScope st) f cdv A outer s H E) (defBody st) t ∧ t { nx := fun _ H' => Q .non H', rt := Q } (start N vs) H) : FnOk P w K mg base (Fly P w) (k + 1) f fd ps sp := by
  obtain ⟨oc, od, kV, doc, pm, an, cdv, ct, osl, rfl, lk, hcd⟩ := F.ex
  exact fn_of lk hcd S len fun A outer s H vs Q E hr hsp => hbody cdv A outer s H vs Q E hr hsp
abbrev veMro : List Value := [.type "ValueError", .type "Exception", .type "BaseException", .type "object"]
def ownIn (K : PySem.W.Frag) (C f : Addr) : Bool := match K.lookup C with
  | some ⟨.type "type", _, .cls cd, sl⟩ => (match cd.mro, sl.toList with
    | .ref C' :: bm, [_, _, _, _, some (.builtin n), _] => C' == C && n == "ValueError.__new__" && !cd.hasDel && PySem.W.tailIn K veMro bm && PySem.W.nsOkIn K cd.ns && PySem.W.nsIn K cd.ns "__init__" == some (some (.ref f))
    | _, _ => false)
  | _ => false
structure OwnAt (h : Heap) (C f : Addr) : Prop where
  out : ∃ bm ns nm qn bs hd sn sub ab col dd k0 k1 k2 k3 k5, h.get? C = some (excClassObj nm qn C ns bs bm hd sn sub ab col dd k0 k1 k2 k3 k5 "ValueError.__new__") ∧ OwnTail h veMro bm ∧ h.Ns ns (h.nsMap ns) ∧ h.nsMap ns "__init__" = some (.ref f)
theorem ns_some {K : PySem.W.Frag} {h : Heap} {N : Addr} {m : Str → Option Value} {n : Str} {v : Value} (X : K.In h) (G : h.Ns N m) (e : PySem.W.nsIn K N n = some (some v)) : m n = some v := by
  obtain ⟨o, es, ep, ho, hd, _, hf⟩ := G
  unfold PySem.W.nsIn at e
  split at e
  · rename_i c d es' n' sl q
    have z := X _ _ q
    rw [ho] at z
    cases z
    cases hd
    split at e
    · rename_i en he
      rw [← hf]
      unfold nsFind findBy
      rw [← Array.find?_toList, he]
      cases e
      rfl
    · split at e <;> cases e
  · cases e
theorem ownAt_of {K : PySem.W.Frag} {h : Heap} {C f : Addr} (X : K.In h) (q : ownIn K C f = true) : OwnAt h C f := by
  unfold ownIn at q
  split at q
  · rename_i dd cd sl ho
    split at q
    · rename_i C' bm k0 k1 k2 k3 n k5 hm hs
      simp only [Bool.and_eq_true, beq_iff_eq, Bool.not_eq_true'] at q
      obtain ⟨⟨⟨⟨⟨rfl, rfl⟩, hdel⟩, ht⟩, hok⟩, hni⟩ := q
      obtain ⟨nm, bs, mro, ns, qn, hd, sn, sub, ab, col, dl⟩ := cd
      dsimp only at hm hdel hok hni
      subst hm hdel
      have hsl : sl = #[k0, k1, k2, k3, some (.builtin "ValueError.__new__"), k5] := by
        obtain ⟨l⟩ := sl
        simp only at hs
        rw [hs]
      subst hsl
      have hN : h.Ns ns (h.nsMap ns) := .of_isNs (PySem.W.isNs_of_in X hok)
      exact ⟨bm, ns, nm, qn, bs, hd, sn, sub, ab, col, dd, k0, k1, k2, k3, k5, X _ _ ho, PySem.W.tail_of_in X ht, hN, ns_some X hN hni⟩
    · cases q
  · cases q
end L2
namespace L2
open PySem PySem.Spec PyProof.Rows
section
variable {P : Program} {w : World} {K : PySem.W.Frag} {mg : Str → Option Value} {base : Heap} {N : List Str} {qual : Str} {scope : Scope} {f : Addr} {cd : Value} {A : Around} {outer : List Env} {s₀ : Shared} {H₀ : Hp} {E : XK}
  {C fI : Addr} {dI : FuncData} {ps : List Str} {sp : Sp} {k : Nat} {x : Str} {np cpos pos : Pos} {e : Expr} {es : List Expr} {t : TA}
def sRaiseI (C : Addr) (sp : Sp) (E : XK) (t : TA) : TS := fun _ σ H => t σ H fun vs H1 => vs.length ≤ 1000 ∧ ∀ a, H1 a = none → sp (.ref a :: vs) (upd H1 a (xo C a none)) (fun v H2 => v = .non ∧ ∃ dx, H2 a = some (xo C a (some dx)) ∧ E (.ref C) (some dx) (del H2 a)) E0
theorem ps_raiseI (O : ownIn K C fI = true) (hfn : PySem.W.isFn K (.ref fI) = true) (kp : PySem.W.keepIn K (.ref C) = true) (G : FnOk P w K mg base CX0 k fI dI ps sp) (hr : Room (k + 1) (cxOf (Fly P w) P w K mg base N qual scope f cd A outer s₀ H₀ E).A)
    (hg : Gl (cxOf (Fly P w) P w K mg base N qual scope f cd A outer s₀ H₀ E) x) (hm : mg x = some (.ref C)) (hb : Binds K dI ps []) (ha : PA (cxOf (Fly P w) P w K mg base N qual scope f cd A outer s₀ H₀ E) (e :: es) t) (hdb : (x == ("__debug__" : Str)) = false := by decide)
    (he : starEach (e :: es) (cxOf (Fly P w) P w K mg base N qual scope f cd A outer s₀ H₀ E).env = (false, eval e (cxOf (Fly P w) P w K mg base N qual scope f cd A outer s₀ H₀ E).env) :: starEach es (cxOf (Fly P w) P w K mg base N qual scope f cd A outer s₀ H₀ E).env := by rfl)
    (hpl : (backTo cpos (starEach es (cxOf (Fly P w) P w K mg base N qual scope f cd A outer s₀ H₀ E).env)).any (·.1) = false := by rfl) :
    PS (cxOf (Fly P w) P w K mg base N qual scope f cd A outer s₀ H₀ E) (.Raise (some (.Call (.Name x np) (e :: es) [] cpos)) none pos) (sRaiseI C sp E t) := by
  intro pins s σ H D I h
  obtain ⟨bm, ns, nm, qn, bs, hd, sn, sub, ab, col, dd, k0, k1, k2, k3, k5, hC0, hT0, hN0, hi0⟩ := (ownAt_of I.ok.mod.kin O).out
  have hbase : bm.contains (.type "BaseException") = true := hT0.hasType (by decide +kernel)
  refine raise_own (C := C) (nm := nm) (q := qn) (N := ns) (bs := bs) (bm := bm) (hdct := hd) (sn := sn) (sub := sub) (ab := ab) (col := col) (dd := dd) (k0 := k0) (k1 := k1) (k2 := k2) (k3 := k3) (k5 := k5) (newId := "ValueError.__new__") hbase (I.ok.hd rfl) ?_
  refine wpAny_Call_Name_kw (ld_glob I hg hm ?_ hdb)
  refine PySem.W.callWith_K (h₀ := base) I.ok.mod.kin kp (thn (ha cpos pins s σ H _ I h) fun us s1 ⟨vs, H1, I1, r, hvl, q⟩ => ⟨I1.kIn, ?_⟩) he hpl
  have hl1 := r.length
  have kb := I1.bk
  obtain ⟨oF, hoF, hcF⟩ := Option.map_eq_some_iff.mp (beq_iff_eq.mp hfn)
  have hq := q (s1.heap.objs.size + 1) (I1.hok.fresh (Nat.le_succ _))
  have hz : us.length ≤ sizeLine := by
    rw [← hl1]
    exact Nat.le_of_lt (Nat.lt_of_le_of_lt hvl (by decide))
  have x1 : ((s1.heap.push (tupObj us)).push (excObj C s1.heap.objs.size none)).get? (s1.heap.objs.size + 1) = some (excObj C s1.heap.objs.size none) := by
    have z := Heap.get?_push_size (s1.heap.push (tupObj us)) (o := excObj C s1.heap.objs.size none) rfl
    rwa [Heap.size_push] at z
  have IA := I1.kept (h' := s1.heap.push (tupObj us)) (t' := s1.toks) fun b u e => Heap.get?_push_of_some _ e
  have I2 := IA.laid (a := s1.heap.objs.size + 1) (o := xo C (s1.heap.objs.size + 1) none) (h' := (s1.heap.push (tupObj us)).push (excObj C s1.heap.objs.size none)) (t' := s1.toks) (fun b u e => Heap.get?_push_of_some _ e) (Nat.le_of_eq (Heap.size_push _ _)) (xo_ok x1)
  have r2 : Vals (V.ref (s1.heap.objs.size + 1) :: vs) (Value.ref (s1.heap.objs.size + 1) :: us) := .cons rfl r
  have hl : (Value.ref (s1.heap.objs.size + 1) :: us).length = ps.length := by
    have e := r2.length
    rw [G.len _ _ _ _ hq] at e
    exact e.symm
  obtain ⟨hp1, g1, d1, t1, os1⟩ := s1
  refine call_own PySem.F.excBase_ValueError (by decide +kernel) PySem.F.excBase_ValueError (hT0.keeps kb) (kb _ _ hC0) (hN0.keeps kb) hi0 (I1.kIn _ _ hoF) hcF ?_ hz
  have hb2 := hb ⟨(hp1.push (tupObj us)).push (excObj C hp1.objs.size none), g1, d1, t1, os1⟩ (Value.ref (hp1.objs.size + 1) :: us) I2.kIn (by rw [List.append_nil]; exact hl)
  rw [List.append_nil] at hb2
  refine codeAny_mono (G.run _ (cxOf (Fly P w) P w K mg base N qual scope f cd A outer s₀ H₀ E).stack ⟨(hp1.push (tupObj us)).push (excObj C hp1.objs.size none), g1, d1, t1, os1⟩ _ ⟨Value.ref (hp1.objs.size + 1) :: us, []⟩ (Value.ref (hp1.objs.size + 1) :: us) _ _ E0 (hr.make C us []) (I2.env0.make C us []) hb2 r2 hq) fun r s' hq' => ?_
  cases r with
  | error e => exact hq'.elim
  | ok fl =>
    cases fl with
    | ret u =>
      obtain ⟨v, H', I3, rv, ev, dx, ha3, q3⟩ := I2.after hq'
      subst ev
      obtain ⟨t3, e3⟩ := xo_get I3.hok ha3
      refine ⟨rv, _, t3, some dx, rfl, I3.bk _ _ hC0, e3, fly_drop I3 ?_ ha3 q3⟩
      exact Nat.le_trans I1.sz (Nat.le_succ _)
    | next => exact hq'.elim
    | brk => exact hq'.elim
    | cont => exact hq'.elim
end
structure ExcC (K : PySem.W.Frag) (C : Addr) : Prop where
  ov : excOver K C = true
  sa : PySem.W.findIn K (.ref C) "__setattr__" = some (some (.builtin "object.__setattr__"))
  ga : PySem.W.findIn K (.ref C) "__getattribute__" = some (some (.builtin "BaseException.__getattribute__"))
  gt : PySem.W.findIn K (.ref C) "__getattr__" = some none
  mb : PySem.W.mroIn K C (.type "BaseException") = some true
  mo : PySem.W.mroIn K C (.type "object") = some true
  cl : PySem.W.findIn K (.ref C) "__class__" = some (some (.builtin "object.__class__"))
  cg : PySem.W.specialIn K (.builtin "object.__class__") "__get__" = some (some (.builtin "getset_descriptor.__get__"))
  ct : PySem.W.takesIn K (.builtin "object.__class__") = some true
section
variable {X : Cx} {o value : Expr} {fl : Str} {pos pos' : Pos} {ta tv : TE}
def sFldX (K : PySem.W.Frag) (ta tv : TE) (fl : Str) : TS := fun D σ H => tv σ H fun y H1 => ta σ H1 fun x H2 => ∃ a C, x = .ref a ∧ H2 a = some (xo C a none) ∧ ExcC K C ∧ PySem.W.findIn K (.ref C) fl = some none ∧ ∀ dx, H2 dx = none → D.nx σ (upd (upd H2 dx (.xd [(fl, y)])) a (xo C a (some dx)))
theorem ps_fldX (ha : PE X o ta) (hv : PE X value tv) (hs : swapsWith value (some (.Attribute o fl pos')) pos.line X.env = pure false) : PS X (.Assign [.Attribute o fl pos'] value pos) (sFldX X.K ta tv fl) := by
  intro pins s σ H D I h
  refine plainObj_wpAny_Assign_Attribute (thn (hv pins s σ H _ I h) fun u s1 ⟨y, H1, I1, ry, q⟩ => thn (ha pins s1 σ H1 _ I1 q) fun ov s2 ⟨x, H2, I2, rx, a, C, ex, ea, ec, hf, q2⟩ => ?_) hs
  subst ex
  obtain rfl : ov = Value.ref a := rx
  obtain ⟨t, et⟩ := xo_get I2.hok ea
  refine set_exc I2.kIn et ec.ov hf ec.sa fun h' tk hx' hn' kp => ?_
  have fr : H2 s2.heap.objs.size = none := I2.hok.fresh (Nat.le_refl _)
  have nda : s2.heap.objs.size ≠ a := fun z => by rw [z, ea] at fr; cases fr
  have ne : ∀ {b : Addr} {o : HO}, H2 b = some o → (∀ ψ, o ≠ .ext ψ) → b ≠ a := fun {b o} e n z => by
    rw [z, ea] at e
    exact n _ (Option.some.inj e).symm
  refine ⟨σ, _, I2.un (h' := h') (t' := tk) (H' := upd (upd H2 s2.heap.objs.size (.xd [(fl, y)])) a (xo C a (some s2.heap.objs.size))) ⟨fun b o e n _ _ => kp b o (fun z => by rw [z, ea] at n; cases n) e, fun b o e n _ _ => ⟨o.slots, kp b o (fun z => by rw [z, ea] at n; cases n) e⟩, fun b o e n _ => ?_, fun b o e _ => ?_, fun b xs e => ?_, fun b o u e => ?_, fun b ps e => ⟨#[], ?_⟩⟩ (fun b o e => ?_), q2 _ fr⟩
  · rw [upd_ne (fun z => by rw [z, ea] at n; cases n), upd_ne (Nat.ne_of_lt (Heap.lt_size e))]
    exact n
  · by_cases z : b = a
    · rw [z]; exact ⟨_, hx'⟩
    · exact ⟨o, kp b o z e⟩
  · rw [upd_ne (ne e fun ψ z => by cases z), upd_ne (ne_of_none e fr)]
    exact e
  · rw [upd_ne (ne e fun ψ z => by cases z), upd_ne (ne_of_none e fr)]
    exact e
  · rw [upd_ne (ne e fun ψ z => by cases z), upd_ne (ne_of_none e fr), e]
    simp
  · by_cases z : b = a
    · subst z
      rw [upd_same] at e
      cases e
      exact xo_ok hx'
    · rw [upd_ne z] at e
      by_cases z2 : b = s2.heap.objs.size
      · subst z2
        rw [upd_same] at e
        cases e
        refine ⟨_, hn', fun g => ?_⟩
        show RelO (List.lookup g [(fl, y)]) (if g = fl then some u else none)
        rw [List.lookup_cons]
        by_cases eg : g = fl
        · rw [if_pos eg, show (g == fl) = true by simpa using eg]
          exact ry
        · rw [if_neg eg, show (g == fl) = false by simpa using eg]
          exact True.intro
      · rw [upd_ne z2] at e
        refine (I2.hok b o e).stay (fun c v hc q => kp c v ?_ q) (fun c q => ?_) fun c xs q => ?_
        · rcases hc with y1 | y1
          · rw [y1]; exact z
          · exact ne y1 fun ψ z => by cases z
        · rw [upd_ne (ne q fun ψ z => by cases z), upd_ne (ne_of_none q fr)]
          exact q
        · rw [upd_ne (ne q fun ψ z => by cases z), upd_ne (ne_of_none q fr)]
          exact q
end
def xh (C a : Addr) (od : Option Addr) : HO := .ext fun h => ∃ o, h.get? a = some o ∧ o.cls = .ref C ∧ o.dict = od ∧ PySem.W.notCls o = true
theorem xh_get {P : Program} {w : World} {H : Hp} {h : Heap} {C a : Addr} {od : Option Addr} (ok : HOk P w H h) (e : H a = some (xh C a od)) : ∃ o, h.get? a = some o ∧ o.cls = .ref C ∧ o.dict = od ∧ PySem.W.notCls o = true := (show ObjOk P w H h a (xh C a od) from ok a _ e).1
theorem xh_ok {P : Program} {w : World} {H : Hp} {h : Heap} {C a : Addr} {od : Option Addr} {o : Obj} (e : h.get? a = some o) (hc : o.cls = .ref C) (hd : o.dict = od) (hn : PySem.W.notCls o = true) : ObjOk P w H h a (xh C a od) :=
  ⟨⟨o, e, hc, hd, hn⟩, ⟨_, e⟩, fun h1 h2 ⟨o', e', r⟩ k => ⟨o', k _ e', r⟩⟩
section
variable {X : Cx} {e : Expr} {fl : Str} {pos : Pos} {ta : TE}
def tFldX (K : PySem.W.Frag) (ta : TE) (fl : Str) : TE := fun σ H Q => ta σ H fun x H1 => ∃ a C dx fs v, x = .ref a ∧ H1 a = some (xh C a (some dx)) ∧ H1 dx = some (.xd fs) ∧ ExcC K C ∧ PySem.W.hasDictIn K C = true ∧ PySem.W.findIn K (.ref C) fl = some none ∧ fs.lookup fl = some v ∧ Q v H1
theorem pe_fldX (he : PE X e ta) (hb : attributeBase e fl X.env (eval e X.env) = eval e X.env) : PE X (.Attribute e fl pos) (tFldX X.K ta fl) := by
  intro pins s σ H Q I h
  refine attr_of hb (thn (he pins s σ H _ I h) fun ov s1 ⟨x, H1, I1, rx, a, C, dx, fs, v, ex, ea, ed, ec, hh, hf, l, q⟩ => ?_)
  subst ex
  obtain rfl : ov = Value.ref a := rx
  obtain ⟨o, e1, e2, e3, e4⟩ := xh_get I1.hok ea
  obtain ⟨mA, n1, r1⟩ := (show ObjOk X.prog X.w H1 s1.heap dx (.xd fs) from I1.hok dx _ ed)
  obtain ⟨od, ho, hl⟩ := lookIn_ns n1
  obtain ⟨u, hu, ru⟩ := RelO.some_of (v := v) (o := mA fl) (by rw [← l]; exact r1 fl)
  have IA : PySem.W.InstAt s1.heap a o C (some od) := ⟨e1, e2, e4, by rw [e3]; exact ho⟩
  exact get_exc I1.kIn IA ec.ga ec.gt ec.mb (PySem.W.findObj_own hh hf rfl (by rw [hl, hu])) (handed_of ru) ⟨v, H1, I1.tok _, ru, q⟩
theorem findObj_cls {K : PySem.W.Frag} {C : Addr} {od : Option Obj} (ec : ExcC K C) : PySem.W.findObj K C od "__class__" = some (.bind (.builtin "getset_descriptor.__get__") (.builtin "object.__class__")) := by
  obtain ⟨cd, hc, _⟩ := PySem.W.any_some ec.ov
  unfold PySem.W.findObj
  rw [hc, Option.bind_some, ec.cl, Option.bind_some]
  dsimp only
  rw [ec.cg, Option.bind_some]
  dsimp only
  rw [ec.ct, Option.bind_some]
theorem kitx_exc {K : PySem.W.Frag} {x C : Addr} (ec : ExcC K C) : PySem.W.KitX K (.ref x) (.ref C) (fun h => ∃ ox od, PySem.W.InstAt h x ox C od) where
  ty := fun _ _ _ ⟨_, _, I⟩ => I.type
  it := fun _ _ X _ => by
    obtain ⟨cdD, hcD, _⟩ := PySem.W.any_some ec.ov
    unfold PySem.W.clsIn at hcD
    split at hcD
    · rename_i c' d' cd' sl' ho
      intro A' Q' E' s' k q
      unfold isType loadHead
      exact wpAny_bind (wpAny_loadPart (k _ _ (X _ _ ho)) (wpAny_pure q))
    · cases hcD
  ne := fun h tp dd its n sl X htp => by
    obtain ⟨cdD, hcD, _⟩ := PySem.W.any_some ec.ov
    refine Bool.eq_false_iff.mpr fun q => ?_
    have e : C = tp := Value.ref.inj (beq_iff_eq.mp q)
    subst e
    unfold PySem.W.clsIn at hcD
    split at hcD
    · rename_i c' d' cd' sl' ho
      have z := (X _ _ ho).symm.trans htp
      cases z
    · cases hcD
  ca := fun X ⟨_, _, I⟩ k => cls_exc X I ec.ga ec.gt ec.mb ec.mo (findObj_cls ec) k
end
end L2
namespace L2
open PySem PySem.Spec PyProof.Rows
abbrev Cx.hot (X : Cx) (e : Value) : Cx := { X with A := X.A.mark (some e), calm := false, xe := fun _ _ => False }
section
variable {X : Cx} {pins : List (Addr × Obj)} {σ : St} {H : Hp} {s : Shared}
theorem Inv.hot (I : Inv X pins σ H s) (e : Value) : Inv (X.hot e) pins σ H s :=
  let ok := I.ok
  ⟨⟨ok.mod, ok.kind, ok.glob, ok.blt, ok.above, ok.inj, ok.has, ok.cab, fun z => absurd z Bool.false_ne_true, ok.frames, ok.stk, ok.exf, ok.bs, ok.bsz, ok.noex, ok.exfs, ok.funs, ok.frf⟩, I.os, I.bare, I.base, I.loc, I.cell, I.free, I.freeC, I.pin, I.hok, I.len⟩
theorem Inv.unhot {e : Value} (ok : X.Ok) (I : Inv (X.hot e) pins σ H s) : Inv X pins σ H s := ⟨ok, I.os, I.bare, I.base, I.loc, I.cell, I.free, I.freeC, I.pin, I.hok, I.len⟩
theorem name_goes {M : Model} {A : Around} {E : Value → Shared → Prop} {i : Nat} {n : Str} {pos : Pos} {Q : Unit → Shared → Prop} (I : Inv X pins σ H s) (hN : X.N.Nodup) (hi : X.N[i]? = some n) (hk : X.env.kindOf n = some .local) (h : ∀ s', Inv X pins (σ.set i none) H s' → Q () s') :
    wpAny M A (do bindName X.env n .none; unbindBehindTheSuite X.env n pos) Q E s := by
  obtain ⟨m, hn, hl⟩ := id I.loc
  have hcls : (X.env.scope.kind == .class || (X.env.scope.kind == .module && X.env.locals != X.env.globals)) = false := by rw [I.ok.kind]; rfl
  have cne := I.cne
  have hiσ : i < σ.length := by rw [I.len]; exact (List.getElem?_eq_some_iff.mp hi).1
  refine wpAny_bind (wpAny_bindName (wpAny_storeName_local hk hn (fun h1 hn1 hs1 => ?_) hcls))
  unfold unbindBehindTheSuite
  refine wpAny_onRaise ?_
  unfold unbindName
  refine wpAny_bind (wpAny_point (wpAny_bind ?_))
  unfold deleteName
  simp only [hk, hcls]
  rw [if_neg (by decide)]
  refine wpAny_bind (wpAny_nsDel_keeps hn1 fun h2 v hn2 hs2 => ?_)
  simp only [if_true, Option.isSome_some, Bool.not_true, Bool.false_eq_true, if_false]
  refine wpAny_pure (wpAny_point ?_)
  have hs := hs1.trans hs2
  obtain ⟨oL, _, _, hoL, _⟩ := id hn
  refine h _ ⟨I.ok, I.os, I.bare, ⟨fun b o e n hb hx => ?_, fun b o e n hb hx => ?_, I.base.free, fun b o e hx => ?_, I.base.tups, I.base.frzs, I.base.tbls⟩, ⟨_, hn2, fun j y v' e1 e2 e3 => ?_⟩, fun y c e => ?_, I.free, I.freeC, fun p hp => ?_, fun b ob e => ?_, by simpa using I.len⟩
  · exact (hs.2 b (Nat.ne_of_lt (Nat.lt_of_lt_of_le (Heap.lt_size e) I.ok.above))).trans (I.base.keep b o e n hb hx)
  · obtain ⟨sl, e1⟩ := I.base.slot b o e n hb hx
    exact ⟨sl, (hs.2 b (Nat.ne_of_lt (Nat.lt_of_lt_of_le (Heap.lt_size e) I.ok.above))).trans e1⟩
  · obtain ⟨o', e1⟩ := I.base.there b o e hx
    exact ⟨o', (hs.2 b (Nat.ne_of_lt (Nat.lt_of_lt_of_le (Heap.lt_size e) I.ok.above))).trans e1⟩
  · by_cases hj : j = i
    · subst hj
      rw [List.getElem?_set_self hiσ] at e2
      cases e2
    · rw [List.getElem?_set_ne (Ne.symm hj)] at e2
      obtain ⟨u', r', q⟩ := hl j y v' e1 e2 e3
      refine ⟨u', r', ?_⟩
      rcases q with ⟨k, e⟩ | ⟨k, c, e, z⟩
      · refine .inl ⟨k, ?_⟩
        have : y ≠ n := fun e => hj (nodup_ix hN e1 (e ▸ hi))
        simp [this, e]
      · exact .inr ⟨k, c, e, z.sameBut hs (cne y c e)⟩
  · obtain ⟨w', z⟩ := I.cell y c e
    exact ⟨w', z.sameBut hs (cne y c e)⟩
  · obtain ⟨e, n, ne, nf, d⟩ := I.pin p hp
    exact ⟨(hs.2 p.1 ne).trans e, n, ne, nf, d⟩
  · refine (I.hok b ob e).stay (fun c w' hc q => (hs.2 c ?_).trans q) (fun _ q => q) fun _ _ q => q
    rintro rfl
    rcases hc with rfl | hc
    · rw [I.free] at e; cases e
    · rw [I.free] at hc; cases hc
end
structure CatC (K : PySem.W.Frag) (D : Addr) : Prop where
  cd : ∃ cd, PySem.W.clsIn K D = some cd
  tp : PySem.W.instIn K (.ref D) (.type "tuple") = some false
  be : PySem.W.mroIn K D (.type "BaseException") = some true
def xSet (i : Nat) (D : Ends) : Ends := { nx := fun σ H => D.nx (σ.set i none) H, rt := fun _ _ => False }
section
variable {X : Cx} {k : Nat} {f C1 C2 : Addr} {fd : FuncData} {ps : List Str} {sp : Sp} {x y n c1 c2 : Str} {p yp pos apos np1 np2 hp1 hp2 tpos : Pos} {e : Expr} {es : List Expr} {t : TA} {T1 T2 : TS} {b1 b2 : Stmt} {su1 su2 : List Stmt} {iy i : Nat}
theorem suite_runs {C a : Addr} {od : Option Addr} {T : TS} {b : Stmt} {su : List Stmt} {hp : Pos} {B : Heap} {t0 : Value} {H' : Hp} {pins : List (Addr × Obj)} {σ : St} {s5 : Shared} {D : Ends}
    (hN : X.N.Nodup) (hi : X.N[i]? = some n) (hk : X.env.kindOf n = some .local) (hs : PSs (X.hot (.ref a)) (b :: su) T) (ok : X.Ok)
    (J : ∀ s6 : Shared, s6.gens = s5.gens → s6.os = s5.os → Heap.FlyingW B X.stack a (.ref C) t0 s6.heap → s5.heap.UpToSlots s6.heap → XD s6.heap a od → Inv X pins σ (upd H' a (xh C a od)) s6) (fl : Heap.FlyingW B X.stack a (.ref C) t0 s5.heap) (xd : XD s5.heap a od)
    (q : T (xSet i D) (σ.set i (some (.ref a))) (upd H' a (xh C a od))) :
    codeAny (model X.prog X.w) (X.A.mark (some (.ref a))) (.handlers (.ref a) [.ExceptHandler none (some n) (b :: su) hp] X.env) (fun r s2 => match r with
          | .ok f => wpAny (model X.prog X.w) X.A (do bindName X.env n .none; unbindBehindTheSuite X.env n hp) (fun _ s3 => SP X pins D f s3) X.xe s2
          | .error x => cameBackBy (model X.prog X.w) X.A X.env X.xe x s2) s5 := by
  refine codeAny_handlers_suite_as ?_
  have go : wpAny (model X.prog X.w) (X.A.mark (some (.ref a))) (setFlight (.ref a) none) (fun _ s6 => ∃ h6, s6 = { s5 with heap := h6 } ∧ Heap.FlyingW B X.stack a (.ref C) t0 h6 ∧ s5.heap.UpToSlots h6) (fun _ _ => False) s5 := lands_againW fl fun h6 f6 u6 => ⟨h6, rfl, f6, u6⟩
  refine wpAny_mono (wp_xd (kpd_flight _ _) xd go) (fun _ s6 z => ?_) fun _ _ z => z.elim
  obtain ⟨⟨h6, e6, f6, u6⟩, x6⟩ := z
  subst e6
  have J6 := (J { s5 with heap := h6 } rfl rfl f6 u6 x6).hot (.ref a)
  refine store_ok (X := X.hot (.ref a)) (i := i) (v := .ref a) J6 hN hi (.inl hk) rfl (fun s7 I7 => ?_) (.inr hk)
  refine wpAny_mono (hs pins s7 _ _ (xSet i D) I7 q) (fun fl s8 z => ?_) fun _ _ z => z.elim
  cases fl with
  | next =>
    obtain ⟨σ8, H8, I8, q8⟩ := z
    exact name_goes (I8.unhot ok) hN hi hk fun s9 I9 => ⟨_, H8, I9, q8⟩
  | brk => obtain ⟨_, _, _, q8⟩ := z; exact q8.elim
  | cont => obtain ⟨_, _, _, q8⟩ := z; exact q8.elim
  | ret u => obtain ⟨_, _, _, _, _, q8⟩ := z; exact q8.elim
theorem fly_in {H1 H' : Hp} {h1 hs h2 B : Heap} {P : Program} {w : World} {a C : Addr} {a0 : Value} {od : Option Addr} {outer : List Env} (un : Un (frs outer) [] H1 H' h1 hs) (hok : HOk P w H' hs) (ffs : hs.FunFrames B outer) (na : H' a = none)
    (cc1 : ∀ b o, H' b = some o → ∀ ob, hs.get? b = some ob → B.get? b = some ob) (cc2 : ∀ b ob, h1.get? b = some ob → b ∉ frs outer → ∃ o2, B.get? b = some o2 ∧ (H1 b = none → o2 = ob)) (us : hs.UpToSlots h2) (fl : Heap.FlyingW B outer a (.ref C) a0 h2) (xd : XD h2 a od) :
    Un (frs outer) [] H1 (upd H' a (xh C a od)) h1 h2 ∧ HOk P w (upd H' a (xh C a od)) h2 := by
  obtain ⟨oe, ws, hoe, hoec, hoed, hoe0⟩ := fl.first
  have nh1 : ∀ o, h1.get? a ≠ some o := fun o eo => by
    by_cases hb : a ∈ frs outer
    · obtain ⟨_, o', e', nf⟩ := fl.2.2.1.mem hb
      rw [hoe] at e'
      cases e'
      exact nf _ hoed
    · obtain ⟨o2, e2, _⟩ := cc2 a o eo hb
      rw [fl.2.1] at e2
      cases e2
  have u := fly_un un ffs cc2 fl.1 us
  have ok := fly_hok hok cc1 fl.1
  have ne : ∀ {b : Addr} {o : HO}, H' b = some o → b ≠ a := fun {b o} e z => by rw [z, na] at e; cases e
  refine ⟨⟨u.keep, u.slot, fun b o eo n hx => ?_, u.there, fun b xs eo => ?_, fun b o uu eo => ?_, fun b ps eo => ?_⟩, fun b o eo => ?_⟩
  · rw [upd_ne (fun z : b = a => nh1 o (by rw [← z]; exact eo))]
    exact u.free b o eo n hx
  · have z := u.tups b xs eo
    rw [upd_ne (ne z)]
    exact z
  · have z := u.frzs b o uu eo
    rw [upd_ne (ne z)]
    exact z
  · obtain ⟨more, z⟩ := u.tbls b ps eo
    exact ⟨more, by rw [upd_ne (ne z)]; exact z⟩
  · by_cases z : b = a
    · subst z
      rw [upd_same] at eo
      cases eo
      obtain ⟨o', ho', hd'⟩ := xd
      rw [hoe] at ho'
      cases ho'
      exact xh_ok hoe hoec hd' (by unfold PySem.W.notCls; rw [hoed])
    · rw [upd_ne z] at eo
      exact (ok b o eo).stay (fun c v hc q => q) (fun c q => by rw [upd_ne (ne q)]; exact q) fun c xs q => by rw [upd_ne (ne q)]; exact q
end
end L2
namespace S2
open PySem L2
theorem Same.put {H H2 : Hp} {l : Addr} {o : HO} (s : Same H H2) (hn : H l = none) : Same H (upd H2 l o) := fun b u e => by
  rw [upd_ne (ne_of_none e hn)]
  exact s b u e
theorem get_lt {α : Type} {l : List α} {i : Nat} {x : α} (h : l[i]? = some x) : i < l.length := (List.getElem?_eq_some_iff.mp h).1
theorem small {n : Nat} (h : n ≤ 100000) : n < sizeLine := Nat.lt_of_le_of_lt h (by decide)
theorem smallE {n : Nat} (h : n ≤ 100000) : n ≤ sizeLine := Nat.le_of_lt (small h)
theorem atI_of {α : Type} {xs : List α} {z : Int} {j : Nat} {v : α} (e : z = (j : Int)) (h : xs[j]? = some v) : atI xs z = some v := by
  rw [e]
  exact atI_nat h
def gi (ns : List Int) (i : Nat) : Int := (ns[i]?).getD 0
theorem gi_at {ns : List Int} {i : Nat} (h : i < ns.length) : (ns.map V.int)[i]? = some (V.int (gi ns i)) := by
  unfold gi
  rw [List.getElem?_map, List.getElem?_eq_getElem h]
  rfl
theorem mod_nat {z : Int} {n : Nat} (h : 0 < n) : ∃ i : Nat, z % (n : Int) = (i : Int) ∧ i < n := by
  have h1 : 0 ≤ z % (n : Int) := Int.emod_nonneg _ (by omega)
  have h2 : z % (n : Int) < (n : Int) := Int.emod_lt_of_pos _ (by omega)
  exact ⟨(z % (n : Int)).toNat, by omega, by omega⟩
def cellsOf (i j : Nat) (ns : List Int) : List Int := (ns.drop (min i ns.length)).take (min j ns.length - min i ns.length)
theorem cells_len (i j : Nat) (ns : List Int) : (cellsOf i j ns).length ≤ j - i := by
  unfold cellsOf
  rw [List.length_take, List.length_drop]
  omega
theorem cells_cut (i j : Nat) (ns : List Int) : cutV (ns.map V.int) (some (i : Int)) (some (j : Int)) = (cellsOf i j ns).map V.int := by
  unfold cutV cellsOf
  have e1 := HT.sIx_nat (ns.map V.int).length 0 i
  have e2 := HT.sIx_nat (ns.map V.int).length (ns.map V.int).length j
  rw [e1, e2, List.length_map, List.map_take, List.map_drop]
theorem int_at {ns : List Int} {i : Nat} {y : V} (h : (ns.map V.int)[i]? = some y) : ∃ z, y = V.int z ∧ ns[i]? = some z := by
  rw [List.getElem?_map] at h
  cases e : ns[i]? with
  | none => rw [e] at h; cases h
  | some z => rw [e] at h; exact ⟨z, (Option.some.inj h).symm, rfl⟩
def spCell (K : PySem.W.Frag) : Sp := fun vs H Q _ => ∃ (a : Addr) (k : Nat) (ns : List Int), vs = [.ref a, .int k] ∧ SqL K H a (ns.map V.int) ∧ ns.length ≤ 63 ∧ ∀ z : Int, Q (.int z) H
def spNumbers : Sp := fun vs H Q _ => ∃ (c : Int) (m : Nat), vs = [.int c, .int m] ∧ m ≤ 100 ∧ ∀ (l : Addr) (ns : List Int) (H' : Hp), H l = none → Same H H' → H' l = some (.lst (ns.map V.int)) → ns.length = m → Q (.ref l) H'
theorem snoc_at {H : Hp} {l : Addr} {ns : List Int} {x : Int} : (upd H l (.lst (ns.map V.int ++ [V.int x]))) l = some (.lst ((ns ++ [x]).map V.int)) := by
  rw [upd_same, List.map_append]
  rfl
theorem snoc_len {α : Type} {ns : List α} {x : α} : (ns ++ [x]).length = ns.length + 1 := by rw [List.length_append]; rfl
theorem iteB {A B : Prop} {c : Bool} (h : c = true) (a : A) : if c = true then A else B := by rw [if_pos h]; exact a
theorem iteC {A B : Prop} {c : Bool} (h : c = false) (b : B) : if c = true then A else B := by rw [if_neg (by rw [h]; exact Bool.false_ne_true)]; exact b
theorem while_out {c : TT} {tb : TS} {D : Ends} {σ : St} {H : Hp} (W : Nat → St → Hp → Prop) {m0 : Nat} (h0 : W m0 σ H) (out : ∀ m σ H, W m σ H → D.nx σ H)
    (turn : ∀ R : St → Hp → Prop, (∀ m σ H, W m σ H → R σ H) → ∀ m σ H, W m σ H → c σ H fun b H1 => if b = true then ∃ N : St → Hp → Prop, (∀ σ' H', N σ' H' → ∃ m', m' < m ∧ W m' σ' H') ∧ tb { D with nx := N, ct := N, bk := D.nx } σ H1 else R σ H1) : tWhile c tb D σ H :=
  ⟨W, ⟨m0, h0⟩, turn D.nx out⟩
theorem nat_of {z : Int} {n : Nat} (h0 : 0 ≤ z) (h1 : z < (n : Int)) : ∃ i : Nat, z = (i : Int) ∧ i < n := ⟨z.toNat, by omega, by omega⟩
end S2
namespace L2
open PySem PySem.Spec PyProof.Rows
inductive EqD (K : PySem.W.Frag) (H : Hp) : Nat → V → V → Bool → Prop
  | flat {n : Nat} {x y : V} (fx : flatV x = true) (fy : flatV y = true) : EqD K H n x y (eqV x y)
  | same {n : Nat} {a : Addr} : EqD K H n (.ref a) (.ref a) true
  | lst {n : Nat} {a b : Addr} {xs ys : List V} (ne : a ≠ b) (hA : SqL K H a xs) (hB : SqL K H b ys) (hl : xs.length = ys.length) (e : Nat → Bool)
      (he : ∀ (j : Nat) (x y : V), xs[j]? = some x → ys[j]? = some y → EqD K H n x y (e j)) : EqD K H (n + 1) (.ref a) (.ref b) ((List.range xs.length).all e)
  | tup {n : Nat} {a b : Addr} {xs ys : List V} (ne : a ≠ b) (hA : SqT K H a xs) (hB : SqT K H b ys) (hl : xs.length = ys.length) (e : Nat → Bool)
      (he : ∀ (j : Nat) (x y : V), xs[j]? = some x → ys[j]? = some y → EqD K H n x y (e j)) : EqD K H (n + 1) (.ref a) (.ref b) ((List.range xs.length).all e)
theorem all_true_range (n : Nat) : ((List.range n).all fun _ => true) = true := List.all_eq_true.mpr fun _ _ => rfl
theorem eqV_same : ∀ {x : V}, flatV x = true → eqV x x = true
  | .non, _ => rfl
  | .bl b, _ => by show (b == b) = true; simp
  | .int i, _ => by show (i == i) = true; simp
  | .str z, _ => by show (z == z) = true; simp
  | .ref _, h => nomatch (show false = true from h)
theorem EqD.refl {K : PySem.W.Frag} {H : Hp} {n : Nat} {x : V} (h : flatV x = true) : EqD K H n x x true := by
  have := EqD.flat (K := K) (H := H) (n := n) h h
  rw [eqV_same h] at this
  exact this
section
variable {X : Cx}
theorem vals_at {xs : List V} {us : List Value} (r : Vals xs us) (j : Nat) (h1 : j < us.toArray.size) : ∃ x, xs[j]? = some x ∧ RelV x us.toArray[j] := by
  have l1 := r.length
  rw [List.size_toArray] at h1
  have g1 : j < xs.length := by omega
  obtain ⟨w1, q1, p1⟩ := r.get (i := j) (x := xs[j]) (by simp [g1])
  have s1 : us.toArray[j] = w1 := by
    rw [List.getElem?_eq_getElem h1] at q1
    simpa using q1
  exact ⟨xs[j], by simp [g1], by rw [s1]; exact p1⟩
theorem eqD_at {pins : List (Addr × Obj)} {σ : St} {H : Hp} {s : Shared} (I : Inv X pins σ H s) {n : Nat} {x y : V} {b : Bool} (h : EqD X.K H n x y b) :
    ∀ {A : Around} {u v : Value}, A.units + n < cLine → RelV x u → RelV y v → SeqAt.EqAt A s u v b := by
  induction h with
  | flat fx fy => intro A u v _ rx ry; exact eqAt_V rx ry fx fy
  | @same n a =>
    intro A u v _ rx ry
    obtain rfl : u = Value.ref a := rx
    obtain rfl : v = Value.ref a := ry
    exact SeqAt.EqAt.same _
  | @lst n a b xs ys ne hA hB hl e he ih =>
    intro A u v hu rx ry
    obtain rfl : u = Value.ref a := rx
    obtain rfl : v = Value.ref b := ry
    obtain ⟨its, r, pl, hz⟩ := I.list hA
    obtain ⟨its2, r2, pl2, hz2⟩ := I.list hB
    have l1 := r.length
    have l2 := r2.length
    have rc := SeqAt.RcAt.lists (A := A) (s := s) (e := e) pl.isList pl2.isList (by rw [List.size_toArray, List.size_toArray]; omega) (by omega) (fun j h1 h2 => by
      obtain ⟨x, ex, rx⟩ := vals_at r j h1
      obtain ⟨y, ey, ry⟩ := vals_at r2 j h2
      exact ih j x y ex ey (show A.units + 1 + n < cLine by omega) rx ry)
    rw [List.size_toArray, ← l1] at rc
    exact SeqAt.EqAt.of_refs ne rc
  | @tup n a b xs ys ne hA hB hl e he ih =>
    intro A u v hu rx ry
    obtain rfl : u = Value.ref a := rx
    obtain rfl : v = Value.ref b := ry
    obtain ⟨its, r, pl, hz⟩ := I.tuple hA
    obtain ⟨its2, r2, pl2, hz2⟩ := I.tuple hB
    have l1 := r.length
    have l2 := r2.length
    have rc := SeqAt.RcAt.tuples (A := A) (s := s) (e := e) pl pl2 (by omega) (fun j h1 h2 => by
      obtain ⟨x, ex, rx⟩ := vals_at r j h1
      obtain ⟨y, ey, ry⟩ := vals_at r2 j h2
      exact ih j x y ex ey (show A.units + 1 + n < cLine by omega) rx ry)
    have e1 : min its.toArray.size its2.toArray.size = xs.length := by rw [List.size_toArray, List.size_toArray]; omega
    have e2 : (its.toArray.size == its2.toArray.size) = true := by rw [List.size_toArray, List.size_toArray]; exact beq_iff_eq.mpr (by omega)
    rw [e1, e2, Bool.and_true] at rc
    exact SeqAt.EqAt.of_refs ne rc
def rDeep (K : PySem.W.Frag) (neg : Bool) : R2 := fun x y H Q => ∃ (a b : Addr) (xs ys : List V) (e : Nat → Bool), x = .ref a ∧ y = .ref b ∧ ((SqL K H a xs ∧ SqL K H b ys) ∨ (SqT K H a xs ∧ SqT K H b ys)) ∧ xs.length = ys.length ∧
  (∀ (j : Nat) (x y : V), xs[j]? = some x → ys[j]? = some y → EqD K H 8 x y (e j)) ∧ Q (.bl (if neg then !((List.range xs.length).all e) else (List.range xs.length).all e)) H
theorem op_neDeep (hu : X.A.units + 20 < cLine) : OpR X (compareOp .NotEq) (rDeep X.K true) := by
  intro pins s σ H x y v u Q I rx ry h
  obtain ⟨a, b, xs, ys, e, e1, e2, hS, hl, he, q⟩ := h
  subst e1 e2
  obtain rfl : v = Value.ref a := rx
  obtain rfl : u = Value.ref b := ry
  rcases hS with ⟨hA, hB⟩ | ⟨hA, hB⟩
  · obtain ⟨its, r, pl, hz⟩ := I.list hA
    obtain ⟨its2, r2, pl2, hz2⟩ := I.list hB
    have l1 := r.length
    have l2 := r2.length
    refine SeqAt.RcNeAt.lists (e := e) pl.isList pl2.isList (by rw [List.size_toArray, List.size_toArray]; omega) (by omega) (fun j h1 h2 => ?_) _ _ _ _ ⟨.bl _, H, I, rfl, ?_⟩
    · obtain ⟨x, ex, rx⟩ := vals_at r j h1
      obtain ⟨y, ey, ry⟩ := vals_at r2 j h2
      exact eqD_at I (he j x y ex ey) (show X.A.units + 1 + 8 < cLine by omega) rx ry
    · rw [List.size_toArray, ← l1]
      exact q
  · obtain ⟨its, r, pl, hz⟩ := I.tuple hA
    obtain ⟨its2, r2, pl2, hz2⟩ := I.tuple hB
    have l1 := r.length
    have l2 := r2.length
    refine SeqAt.RcNeAt.tuples (e := e) pl pl2 (by omega) (fun j h1 h2 => ?_) _ _ _ _ ⟨.bl _, H, I, rfl, ?_⟩
    · obtain ⟨x, ex, rx⟩ := vals_at r j h1
      obtain ⟨y, ey, ry⟩ := vals_at r2 j h2
      exact eqD_at I (he j x y ex ey) (show X.A.units + 1 + 8 < cLine by omega) rx ry
    · have e1 : min its.toArray.size its2.toArray.size = xs.length := by rw [List.size_toArray, List.size_toArray]; omega
      have e2 : (its.toArray.size == its2.toArray.size) = true := by rw [List.size_toArray, List.size_toArray]; exact beq_iff_eq.mpr (by omega)
      rw [e1, e2, Bool.and_true]
      exact q
end
end L2
namespace L2
open PySem PySem.Spec PyProof.Rows
abbrev Cx.compN (X : Cx) (N' : List Str) (scope : Scope) (cl : List (Str × Addr)) (C : Addr) (fp : List Addr) (s : Shared) (H : Hp) : Cx :=
  { X with N := N', s₀ := s, H₀ := H, env := compEnvC scope cl C X.env, outer := X.stack, ex := fp, fn := fun _ => false, pn := [], xe := fun _ _ => False }
structure CompScN (X : Cx) (k : Nat) (N' : List Str) (scope : Scope) : Prop where
  kind : scope.kind = .function
  cell : ∀ y ∈ scope.names, y.2 ≠ .cell
  names : ∀ y ∈ scope.names, y.2 = .local → scope.names.lookup y.1 = some .local
  free : ∀ y ∈ scope.names, y.2 = .free → X.env.kindOf y.1 = some .cell ∨ X.env.kindOf y.1 = some .free
  len : N'.length = k + X.N.length
  cap : ∀ i y, N'[k + i]? = some y → (X.N[i]? = some y ∧ capOk scope X.env y = true) ∨ scope.names.lookup y = none
theorem compN_inv {X : Cx} {k : Nat} {N' : List Str} {scope : Scope} {cl : List (Str × Addr)} {fp : List Addr} {pins : List (Addr × Obj)} {σ : St} {H : Hp} {s : Shared} {h' : Heap} {tk : Nat} {m : Str → Option Value} (S : CompScN X k N' scope) (I : Inv X pins σ H s)
    (hns : h'.Ns s.heap.objs.size m) (hk : ∀ b o, s.heap.get? b = some o → h'.get? b = some o) (hf : ∀ b ∈ fp, FpOk X pins H b) (ho : ∀ b ∈ fp, ∃ o, s.heap.get? b = some o)
    (hsub : ∀ y c, cl.lookup y = some c → X.env.cells.lookup y = some c) (hall : ∀ y ∈ scope.names, y.2 = .free → ∃ c, cl.lookup y.1 = some c) :
    Inv (X.compN N' scope cl s.heap.objs.size fp s H) (X.pn ++ pins) (List.replicate k none ++ σ) H { s with heap := h', toks := tk } := by
  refine ⟨⟨I.ok.mod, S.kind, I.ok.glob, I.ok.blt, Nat.le_refl _, fun y z c h1 h2 => I.ok.inj y z c (hsub y c h1) (hsub z c h2), fun y hy => ?_, fun y c hfn => absurd hfn Bool.false_ne_true, I.ok.hd, I.ok.frames, .inl rfl, fun b hb => ⟨?_, fun y c e => (hf b hb).2.2.2.2.1 y c (hsub y c e)⟩,
    I.bs, Nat.le_trans I.ok.bsz I.sz, fun b o e hb => ?_, fun b hb hs => ?_, I.stack, I.stkFree⟩, rfl, I.bare, Un.kept hk, ⟨m, hns, fun i y v e1 e2 e3 => ?_⟩, fun y c e => ?_, I.fresh, fun y c e => I.freeC y c (hsub y c e), fun p hp => ?_, I.hok.kept hk, ?_⟩
  · have hy' : ∃ k, (k = NameKind.cell ∨ k = NameKind.free) ∧ (relabel scope X.env).names.lookup y = some k := by
      rcases hy with z | z
      · exact ⟨_, .inl rfl, z⟩
      · exact ⟨_, .inr rfl, z⟩
    obtain ⟨k, hk', e⟩ := hy'
    obtain ⟨k0, e0, r⟩ := rel_look e
    have kf : k0 = .free := by
      rcases r with r | r
      · subst r
        rcases hk' with z | z
        · subst z
          exact absurd rfl (S.cell _ (PySem.mem_of_lookup e0))
        · exact z
      · exact r.1
    subst kf
    exact hall (y, .free) (free_mem e0) rfl
  · obtain ⟨o, e⟩ := ho b hb
    exact Nat.ne_of_lt (Heap.lt_size e)
  · rcases (hf b hb).2.2.2.1 with z | z
    · exact I.ok.noex b o e z
    · exact absurd (Nat.lt_of_lt_of_le (Heap.lt_size e) (Nat.le_trans I.ok.bsz z)) (Nat.lt_irrefl _)
  · rcases List.mem_cons.mp (I.stkSub b hs) with z | z
    · exact (hf b hb).2.1 z
    · exact (hf b hb).2.2.1 z
  · have e1q : N'[i]? = some y := e1
    by_cases hik : i < k
    · rw [List.getElem?_append_left (by simpa using hik), List.getElem?_replicate] at e2
      rw [if_pos hik] at e2
      cases e2
    obtain ⟨i, rfl⟩ : ∃ d, i = k + d := ⟨i - k, by omega⟩
    have e2' : σ[i]? = some (some v) := by
      rw [List.getElem?_append_right (by simp)] at e2
      simpa using e2
    have hvis : ∃ k, (relabel scope X.env).names.lookup y = some k := by
      rcases e3 with z | z | z
      · exact ⟨_, z⟩
      · exact ⟨_, z⟩
      · exact ⟨_, z⟩
    obtain ⟨k, ek⟩ := hvis
    obtain ⟨k0, e0, r⟩ := rel_look ek
    rcases S.cap i y e1q with ⟨e1', hc⟩ | z0
    case inr => rw [z0] at e0; cases e0
    unfold capOk at hc
    rw [e0] at hc
    have kf : k0 = .free := by cases k0 <;> simp_all
    subst kf
    have hkk : X.env.kindOf y = some .cell ∨ X.env.kindOf y = some .free := by simpa using hc
    obtain ⟨m0, hn0, hl0⟩ := I.loc
    obtain ⟨u, ru, l⟩ := hl0 i y v e1' e2' (.inr hkk)
    refine ⟨u, ru, .inr ?_⟩
    obtain ⟨c', hc'⟩ := hall (y, .free) (free_mem e0) rfl
    rcases l with ⟨z, _⟩ | ⟨_, c, ec, ⟨o, ho', hd'⟩⟩
    · rcases hkk with q | q <;> rw [z] at q <;> cases q
    · have e4 := hsub y c' hc'
      rw [ec] at e4
      have e5 : c = c' := Option.some.inj e4
      subst e5
      refine ⟨?_, c, hc', o, hk _ _ ho', hd'⟩
      rcases r with r | r
      · subst r
        exact .inr ek
      · obtain ⟨_, r⟩ := r
        subst r
        exact .inl ek
  · obtain ⟨v, o, ho', hd'⟩ := I.cell y c (hsub y c e)
    exact ⟨v, o, hk _ _ ho', hd'⟩
  · have hp' : p ∈ X.pn ++ pins := by simpa using hp
    obtain ⟨e, n, ne, nf, d⟩ := I.pin p hp'
    refine ⟨hk _ _ e, n, Nat.ne_of_lt (Heap.lt_size e), fun z => ?_, d⟩
    rcases List.mem_cons.mp (I.stkSub p.1 z) with q | q
    · exact ne q
    · exact nf q
  · show (List.replicate k none ++ σ).length = N'.length
    rw [S.len, List.length_append, List.length_replicate, I.len]
def CompGoN (J : It) (H1 : Hp) (k : Nat) (σ : St) (g : TG) (tt : TT) (te : TE) (Q : VK) : Prop := ∀ D, H1 D = none → ∃ W : Nat → Nat → Hp → Prop, (∃ m, W 0 m (upd H1 D (.lst []))) ∧ ∀ i m H, W i m H →
  (J.stop i H ∧ Q (.ref D) H) ∨ (J.go i H ∧ ∀ x H' ρ, ρ.length = k → J.yld i H x H' → g x (ρ ++ σ) H' fun σ2 H2 => (∃ ρ2 : St, ρ2.length = k ∧ σ2 = ρ2 ++ σ) ∧ tt σ2 H2 fun b H3 => if b = true then te σ2 H3 fun y H4 => ∃ ys, H4 D = some (.lst ys) ∧ ys.length < sizeLine ∧ ∃ m', m' < m ∧ W (i + 1) m' (upd H4 D (.lst (ys ++ [y])))
    else ∃ m', m' < m ∧ W (i + 1) m' H3)
def tCompN (wi : TI) (k : Nat) (g : TG) (tt : TT) (te : TE) : TE := fun σ H Q => wi σ H fun J H1 => CompGoN J H1 k σ g tt te Q
section
variable {X : Cx} {k : Nat} {N' : List Str} {tg : Expr} {pos : Pos} {elt iter : Expr} {ifs : List Expr} {scope : Scope} {wi : TI} {g : TG} {tt : TT} {te : TE}
theorem compN_core {pins : List (Addr × Obj)} {σ : St} {H2 : Hp} {s2 : Shared} {it : Addr} {fp : List Addr} {tn : Nat → Heap → Prop} {J : It} {Q : VK} {cl : List (Str × Addr)} {E : Value → Shared → Prop} {RR : Value → Addr → Result → Shared → Prop}
    (S : CompScN X k N' scope) (hcal : X.calm = true) (hclos : (∀ y c, cl.lookup y = some c → X.env.cells.lookup y = some c) ∧ ∀ y ∈ scope.names, y.2 = .free → ∃ c, cl.lookup y.1 = some c)
    (hg : ∀ cl C fp s H, PG (X.compN N' scope cl C fp s H) tg g) (ht : ∀ cl C fp s H, PTs (X.compN N' scope cl C fp s H) ifs tt) (he : ∀ cl C fp s H, PE (X.compN N' scope cl C fp s H) elt te)
    (I2 : Inv X pins σ H2 s2) (T : Turn X.prog X.w X.K tg J fp it tn) (st2 : tn 0 s2.heap) (f2 : ∀ b ∈ fp, FpOk X pins H2 b)
    (q : CompGoN J H2 k σ g tt te Q)
    (hRR : ∀ D C s' H' m', Inv X pins σ H' s' → s'.heap.Ns C m' → FpOk X pins H' C → Q (.ref D) H' → RR (.ref D) C (.ok .next) s') :
    wpAny (model X.prog X.w) X.A (newList []) (fun acc s3 => wpAny (model X.prog X.w) X.A (newFunctionEnv scope X.env.globals cl [] X.env.qual none .none (some X.env)) (fun cenv s4 =>
      codeAny (model X.prog X.w) X.A (.compStart (.ListComp elt [⟨tg, iter, ifs, 0⟩] scope pos) 0 (.ref it) acc { cenv with scope := relabel scope X.env }) (RR acc cenv.locals) s4) E s3) E s2 := by
  obtain ⟨hsub, hall⟩ := hclos
  refine wpAny_newObj_type (wpAny_newFunctionEnv S.cell (by intro y hy; simp at hy) (fun h1 hns hsb => ?_) S.kind)
  have I3 : Inv X pins σ (upd H2 s2.heap.objs.size (.lst [])) { s2 with heap := s2.heap.push { cls := .type "list", data := .seq ([] : List Value).toArray } } := I2.lnew (t' := s2.toks) .nil (by simp)
  have hD : H2 s2.heap.objs.size = none := I2.fresh
  obtain ⟨W, ⟨m0, w0⟩, turn⟩ := q _ hD
  generalize hs3 : ({ s2 with heap := s2.heap.push { cls := .type "list", data := .seq ([] : List Value).toArray } } : Shared) = s3 at I3
  have hs3' : ({ s2 with heap := s2.heap.push { cls := .type "list", dict := none, data := .seq ([] : List Value).toArray } } : Shared) = s3 := hs3
  dsimp only at hns hsb ⊢
  generalize hDD : s2.heap.objs.size = D at *
  have eh : s2.heap.push { cls := .type "list", dict := none, data := .seq ([] : List Value).toArray } = s3.heap := by rw [← hs3]
  rw [eh] at hns hsb
  have keep : ∀ b o, s3.heap.get? b = some o → h1.get? b = some o := fun b o e => hsb.extBut b o (Nat.ne_of_lt (Heap.lt_size e)) (Heap.get?_push_of_some _ e)
  have objs : ∀ b ∈ fp, ∃ o, s3.heap.get? b = some o := fun b hb => by
    obtain ⟨o, e, _⟩ := T.obj _ _ st2 b hb
    rw [← eh]
    exact ⟨o, Heap.get?_push_of_some _ e⟩
  have f3 : ∀ b ∈ fp, FpOk X pins (upd H2 D (.lst [])) b := fun b hb => by
    obtain ⟨o, e, _⟩ := T.obj _ _ st2 b hb
    have ne : b ≠ D := by rw [← hDD]; exact Nat.ne_of_lt (Heap.lt_size e)
    exact ⟨by rw [upd_ne ne]; exact (f2 b hb).1, (f2 b hb).2⟩
  have I4 : Inv (X.compN N' scope cl s3.heap.objs.size fp s3 (upd H2 D (.lst []))) (X.pn ++ pins) (List.replicate k none ++ σ) (upd H2 D (.lst [])) { s3 with heap := h1, toks := s3.toks + ([] : List (Str × Value)).length } := compN_inv S I3 hns keep f3 objs hsub hall
  have st4 : tn 0 h1 := T.keep _ _ _ st2 fun b hb o e => keep b o (by rw [← eh]; exact Heap.get?_push_of_some _ e)
  -- what stays true of the iterator's objects
  have stat : ∀ {H' : Hp}, (∀ b ∈ fp, H' b = none) → ∀ b ∈ fp, FpOk (X.compN N' scope cl s3.heap.objs.size fp s3 (upd H2 D (.lst []))) (X.pn ++ pins) H' b := fun hn b hb => by
    refine ⟨hn b hb, (I4.ok.exf b hb).1, I4.ok.exfs b hb, .inl hb, (I4.ok.exf b hb).2, fun p hp => (f3 b hb).2.2.2.2.2 p (by simpa using hp)⟩
  have loop : codeAny (model X.prog X.w) X.A (.compLoop (.ListComp elt [⟨tg, iter, ifs, 0⟩] scope pos) 0 (.ref it) (.ref D) (compEnvC scope cl s3.heap.objs.size X.env)) (RR (.ref D) s3.heap.objs.size) { s3 with heap := h1, toks := s3.toks + ([] : List (Str × Value)).length } := by
    refine comp_loop_go (fun n s' => ∃ i ρ H', Inv (X.compN N' scope cl s3.heap.objs.size fp s3 (upd H2 D (.lst []))) (X.pn ++ pins) (ρ ++ σ) H' s' ∧ ρ.length = k ∧ tn i s'.heap ∧ (∀ b ∈ fp, H' b = none) ∧ W i n H') ?_ m0
      ⟨0, _, _, I4, by simp, st4, fun b hb => (f3 b hb).1, w0⟩
    rintro n s5 ⟨i, ρ, H5, I5, lρ, st5, fr5, w5⟩
    rcases turn i n H5 w5 with ⟨stop, qn⟩ | ⟨go, step⟩
    · refine thn (T.done (X.compN N' scope cl s3.heap.objs.size fp s3 (upd H2 D (.lst []))) rfl rfl rfl hcal i _ s5 _ H5 _ I5 (stat fr5) st5 stop) fun r s6 ⟨hr, I6⟩ => ?_
      subst hr
      obtain ⟨m6, hn6, _⟩ := I6.loc
      have I7 : Inv X pins σ H5 s6 := I3.call' (ch := fp) I6.os I6.base I6.hok I6.bare fun b hb => ⟨(f3 b hb).2.2.2.1, (f3 b hb).2.1, (f3 b hb).2.2.2.2.1, (f3 b hb).2.2.2.2.2⟩
      exact hRR D s3.heap.objs.size s6 H5 m6 I7 hn6 (I3.fpOk (Nat.le_refl _) I6.free) qn
    · refine thn (T.item (X.compN N' scope cl s3.heap.objs.size fp s3 (upd H2 D (.lst []))) rfl rfl rfl hcal i _ s5 _ H5 _ I5 (stat fr5) st5 go) fun r s6 ⟨u, hr, h6⟩ => ?_
      subst hr
      refine thn h6 fun _ s7 ⟨y, H7, I7, r7, y7, st7, fr7⟩ => ?_
      have I7' := I7.pinned (stat fr7) (T.obj _ _ st7)
      refine thn (hg _ _ _ _ _ _ s7 (ρ ++ σ) H7 y u _ I7' r7 (step y H7 ρ lρ y7)) fun _ s8 ⟨σ8, H8, I8, ⟨ρ2, l2, e8⟩, q8⟩ => ?_
      subst e8
      refine thn (ht _ _ _ _ _ _ s8 _ H8 _ I8 q8) fun ok s9 ⟨H9, I9, q9⟩ => ?_
      have back : ∀ {H' : Hp} {s' : Shared} {m' : Nat}, Inv (X.compN N' scope cl s3.heap.objs.size fp s3 (upd H2 D (.lst []))) (X.pn ++ pins ++ pinsAt fp s7.heap) (ρ2 ++ σ) H' s' → m' < n → W (i + 1) m' H' →
          ∃ m, m < n ∧ ∃ i ρ H', Inv (X.compN N' scope cl s3.heap.objs.size fp s3 (upd H2 D (.lst []))) (X.pn ++ pins) (ρ ++ σ) H' s' ∧ ρ.length = k ∧ tn i s'.heap ∧ (∀ b ∈ fp, H' b = none) ∧ W i m H' := fun {H' s' m'} I' hm w' => by
        have pin : ∀ b o, b ∈ fp → s7.heap.get? b = some o → s'.heap.get? b = some o ∧ H' b = none := fun b o hb e => by
          have z := I'.pin (b, o) (List.mem_append_right _ (List.mem_append_right _ (mem_pinsAt hb e)))
          exact ⟨z.1, z.2.1⟩
        refine ⟨m', hm, i + 1, ρ2, H', I'.unpinned, l2, T.keep _ _ _ st7 fun b hb o e => (pin b o hb e).1, fun b hb => ?_, w'⟩
        obtain ⟨o', e, _⟩ := T.obj _ _ st7 b hb
        exact (pin b o' hb e).2
      cases ok with
      | false =>
        rw [if_neg Bool.false_ne_true] at q9 ⊢
        obtain ⟨m', hm, w'⟩ := q9
        exact back I9 hm w'
      | true =>
        rw [if_pos rfl] at q9 ⊢
        refine thn (he _ _ _ _ _ _ s9 _ H9 _ I9 q9) fun v s10 ⟨z, H10, I10, r10, q10⟩ => ?_
        obtain ⟨ys, e10, l10, m', hm, w'⟩ := q10
        refine thn (mt_append _ s10 _ H10 (.ref D) [z] (.ref D) [v] (fun _ H' => H' = upd H10 D (.lst (ys ++ [z]))) I10 rfl (.cons r10 .nil) ⟨D, ys, z, rfl, rfl, e10, l10, rfl⟩) fun _ s11 ⟨_, H11, I11, _, e11⟩ => ?_
        subst e11
        exact back I11 hm w'
  exact codeAny_compStart_list loop (T.self _ 0 _ _ _ st4 loop)
theorem pe_compN (S : CompScN X k N' scope) (hcal : X.calm = true) (hi : PI X tg iter wi) (hg : ∀ cl C fp s H, PG (X.compN N' scope cl C fp s H) tg g) (ht : ∀ cl C fp s H, PTs (X.compN N' scope cl C fp s H) ifs tt) (he : ∀ cl C fp s H, PE (X.compN N' scope cl C fp s H) elt te)
    (hs : ∀ x, foldedSetIterable iter X.env x = pure x := by intro _; rfl) : PE X (.ListComp elt [⟨tg, iter, ifs, 0⟩] scope pos) (tCompN wi k g tt te) := by
  intro pins s σ H Q I h
  obtain ⟨cl, hcl, hc⟩ := clos_ok (env := X.env) (scope := scope) fun y hy hf => I.ok.has y.1 (S.free y hy hf)
  rw [eval_ListComp]
  refine wpAny_comprehension_free (use := none) rfl hs hcl S.kind S.names (thn (hi pins s σ H _ I h) fun xv s1 h1 => thn h1 fun itv s2 h2 => ?_)
  obtain ⟨it, fp, tn, J, H2, e, I2, T, st2, f2, q⟩ := h2
  subst e
  refine compN_core (RR := fun acc C => compPost (model X.prog X.w) X.A X.xe none (EP X pins σ Q) acc C) S hcal hc hg ht he I2 T st2 f2 q ?_
  intro D C s' H' m' I' hn F' hq
  exact ⟨m', hn, fun h' sb => ⟨.ref D, H', I'.turned (t' := s'.toks) (fun b o hb e => (sb.2 b hb).trans e) F'.1 F'.2.1 F'.2.2.2.1 F'.2.2.2.2.1 F'.2.2.2.2.2, rfl, hq⟩⟩
end
def compChkN (fs : Scope) (N : List Str) (k : Nat) (N' : List Str) (scope : Scope) : Bool :=
  decide (scope.kind = .function) && scope.names.all (fun y => decide (y.2 ≠ .cell)) && scope.names.all (fun y => decide (y.2 = .local → scope.names.lookup y.1 = some .local)) &&
  scope.names.all (fun y => decide (y.2 = .free → fs.names.lookup y.1 = some .cell ∨ fs.names.lookup y.1 = some .free)) && decide (N'.length = k + N.length) &&
  (List.range N.length).all (fun i => match N'[k + i]?, N[i]? with
    | some y, some z => (match scope.names.lookup y with
      | none => true
      | some .free => decide (y = z) && decide (fs.names.lookup y = some .cell ∨ fs.names.lookup y = some .free)
      | some _ => false)
    | _, _ => false)
theorem compScN_mk {X : Cx} {k : Nat} {N' : List Str} {scope fs : Scope} {N : List Str} (hs : X.env.scope = fs) (hN : X.N = N) (c : compChkN fs N k N' scope = true) : CompScN X k N' scope := by
  subst hs hN
  unfold compChkN at c
  simp only [Bool.and_eq_true, List.all_eq_true, decide_eq_true_eq] at c
  obtain ⟨⟨⟨⟨⟨c1, c2⟩, c3⟩, c4⟩, c5⟩, c6⟩ := c
  refine ⟨c1, c2, c3, c4, c5, fun i y hy => ?_⟩
  have hi : k + i < N'.length := (List.getElem?_eq_some_iff.mp hy).1
  have hi2 : i < X.N.length := by omega
  have q := c6 i (List.mem_range.mpr hi2)
  rw [hy, List.getElem?_eq_getElem hi2] at q
  dsimp only at q
  unfold capOk
  cases e : scope.names.lookup y with
  | none => exact .inr rfl
  | some kd =>
    rw [e] at q
    cases kd with
    | free =>
      have q2 : y = X.N[i] ∧ (X.env.scope.names.lookup y = some .cell ∨ X.env.scope.names.lookup y = some .free) := by simpa using q
      refine .inl ⟨by rw [List.getElem?_eq_getElem hi2, q2.1], ?_⟩
      show (X.env.kindOf y == some .cell || X.env.kindOf y == some .free) = true
      have e2 : X.env.kindOf y = X.env.scope.names.lookup y := rfl
      rw [e2]
      rcases q2.2 with z | z <;> rw [z] <;> rfl
    | _ => simp at q
end L2
namespace L2
open PySem PySem.Spec PyProof.Rows
section
variable {X : Cx} {pins : List (Addr × Obj)} {σ : St} {H : Hp} {s : Shared} {h' : Heap}
theorem Inv.turnedL {t' : Nat} {ch : List Addr} (I : Inv X pins σ H s) (k : ∀ b u, b ∉ ch → s.heap.get? b = some u → h'.get? b = some u) (hch : ∀ b ∈ ch, FpOk X pins H b) : Inv X pins σ H { s with heap := h', toks := t' } := by
  have nch : ∀ b u, H b = some u → b ∉ ch := fun b u e z => by rw [(hch b z).1] at e; cases e
  refine I.step (g' := s.gens) (d' := s.drawn) (ch := ch) (fun b hb => ⟨(hch b hb).2.2.2.1, (hch b hb).2.1, (hch b hb).2.2.2.2.1, (hch b hb).2.2.2.2.2⟩) (fun b o _ _ hc e _ => k b o hc e) (fun b o _ _ hc e _ => ⟨o.slots, k b o hc e⟩)
    (fun _ _ _ _ n => n) (fun b o hc e => ⟨o, k b o hc e⟩) (fun _ _ e => e) (fun _ _ _ e => e) (fun b ps e => ⟨#[], by rw [e]; simp⟩) (fun m hm => ?_) (fun b u e => ?_) I.bare
  · obtain ⟨ob, es, ep, ho, r⟩ := hm
    exact ⟨ob, es, ep, k _ ob (fun z => (hch _ z).2.1 rfl) ho, r⟩
  · refine (I.hok b u e).stay (fun c v hc q => k c v ?_ q) (fun c q => q) fun c xs q => q
    rcases hc with z | z
    · rw [z]
      exact nch b u e
    · exact nch c _ z
end
def Itz (K : PySem.W.Frag) (a b : Addr) : It :=
  ⟨fun i H => ∃ xs ys x y, SqL K H a xs ∧ SqL K H b ys ∧ xs[i]? = some x ∧ ys[i]? = some y, fun i H x H' => ∃ p u v, x = .ref p ∧ H p = none ∧ H' = upd H p (.tup [u, v]) ∧ (∀ xs, SqL K H a xs → xs[i]? = some u) ∧ ∀ ys, SqL K H b ys → ys[i]? = some v,
    fun i H => ∃ xs ys, SqL K H a xs ∧ SqL K H b ys ∧ (xs.length ≤ i ∨ ys.length ≤ i)⟩
theorem turn_zip {P : Program} {w : World} {K : PySem.W.Frag} {es : List Expr} {kk : Nat} {pt : Pos} {z TI TO i1 i2 a b : Addr} (D : ZipApart z TI TO i1 i2 a b) :
    Turn P w K (.Tuple es kk pt) (Itz K a b) [z, TI, TO, i1, i2] z (fun i h => IsZip h z TI TO .none ∧ IsPair h TI (.ref i1) (.ref i2) ∧ (∃ u v, IsPair h TO u v) ∧ h.IsListIter i1 a i ∧ h.IsListIter i2 b i) where
  mem := by simp
  obj := fun i h st c hc => by
    obtain ⟨hz, hTI, ⟨u, v, hTO⟩, ⟨o1, h1, c1, d1⟩, ⟨o2, h2, c2, d2⟩⟩ := st
    simp only [List.mem_cons, List.not_mem_nil, or_false] at hc
    rcases hc with q | q | q | q | q <;> subst q
    · exact ⟨_, hz, fun v q => by cases q⟩
    · exact ⟨_, hTI, fun v q => by cases q⟩
    · exact ⟨_, hTO, fun v q => by cases q⟩
    · exact ⟨o1, h1, fun v q => by rw [d1] at q; cases q⟩
    · exact ⟨o2, h2, fun v q => by rw [d2] at q; cases q⟩
  keep := fun i h h' st kk => by
    obtain ⟨hz, hTI, ⟨u, v, hTO⟩, ⟨o1, h1, c1⟩, ⟨o2, h2, c2⟩⟩ := st
    exact ⟨kk z (by simp) _ hz, kk TI (by simp) _ hTI, ⟨u, v, kk TO (by simp) _ hTO⟩, ⟨o1, kk i1 (by simp) _ h1, c1⟩, ⟨o2, kk i2 (by simp) _ h2, c2⟩⟩
  item := by
    intro X hP hw hK hc i pins s σ H E I hf st hg
    subst hP hw hK
    obtain ⟨xs, ys, x, y, hqa, hqb, hx, hy⟩ := hg
    obtain ⟨its, rv, p, hz1⟩ := I.list hqa
    obtain ⟨u, hu, ru⟩ := rv.get hx
    obtain ⟨its2, rv2, p2, hz2⟩ := I.list hqb
    obtain ⟨v, hv, rv'⟩ := rv2.get hy
    obtain ⟨hz, hTI, ⟨u0, v0, hTO⟩, hi1, hi2⟩ := st
    refine wpAny_pyNext_zip_item D hz hTI hTO hi1 hi2 p.isList p2.isList (x := u) (y := v) (by simpa using hu) (by simpa using hv) fun h' a1 a2 a3 a4 a5 a6 kp => ⟨_, rfl, ?_⟩
    refine wpAny_letOwnedTupleGo_zip a1 fun g2 hz2' sb => ?_
    have lz : z < s.heap.objs.size := Heap.lt_size hz
    have lTI : TI < s.heap.objs.size := Heap.lt_size hTI
    have lTO : TO < s.heap.objs.size := Heap.lt_size hTO
    have l1 : i1 < s.heap.objs.size := by obtain ⟨o, ho, _⟩ := hi1; exact Heap.lt_size ho
    have l2 : i2 < s.heap.objs.size := by obtain ⟨o, ho, _⟩ := hi2; exact Heap.lt_size ho
    have nT : H s.heap.objs.size = none := I.fresh
    have tt2 : g2.get? s.heap.objs.size = some { cls := .type "tuple", data := .seq #[u, v] } := (sb.2 _ (Nat.ne_of_gt lz)).trans a5
    have I1 : Inv X pins σ (upd H s.heap.objs.size (.tup [x, y])) { s with heap := g2, toks := s.toks } := by
      refine I.turnedNew (t' := s.toks) (ch := [z, TI, TO, i1, i2]) (fun c o hb q => ?_) hf (Nat.le_refl _) ⟨?_, [u, v], .cons ru (.cons rv' .nil), ⟨_, tt2, rfl, 0, rfl⟩⟩
      · simp only [List.mem_cons, List.not_mem_nil, or_false, not_or] at hb
        exact (sb.2 c hb.1).trans (kp c o hb.1 hb.2.2.1 hb.2.2.2.1 hb.2.2.2.2 q)
      · show 2 ≤ sizeLine
        decide
    refine ⟨.ref s.heap.objs.size, _, I1, rfl, ⟨_, x, y, rfl, nT, rfl, fun zs hy' => ?_, fun zs hy' => ?_⟩, ⟨hz2', ?_, ⟨u, v, ?_⟩, ?_, ?_⟩, fun c hb => ?_⟩
    · rw [I.list_inj hy' hqa]
      exact hx
    · rw [I.list_inj hy' hqb]
      exact hy
    · exact (sb.2 TI D.TIz).trans (kp TI _ D.TIz D.TITO D.TIi1 D.TIi2 hTI)
    · exact (sb.2 TO D.TOz).trans a2
    · obtain ⟨o, ho, r⟩ := a3
      exact ⟨o, (sb.2 i1 D.i1z).trans ho, r⟩
    · obtain ⟨o, ho, r⟩ := a4
      exact ⟨o, (sb.2 i2 D.i2z).trans ho, r⟩
    · have hb' := (hf c hb).1
      simp only [List.mem_cons, List.not_mem_nil, or_false] at hb
      rcases hb with q | q | q | q | q <;> subst q
      · rw [upd_ne (Nat.ne_of_lt lz)]; exact hb'
      · rw [upd_ne (Nat.ne_of_lt lTI)]; exact hb'
      · rw [upd_ne (Nat.ne_of_lt lTO)]; exact hb'
      · rw [upd_ne (Nat.ne_of_lt l1)]; exact hb'
      · rw [upd_ne (Nat.ne_of_lt l2)]; exact hb'
  done := by
    intro X hP hw hK hc i pins s σ H E I hf st hg
    subst hP hw hK
    obtain ⟨xs, ys, hqa, hqb, hend⟩ := hg
    obtain ⟨its, rv, p, hz1⟩ := I.list hqa
    obtain ⟨its2, rv2, p2, hz2⟩ := I.list hqb
    obtain ⟨hz, hTI, ⟨u0, v0, hTO⟩, hi1, hi2⟩ := st
    have l1 := rv.length
    have l2 := rv2.length
    refine wpAny_pyNext_zip_end (I.ok.hd hc) D hz hTI hTO hi1 hi2 p.isList p2.isList ?_ fun h' kp => ⟨rfl, I.turnedL (t' := s.toks) (ch := [z, TI, TO, i1, i2]) (fun c o hb q => ?_) hf⟩
    · rcases hend with q | q
      · exact .inl (by simp; omega)
      · exact .inr (by simp; omega)
    · simp only [List.mem_cons, List.not_mem_nil, or_false, not_or] at hb
      exact kp c o hb.1 hb.2.2.1 hb.2.2.2.1 hb.2.2.2.2 q
  self := fun _ _ _ _ _ st h => wpAny_pyIter_zip st.1 h
section
variable {X : Cx} {es : List Expr} {kk : Nat} {pt : Pos}
def iZip (K : PySem.W.Frag) (ta : TA) : TI := fun σ H R => ta σ H fun vs H1 => ∃ a b, vs = [.ref a, .ref b] ∧ (∃ xs, SqL K H1 a xs) ∧ (∃ ys, SqL K H1 b ys) ∧ R (Itz K a b) H1
theorem pi_zip {l m : Expr} {ta : TA} {p pos : Pos} (hg : Gl X "zip") (hm : X.mg "zip" = none) (ha : PA X [l, m] ta) (hs : starEach [l, m] X.env = [(false, eval l X.env), (false, eval m X.env)] := by rfl) (hs2 : starEach [m] X.env = [(false, eval m X.env)] := by rfl) :
    PI X (.Tuple es kk pt) (.Call (.Name "zip" p) [l, m] [] pos) (iZip X.K ta) := by
  intro pins s σ H R I h
  refine Call_ (ld_blt I hg hm PyProof.Rows.boot_zip (PyProof.Rows.callWith_type1 (thn (ha pos pins s σ H _ I h) fun us s1 ⟨vs, H1, I1, r1, q1⟩ => ?_) (by rw [hs, hs2]) (by rw [hs2]; rfl)))
  obtain ⟨a, b, e1, ⟨xs, hqa⟩, ⟨ys, hqb⟩, q⟩ := q1
  subst e1
  obtain ⟨u, v, e1, r3, r4⟩ := vals2 r1
  subst e1
  obtain rfl : u = Value.ref a := r3
  obtain rfl : v = Value.ref b := r4
  obtain ⟨its, rv, pl, hz⟩ := I1.list hqa
  obtain ⟨its2, rv2, pl2, hz2⟩ := I1.list hqb
  have la : a < s1.heap.objs.size := by obtain ⟨o, ho, _⟩ := pl.isList; exact Heap.lt_size ho
  have lb : b < s1.heap.objs.size := by obtain ⟨o, ho, _⟩ := pl2.isList; exact Heap.lt_size ho
  refine call_zip_2 pl.isList pl2.isList fun h' hz hTI hTO hi1 hi2 hsz kp => ?_
  have I3 : Inv X pins σ H1 { s1 with heap := h' } := I1.kept (t' := s1.toks) kp
  refine wpAny_pyIter_zip hz ⟨s1.heap.objs.size + 4, [s1.heap.objs.size + 4, s1.heap.objs.size + 2, s1.heap.objs.size + 3, s1.heap.objs.size, s1.heap.objs.size + 1], _, _, H1, rfl, I3, turn_zip (zipApart_new la lb), ⟨hz, hTI, ⟨_, _, hTO⟩, hi1, hi2⟩, fun c hb => ?_, q⟩
  have ge : s1.heap.objs.size ≤ c := by
    simp only [List.mem_cons, List.not_mem_nil, or_false] at hb
    rcases hb with q | q | q | q | q <;> rw [q]
    · exact Nat.le_add_right _ _
    · exact Nat.le_add_right _ _
    · exact Nat.le_add_right _ _
    · exact Nat.le_refl _
    · exact Nat.le_add_right _ _
  exact I1.fpOk ge (I1.hok.fresh ge)
end
end L2
namespace L2
open PySem PySem.Spec PyProof.Rows
def Cat1 (i : Nat) (C1 : Addr) (T1 : TS) (D : Ends) (L : Nat) : XK := fun cls od H' => ∀ a, H' a = none → cls = .ref C1 ∧ ∀ σ' : St, σ'.length = L → T1 (xSet i D) (σ'.set i (some (.ref a))) (upd H' a (xh C1 a od))
def sTryB (i : Nat) (C1 : Addr) (tb : XK → TS) (T1 : TS) (L : Nat) : TS := fun D σ H => tb (Cat1 i C1 T1 D L) { nx := D.nx, rt := fun _ _ => False } σ H
section
variable {X : Cx} {C1 : Addr} {n c1 : Str} {np1 hp1 tpos : Pos} {tb : XK → TS} {T1 : TS} {b1 : Stmt} {su1 body : List Stmt} {i : Nat}
theorem Inv.pnIn {pins pins' : List (Addr × Obj)} {σ : St} {H : Hp} {s : Shared} {xe : Value → Shared → Prop} (I : Inv { X with pn := X.pn ++ pins, xe := xe } pins' σ H s) : Inv X pins σ H s :=
  ⟨⟨I.ok.mod, I.ok.kind, I.ok.glob, I.ok.blt, I.ok.above, I.ok.inj, I.ok.has, I.ok.cab, I.ok.hd, I.ok.frames, I.ok.stk, I.ok.exf, I.ok.bs, I.ok.bsz, I.ok.noex, I.ok.exfs, I.ok.funs, I.ok.frf⟩, I.os, I.bare, I.base, I.loc, I.cell, I.free, I.freeC, fun p hp => I.pin p (List.mem_append_left _ hp), I.hok, I.len⟩
theorem Inv.pnOut {pins : List (Addr × Obj)} {σ : St} {H : Hp} {s : Shared} {xe : Value → Shared → Prop} (I : Inv X pins σ H s) : Inv { X with pn := X.pn ++ pins, xe := xe } [] σ H s :=
  ⟨⟨I.ok.mod, I.ok.kind, I.ok.glob, I.ok.blt, I.ok.above, I.ok.inj, I.ok.has, I.ok.cab, I.ok.hd, I.ok.frames, I.ok.stk, I.ok.exf, I.ok.bs, I.ok.bsz, I.ok.noex, I.ok.exfs, I.ok.funs, I.ok.frf⟩, I.os, I.bare, I.base, I.loc, I.cell, I.free, I.freeC, fun p hp => I.pin p (by simpa using hp), I.hok, I.len⟩
theorem ps_tryB (hb : ∀ (E : XK) (pn : List (Addr × Obj)) (xe : Value → Shared → Prop), Passes (Fly X.prog X.w) { X with pn := pn, xe := xe } E → PSs { X with pn := pn, xe := xe } body (tb E))
    (hN : X.N.Nodup) (hi : X.N[i]? = some n) (hn : X.env.kindOf n = some .local) (g1 : Gl X c1) (m1 : X.mg c1 = some (.ref C1)) (D1 : CatC X.K C1) (t11 : PySem.W.mroIn X.K C1 (.ref C1) = some true)
    (hs1 : ∀ a, PSs (X.hot (.ref a)) (b1 :: su1) T1) (hex : X.stack = X.env :: X.outer) (hfr : X.env.frame = some X.env.locals) (hd1 : (c1 == ("__debug__" : Str)) = false := by decide) :
    PS X (.Try body [.ExceptHandler (some (.Name c1 np1)) (some n) (b1 :: su1) hp1] [] [] tpos) (sTryB i C1 tb T1 X.N.length) := by
  intro pins s σ H D I h
  refine wpAny_Try_except ?_
  have body' := hb (Cat1 i C1 T1 D X.N.length) (X.pn ++ pins) (fun e s1 => ∃ σ' H1 s0, Inv X pins σ' H1 s0 ∧ Fly X.prog X.w X.stack H1 s0 (Cat1 i C1 T1 D X.N.length) e s1)
    (fun pins' σ' H' s0 e s' I' hq => ⟨σ', H', s0, I'.pnIn, hq⟩) [] s σ H _ I.pnOut h
  refine wpAny_mono body' (fun f s1 z => ?_) (fun ev s1 z => ?_)
  · cases f with
    | next =>
      obtain ⟨σ', H', I', q⟩ := z
      exact wpAny_execs_nil ⟨σ', H', I'.pnIn, q⟩
    | brk => obtain ⟨_, _, _, q8⟩ := z; exact q8.elim
    | cont => obtain ⟨_, _, _, q8⟩ := z; exact q8.elim
    | ret u => obtain ⟨_, _, _, _, _, q8⟩ := z; exact q8.elim
  · obtain ⟨σ', H1, s0, I1, z⟩ := z
    obtain ⟨a, t, cls, od, B, H', rfl, os, bare, un, hok, fl, xd, na, cc1, cc2, q⟩ := z
    have fr : X.A.frames = some (X.env :: X.outer) := by rw [← hex]; exact I.ok.frames
    have fl' : Heap.FlyingW B (X.env :: X.outer) a cls (.ref t) s1.heap := by rw [← hex]; exact fl
    have go4 : wpAny (model X.prog X.w) X.A (noteFrame (.ref a) X.env) (fun _ s4 => ∃ h4, s4 = { s1 with heap := h4 } ∧ Heap.HeldW B (X.env :: X.outer) a cls (.ref t) X.env.locals h4 ∧ s1.heap.UpToSlots h4) (fun _ _ => False) s1 := wpAny_looks_onW fr hfr fl' fun h4 f4 u4 => ⟨h4, rfl, f4, u4⟩
    refine wpAny_mono (wp_xd (kpd_note _ _) xd go4) (fun _ s4 z => ?_) fun _ _ z => z.elim
    obtain ⟨⟨h4, e4, f4, u4⟩, x4⟩ := z
    subst e4
    have go5 : wpAny (model X.prog X.w) X.A (setFlight (.ref a) none) (fun _ s5 => ∃ h5, s5 = { s1 with heap := h5 } ∧ Heap.FlyingW B (X.env :: X.outer) a cls (.ref t) h5 ∧ h4.UpToSlots h5) (fun _ _ => False) { s1 with heap := h4 } := wpAny_landsW (s := { s1 with heap := h4 }) f4 fun h5 f5 u5 => ⟨h5, rfl, f5, u5⟩
    refine wpAny_mono (wp_xd (s := { s1 with heap := h4 }) (kpd_flight _ _) x4 go5) (fun _ s5 z => ?_) fun _ _ z => z.elim
    obtain ⟨⟨h5, e5, f5, u5⟩, x5⟩ := z
    subst e5
    have us : s1.heap.UpToSlots h5 := u4.trans u5
    rw [← hex] at f5
    have J : ∀ (C : Addr), cls = .ref C → ∀ s6 : Shared, s6.gens = s1.gens → s6.os = s1.os → Heap.FlyingW B X.stack a (.ref C) (.ref t) s6.heap → h5.UpToSlots s6.heap → XD s6.heap a od → Inv X pins σ' (upd H' a (xh C a od)) s6 := fun C eC s6 eg eo f6 u6 x6 => by
      obtain ⟨q1, q2⟩ := fly_in (P := X.prog) (w := X.w) un hok fl.2.2.1 na cc1 cc2 (us.trans u6) f6 x6
      exact I1.call' (s' := s6) (ch := []) (eo.trans os) q1 q2 (by rw [eg]; exact bare) (fun b z => absurd z (by simp))
    obtain ⟨oe, ws, hoe, hoec, hoed, hoe0⟩ := f5.first
    obtain ⟨cd1, hcd1⟩ := D1.cd
    obtain ⟨rfl, q1⟩ := q a na
    have J5 := J C1 rfl { s1 with heap := h5 } rfl rfl f5 (Heap.UpToSlots.refl _) x5
    refine wpAny_handleBy_cons (codeAny_handlers_test (ld_glob (X := X.hot (.ref a)) (J5.hot _) g1 m1 ?_ hd1)) (by intro q; cases q)
    refine exc_match (s := { s1 with heap := h5 }) J5.kIn hoe hoec hcd1 D1.tp D1.be t11 ?_
    exact suite_runs (s5 := { s1 with heap := h5 }) hN hi hn (hs1 a) I.ok (J C1 rfl) f5 x5 (q1 σ' I1.len)
end
def ItRev (K : PySem.W.Frag) (a : Addr) (n : Nat) : It :=
  ⟨fun i H => ∃ xs x, SqL K H a xs ∧ xs.length = n ∧ i < n ∧ xs[n - 1 - i]? = some x, fun i H x H' => H' = H ∧ ∀ xs, SqL K H a xs → xs[n - 1 - i]? = some x, fun i H => n ≤ i⟩
theorem turn_rev {P : Program} {w : World} {K : PySem.W.Frag} {tg : Expr} (a it : Addr) (n : Nat) : Turn P w K tg (ItRev K a n) [it] it (fun i h => i ≤ n ∧ h.IsRevIter it a ((n : Int) - 1 - (i : Int))) where
  mem := by simp
  obj := fun i h st b hb => by
    have e : b = it := by simpa using hb
    subst e
    obtain ⟨_, o, e, c, d⟩ := st
    exact ⟨o, e, fun v z => by rw [d] at z; cases z⟩
  keep := fun i h h' st k => ⟨st.1, st.2.at fun o e => k it (by simp) o e⟩
  item := by
    intro X hP hw hK hc i pins s σ H E I hf st hg
    subst hP hw hK
    obtain ⟨xs, x, hq, hlen, hi, hx⟩ := hg
    obtain ⟨its, rv, p, hz⟩ := I.list hq
    obtain ⟨u, hu, ru⟩ := rv.get hx
    obtain ⟨f0, f1, f2, f3, f4, f5⟩ := hf it (by simp)
    have e1 : (n : Int) - 1 - (i : Int) = ((n - 1 - i : Nat) : Int) := by omega
    have st' := st.2
    rw [e1] at st'
    refine wpAny_pyNext_rev_item st' p.isList (x := u) (by simpa using hu) fun h' st2 sb => ?_
    have I1 : Inv X pins σ H { s with heap := h' } := I.turned (t' := s.toks) (fun b o hb e => (sb.2 b hb).trans e) f0 f1 f3 f4 f5
    have e2 : ((n - 1 - i : Nat) : Int) - 1 = (n : Int) - 1 - ((i + 1 : Nat) : Int) := by omega
    rw [e2] at st2
    obtain ⟨o, e, c, d⟩ := id st2
    exact ⟨u, rfl, go_of (s := { s with heap := h' }) e c d (by decide) ⟨x, H, I1, ru, ⟨rfl, fun ys hy => by rw [I.list_inj hy hq]; exact hx⟩, ⟨hi, st2⟩, fun b hb => (hf b hb).1⟩⟩
  done := by
    intro X hP hw hK hc i pins s σ H E I hf st hg
    subst hP hw hK
    obtain ⟨f0, f1, f2, f3, f4, f5⟩ := hf it (by simp)
    have hg' : n ≤ i := hg
    have e1 : (n : Int) - 1 - (i : Int) = -1 := by have := st.1; omega
    have st' := st.2
    rw [e1] at st'
    exact wpAny_pyNext_rev_end (I.ok.hd hc) st' fun h' eb => ⟨rfl, I.turned (t' := s.toks) (fun b o hb e => eb b o hb e) f0 f1 f3 f4 f5⟩
  self := fun _ _ _ _ _ st h => wpAny_pyIter_revIter st.2 h
section
variable {X : Cx} {tg : Expr}
def iRev (K : PySem.W.Frag) (ta : TA) : TI := fun σ H R => ta σ H fun vs H1 => ∃ a xs, vs = [.ref a] ∧ SqL K H1 a xs ∧ R (ItRev K a xs.length) H1
theorem pi_rev {l : Expr} {ta : TA} {p pos : Pos} (hg : Gl X "reversed") (hm : X.mg "reversed" = none) (hv : bootBuiltins "reversed" = some (.type "reversed")) (ha : PA X [l] ta) (hs : starEach [l] X.env = [(false, eval l X.env)] := by rfl) :
    PI X tg (.Call (.Name "reversed" p) [l] [] pos) (iRev X.K ta) := by
  intro pins s σ H R I h
  refine Call_ (ld_blt I hg hm hv (PyProof.Rows.callWith_type1 (thn (ha pos pins s σ H _ I h) fun us s1 ⟨vs, H1, I1, r1, q1⟩ => ?_) hs rfl))
  obtain ⟨a, xs, e1, hq, q⟩ := q1
  subst e1
  obtain ⟨u, e1, r3⟩ := vals1 r1
  subst e1
  obtain rfl : u = Value.ref a := r3
  obtain ⟨its, rv, pl, hz⟩ := I1.list hq
  have hl := rv.length
  refine call_reversed_list pl.isList ?_
  have I2 : Inv X pins σ H1 { s1 with heap := s1.heap.push (revObj a ((its.toArray.size : Int) - 1)) } := I1.kept (t' := s1.toks) fun b o e => Heap.get?_push_of_some _ e
  have st : Heap.IsRevIter (s1.heap.push (revObj a ((its.toArray.size : Int) - 1))) s1.heap.objs.size a ((xs.length : Int) - 1 - ((0 : Nat) : Int)) := by
    refine ⟨_, Heap.get?_push_size _ rfl, rfl, ?_⟩
    rw [List.size_toArray, ← hl]
    simp [revObj]
  refine wpAny_pyIter_revIter st ⟨s1.heap.objs.size, [s1.heap.objs.size], _, _, H1, rfl, I2, turn_rev a _ xs.length, ⟨Nat.zero_le _, st⟩, fun b hb => ?_, q⟩
  have e : b = s1.heap.objs.size := by simpa using hb
  subst e
  exact I1.fpOk (Nat.le_refl _) (I1.hok.fresh (Nat.le_refl _))
end
theorem for_rev {K : PySem.W.Frag} {a : Addr} {xs : List V} {g : TG} {tb : TS} {D : Ends} {σ : St} {H : Hp} (Pv : Nat → St → Hp → Prop) (h0 : Pv 0 σ H) (hl : ∀ i σ H, i ≤ xs.length → Pv i σ H → SqL K H a xs)
    (hs : ∀ i x σ H, i < xs.length → xs[xs.length - 1 - i]? = some x → Pv i σ H → g x σ H fun σ2 H2 => tb { D with nx := Pv (i + 1), ct := Pv (i + 1), bk := D.nx } σ2 H2) (hd : ∀ σ H, Pv xs.length σ H → D.nx σ H) :
    ∃ W : Nat → Nat → St → Hp → Prop, (∃ m, W 0 m σ H) ∧ ∀ i m σ H, W i m σ H →
      ((ItRev K a xs.length).stop i H ∧ D.nx σ H) ∨ ((ItRev K a xs.length).go i H ∧ ∃ N : St → Hp → Prop, (∀ σ' H', N σ' H' → ∃ m', m' < m ∧ W (i + 1) m' σ' H') ∧ ∀ x H', (ItRev K a xs.length).yld i H x H' → g x σ H' fun σ2 H2 => tb { D with nx := N, ct := N, bk := D.nx } σ2 H2) := by
  refine ⟨fun i m σ H => m = xs.length - i ∧ i ≤ xs.length ∧ Pv i σ H, ⟨xs.length, by simp, Nat.zero_le _, h0⟩, ?_⟩
  rintro i m σ H ⟨rfl, hi, p⟩
  have q := hl i σ H hi p
  by_cases hlt : i < xs.length
  · have hk : xs.length - 1 - i < xs.length := by omega
    refine .inr ⟨⟨xs, xs[xs.length - 1 - i], q, rfl, hlt, by simp [hk]⟩, Pv (i + 1), fun σ' H' p' => ⟨xs.length - (i + 1), by omega, rfl, hlt, p'⟩, fun x H' y => ?_⟩
    obtain ⟨e1, y⟩ := y
    subst e1
    exact hs i x σ _ hlt (y xs q) p
  · have e : i = xs.length := by omega
    subst e
    exact .inl ⟨Nat.le_refl _, hd σ H p⟩
section
variable {X : Cx}
def CDivC (_ j : Int) : Prop := 0 < j ∧ j.natAbs.log2 < 9000
theorem op_fdivC : OpR X (binaryOp .FloorDiv) (rI CDivC fun i j => .int (i / j)) := opI fun i j _ _ _ _ _ hc q => by
  have h1 : (0 : Int) < j := hc.1
  exact floordiv_int (by omega) (by rw [Int.fdiv_eq_ediv_of_nonneg i (by omega)]; exact q) (.inl (PyProof.noPylong_of_log2 hc.2))
end
end L2
namespace L2
open PySem PySem.Spec PyProof.Rows
abbrev Cx.i1 (X : Cx) : Cx := { X with A := X.A.in1, xe := fun _ _ => False }
theorem Inv.i1 {X : Cx} {pins : List (Addr × Obj)} {σ : St} {H : Hp} {s : Shared} (I : Inv X pins σ H s) : Inv X.i1 pins σ H s :=
  ⟨⟨I.ok.mod, I.ok.kind, I.ok.glob, I.ok.blt, I.ok.above, I.ok.inj, I.ok.has, I.ok.cab, I.ok.hd, I.ok.frames, I.ok.stk, I.ok.exf, I.ok.bs, I.ok.bsz, I.ok.noex, I.ok.exfs, I.ok.funs, I.ok.frf⟩, I.os, I.bare, I.base, I.loc, I.cell, I.free, I.freeC, I.pin, I.hok, I.len⟩
theorem Inv.o1 {X : Cx} {pins : List (Addr × Obj)} {σ : St} {H : Hp} {s : Shared} (I : Inv X.i1 pins σ H s) (hd : X.calm = true → X.A.handled = none) (hf : X.A.frames = some X.stack) : Inv X pins σ H s :=
  ⟨⟨I.ok.mod, I.ok.kind, I.ok.glob, I.ok.blt, I.ok.above, I.ok.inj, I.ok.has, I.ok.cab, hd, hf, I.ok.stk, I.ok.exf, I.ok.bs, I.ok.bsz, I.ok.noex, I.ok.exfs, I.ok.funs, I.ok.frf⟩, I.os, I.bare, I.base, I.loc, I.cell, I.free, I.freeC, I.pin, I.hok, I.len⟩
section
variable {M : Model} {A : Around} {E : Value → Shared → Prop} {s : Shared} {env : Env}
theorem callWith_bK {pos : Pos} {T : String} {e : Expr} {rest : List Expr} {kws : List Keyword} {Q : Value → Shared → Prop}
    (h : wpAny M A (spliced (backTo pos (starEach (e :: rest) env))) (fun vs s1 => wpAny M A (evalAll ((backToKw pos (keywordEach kws env)).map (·.2)))
      (fun kvs s2 => wpAny M A (call (.builtin T) vs (((backToKw pos (keywordEach kws env)).filterMap (·.1)).zip kvs)) Q E s2) E s1) E s)
    (he : backTo pos (starEach (e :: rest) env) = (false, eval e env) :: backTo pos (starEach rest env) := by rfl) (hpl : (backTo pos (starEach (e :: rest) env)).any (·.1) = false := by rfl)
    (hall : (backToKw pos (keywordEach kws env)).all (·.1.isSome) = true := by rfl) (hkw : (backToKw pos (keywordEach kws env)).any (·.1.isNone) = false := by rfl) :
    wpAny M A (callWith pos (.builtin T) [] (backTo pos (starEach (e :: rest) env)) (backToKw pos (keywordEach kws env))) Q E s := by
  have h2 : wpAny M A (evalArgs (.builtin T) true (backTo pos (starEach (e :: rest) env)) (backToKw pos (keywordEach kws env))) (fun a s1 => wpAny M A (call (.builtin T) ([] ++ a.pos) a.kw) Q E s1) E s := by
    rw [he] at h ⊢
    exact evalArgs_kwB hall h
  unfold callWith
  refine wpAny_bind (wpAny_holding (wpAny_mono h2 (fun a s1 h1 => wpAny_bind (wpAny_standAt ?_)) fun _ _ z => z))
  simp only [hpl, hkw, Bool.or_false]
  exact wpAny_bind (wpAny_pure (wpAny_bind (wpAny_mono h1 (fun r s2 hr => wpAny_bind (wpAny_holding (wpAny_point (wpAny_pure hr)))) fun _ _ z => z)))
end
theorem argBest_T {bt : Nat → Nat → Bool} {k : Nat} (h : bt (k + 1) (argBest bt k) = true) : argBest bt (k + 1) = k + 1 := by simp only [argBest, h, if_true]
theorem argBest_F {bt : Nat → Nat → Bool} {k : Nat} (h : bt (k + 1) (argBest bt k) = false) : argBest bt (k + 1) = argBest bt k := by simp only [argBest, h, Bool.false_eq_true, if_false]
def KeyOk (sp : Sp) (H : Hp) (as : List Addr) (kf : Nat → Int) : Prop := ∀ (i : Nat) (a : Addr) (H' : Hp) (Q : VK), as[i]? = some a → Same H H' → (∀ H'', Same H' H'' → Q (.int (kf i)) H'') → sp [.ref a] H' Q E0
theorem same_none {H H' : Hp} {b : Addr} (s : Same H H') (h : H' b = none) : H b = none := by
  cases e : H b with
  | none => rfl
  | some u => rw [s b u e] at h; cases h
section
variable {X : Cx} {pins : List (Addr × Obj)} {σ : St}
theorem maxK_loop {k : Nat} {f : Addr} {fd : FuncData} {p0 : Str} {sp : Sp} {H : Hp} {l it Z : Addr} {as : List Addr} {kf : Nat → Int} {R : Result → Shared → Prop}
    (G : FnOk X.prog X.w X.K X.mg X.base CX0 k f fd [p0] sp) (hr : Room (k + 1) X.A) (hb : Binds X.K fd [p0] []) (hc : X.calm = true) (hS : SqL X.K H l (as.map V.ref)) (hk : KeyOk sp H as kf) (hne : it ≠ Z) :
    ∀ (m j : Nat) (s : Shared) (H1 : Hp) (vb vk : Value) (c : Nat), as.length - (j + 1) = m → j + 1 ≤ as.length → Inv X pins σ H1 s → Same H H1 → (∀ b ∈ [it, Z], FpOk X pins H1 b) → s.heap.IsListIter it l (j + 1) →
      s.heap.get? Z = some { cls := .type "list", dict := none, data := .seq #[vb, vk] c, slots := #[] } → (∃ a, as[argBest (fun i j => decide (kf i > kf j)) j]? = some a ∧ vb = .ref a) → (∃ t, vk = .int (kf (argBest (fun i j => decide (kf i > kf j)) j)) t) →
      (∀ a s' H', Inv X pins σ H' s' → Same H H' → as[argBest (fun i j => decide (kf i > kf j)) (as.length - 1)]? = some a → R (.ok (.ret (.ref a))) s') → codeAny (model X.prog X.w) X.A (.builtin "max.loop" ⟨[.ref it, .ref f, .ref Z], [("default", .none)]⟩) R s := by
  have nm : (toString "max" ++ toString ".loop" : String) = "max.loop" := by decide
  have T := turn_list (P := X.prog) (w := X.w) (K := X.K) (tg := .Name "" ⟨0, 0, 0, 0⟩) l it
  intro m
  induction m with
  | zero =>
    intro j s H1 vb vk c e1 e2 I s1 fp hit z0 hvb hvk fin
    have en : j + 1 = as.length := by omega
    refine codeAny_builtin PySem.F.entry_max_loop ?_
    rw [Around.under_plainId PySem.F.plain_max_loop _]
    show wpAny _ X.A.in1 (seqItems? (.ref Z) >>= _) _ _ s
    refine wpAny_bind (wpAny_seqItems z0 rfl ?_)
    show wpAny _ X.A.in1 (tryCatch (pyNext (.ref it)) _ >>= _) _ _ s
    obtain ⟨its, rv, pl, hz⟩ := I.list (s1.seq hS)
    have hl := rv.length
    rw [List.length_map] at hl
    refine wpAny_bind (wpAny_tryCatch (wpAny_pyNext_list_end (show X.A.in1.handled = none from I.ok.hd hc) hit pl.isList (by simp; omega) fun h' eb => ?_))
    have I1 : Inv X pins σ H1 { s with heap := h' } := I.turnedL (t' := s.toks) (ch := [it, Z]) (fun b o hb e => eb b o (fun q => hb (by simp [q])) e) fp
    have z1 := eb Z _ (Ne.symm hne) z0
    show wpAny _ X.A.in1 (updateSeq Z (fun _ => #[]) >>= _) _ _ _
    refine wpAny_bind (wpAny_updateSeq z1 rfl (wpAny_bind (wpAny_letGo (wpAny_pure ?_))))
    obtain ⟨a, ha, rfl⟩ := hvb
    refine fin a _ H1 (I1.turnedL (t' := s.toks) (ch := [it, Z]) (fun b o hb e => (Heap.get?_update_other _ _ (fun q => hb (by simp [q]))).trans e) fp) s1 ?_
    have e3 : as.length - 1 = j := by omega
    rw [e3]
    exact ha
  | succ m ih =>
    intro j s H1 vb vk c e1 e2 I s1 fp hit z0 hvb hvk fin
    have lt : j + 1 < as.length := by omega
    refine codeAny_builtin PySem.F.entry_max_loop ?_
    rw [Around.under_plainId PySem.F.plain_max_loop _]
    show wpAny _ X.A.in1 (seqItems? (.ref Z) >>= _) _ _ s
    refine wpAny_bind (wpAny_seqItems z0 rfl ?_)
    show wpAny _ X.A.in1 (tryCatch (pyNext (.ref it)) _ >>= _) _ _ s
    obtain ⟨its, rv, pl, hz⟩ := I.list (s1.seq hS)
    have ha : as[j + 1]? = some as[j + 1] := by simp [lt]
    obtain ⟨u, hu, ru⟩ := rv.get (i := j + 1) (x := V.ref as[j + 1]) (by rw [List.getElem?_map, ha]; rfl)
    obtain rfl : u = Value.ref as[j + 1] := ru
    refine wpAny_bind (wpAny_tryCatch (wpAny_pyNext_list_item hit pl.isList (x := .ref as[j + 1]) (by simpa using hu) fun h' hit' sb => ?_))
    have I1 : Inv X pins σ H1 { s with heap := h' } := I.turnedL (t' := s.toks) (ch := [it, Z]) (fun b o hb e => (sb.2 b (fun q => hb (by simp [q]))).trans e) fp
    have z1 := (sb.2 Z (Ne.symm hne)).trans z0
    show wpAny _ X.A.in1 (tryCatch (holding [.ref as[j + 1]] (call (.ref f) [.ref as[j + 1]])) _ >>= _) _ _ _
    obtain ⟨oi, hoi, ci, di⟩ := id hit'
    have ob : ∀ b ∈ [it, Z], ∃ o, h'.get? b = some o ∧ ∀ v, o.data ≠ .cell v := fun b hb => by
      simp only [List.mem_cons, List.not_mem_nil, or_false] at hb
      rcases hb with q | q <;> subst q
      · exact ⟨oi, hoi, fun v q => by rw [di] at q; cases q⟩
      · exact ⟨_, z1, fun v q => by cases q⟩
    have Ip := I1.pinned fp ob
    refine wpAny_bind (wpAny_tryCatch (wpAny_holding (wpAny_mono (run_fn (X := X.i1) (us := [.ref as[j + 1]]) (vs := [.ref as[j + 1]]) (Q := fun v H2 => v = .int (kf (j + 1)) ∧ Same H1 H2) (E := E0) G hr.in1 hb .nil pass0 Ip.i1 (.cons rfl .nil) (hk (j + 1) _ H1 _ ha s1 fun H2 s2 => ⟨rfl, s2⟩)) (fun v s2 hq => ?_) fun _ _ z => z.elim)))
    obtain ⟨y, H2, I2', ry, ey, s2'⟩ := hq
    subst ey
    obtain ⟨t, rfl⟩ := ry
    have I2 : Inv X (pins ++ pinsAt [it, Z] h') σ H2 s2 := I2'.o1 I.ok.hd I.ok.frames
    have pin : ∀ b o, b ∈ [it, Z] → h'.get? b = some o → s2.heap.get? b = some o ∧ H2 b = none := fun b o hb e => by
      have z := I2.pin (b, o) (List.mem_append_right _ (List.mem_append_right _ (mem_pinsAt hb e)))
      exact ⟨z.1, z.2.1⟩
    have z2 := (pin Z _ (by simp) z1).1
    have hit2 : s2.heap.IsListIter it l (j + 1 + 1) := ⟨oi, (pin it _ (by simp) hoi).1, ci, di⟩
    have fp2 : ∀ b ∈ [it, Z], FpOk X pins H2 b := fun b hb => by
      obtain ⟨o, e, _⟩ := ob b hb
      exact ⟨(pin b o hb e).2, (fp b hb).2⟩
    have I3 : Inv X pins σ H2 s2 := I2.unpinned
    have s3 : Same H H2 := Same.trans s1 s2'
    obtain ⟨tb, rfl⟩ := hvk
    show wpAny _ X.A.in1 (tryCatch (holding [.ref as[j + 1], .int (kf (j + 1)) t] (richCompare .Gt (.int (kf (j + 1)) t) (.int (kf (argBest (fun i j => decide (kf i > kf j)) j)) tb) >>= _)) _ >>= _) _ _ _
    refine wpAny_bind (wpAny_tryCatch (wpAny_holding (wpAny_bind (gt_int ?_))))
    refine wpAny_bind (wpAny_holding (wpAny_truthy_bool (wpAny_bind (wpAny_letGo (wpAny_pure ?_)))))
    cases hbt : decide (kf (j + 1) > kf (argBest (fun i j => decide (kf i > kf j)) j)) with
    | true =>
      simp only [if_true]
      refine wpAny_bind (wpAny_updateSeq z2 rfl (wpAny_bind (wpAny_letGo ?_)))
      rw [nm]
      have ek : argBest (fun i j => decide (kf i > kf j)) (j + 1) = j + 1 := argBest_T hbt
      refine wpAny_pure ⟨plainId_quiet PySem.F.plain_max_loop _, ih (j + 1) _ H2 _ _ _ (by omega) lt (I3.turnedL (t' := s2.toks) (ch := [it, Z]) (fun b o hb e => (Heap.get?_update_other _ _ (fun q => hb (by simp [q]))).trans e) fp2) s3 fp2
        ⟨oi, (Heap.get?_update_other _ _ (Ne.symm hne)).trans (pin it _ (by simp) hoi).1, ci, di⟩ (Heap.get?_update_self _ z2 rfl) ⟨_, by rw [ek]; exact ha, rfl⟩ ⟨t, by rw [ek]⟩ fin⟩
    | false =>
      simp only [Bool.false_eq_true, if_false]
      refine wpAny_bind (wpAny_letGo ?_)
      rw [nm]
      have ek : argBest (fun i j => decide (kf i > kf j)) (j + 1) = argBest (fun i j => decide (kf i > kf j)) j := argBest_F hbt
      refine wpAny_pure ⟨plainId_quiet PySem.F.plain_max_loop _, ih (j + 1) _ H2 _ _ _ (by omega) lt I3 s3 fp2 hit2 z2 (by rw [ek]; exact hvb) ⟨tb, by rw [ek]⟩ fin⟩
def rmaxK (K : PySem.W.Frag) (f : Addr) (sp : Sp) : List V → List V → Hp → VK → Prop := fun xs ws H Q => ∃ (l : Addr) (as : List Addr) (kf : Nat → Int), xs = [.ref l] ∧ ws = [.ref f, .non] ∧ SqL K H l (as.map V.ref) ∧ KeyOk sp H as kf ∧
  (as = [] → ∀ H', Same H H' → Q .non H') ∧ ∀ a H', as[argBest (fun i j => decide (kf i > kf j)) (as.length - 1)]? = some a → Same H H' → Q (.ref a) H'
set_option maxHeartbeats 1000000 in
theorem args_maxK (a b : Value) : argsOk "max" ⟨[a], [(Str.ofString "key", b), (Str.ofString "default", .none)]⟩ := by unfold argsOk; kernel_rfl
set_option maxHeartbeats 1000000 in
theorem call_maxK {k : Nat} {f : Addr} {fd : FuncData} {p0 : Str} {sp : Sp} (G : FnOk X.prog X.w X.K X.mg X.base CX0 k f fd [p0] sp) (hr : Room (k + 1) X.A) (hb : Binds X.K fd [p0] []) (hc : X.calm = true)
    {s : Shared} {H : Hp} {xs ws : List V} {us ks : List Value} {Q : VK} (I : Inv X pins σ H s) (r : Vals xs us) (r2 : Vals ws ks) (h : rmaxK X.K f sp xs ws H Q) :
    wpAny (model X.prog X.w) X.A (call (.builtin "max") us ([Str.ofString "key", Str.ofString "default"].zip ks)) (EP X pins σ Q) X.xe s := by
  obtain ⟨l, as, kf, e1, e2, hS, hk, q0, q1⟩ := h
  subst e1 e2
  obtain ⟨u, rfl, ru⟩ := vals1 r
  obtain rfl : u = Value.ref l := ru
  obtain ⟨v1, v2, rfl, rf, rn⟩ := vals2 r2
  obtain rfl : v1 = Value.ref f := rf
  obtain rfl : v2 = Value.none := rn
  have nm : (toString "max" ++ toString ".loop" : String) = "max.loop" := by decide
  refine PyProof.Rows.kmk_tree PySem.F.kind_max PySem.F.plain_max PySem.F.entry_max (args_maxK _ _) ?_
  show wpAny _ X.A.in1 (Builtin.Builtins.bindParams "max" ["key", "default"] 0 ⟨[], [(Str.ofString "key", .ref f), (Str.ofString "default", .none)]⟩ >>= _) _ _ s
  refine wpAny_bind (wpAny_of_eq (show Builtin.Builtins.bindParams "max" ["key", "default"] 0 ⟨[], [(Str.ofString "key", .ref f), (Str.ofString "default", .none)]⟩ = pure [some (.ref f), some .none] from rfl) ?_)
  refine wpAny_bind (wpAny_pure ?_)
  obtain ⟨its, rv, pl, hz⟩ := I.list hS
  have hlen := rv.length
  rw [List.length_map] at hlen
  have ll : l < s.heap.objs.size := by obtain ⟨o, ho, _⟩ := pl.isList; exact Heap.lt_size ho
  refine wpAny_bind (wpAny_pyIter_list pl.isList ?_)
  refine wpAny_bind (wpAny_newList ?_ (Nat.zero_le _))
  rw [nm]
  generalize hh1 : s.heap.push { cls := .type "list_iterator", data := .fields #[.ref l, .int 0 0] } = h1
  have sz1 : h1.objs.size = s.heap.objs.size + 1 := by rw [← hh1]; exact Heap.size_push ..
  generalize hh2 : h1.push { cls := .type "list", dict := none, data := .seq (([] : List Value).toArray) 0 } = h2
  have k1 : ∀ b o, s.heap.get? b = some o → h2.get? b = some o := fun b o e => by rw [← hh2, ← hh1]; exact Heap.get?_push_of_some _ (Heap.get?_push_of_some _ e)
  have gI : h2.get? s.heap.objs.size = some { cls := .type "list_iterator", data := .fields #[.ref l, .int 0 0] } := by rw [← hh2, ← hh1]; exact Heap.get?_push_of_some _ (Heap.get?_push_size _ rfl)
  have gZ : h2.get? h1.objs.size = some { cls := .type "list", dict := none, data := .seq #[] 0, slots := #[] } := by rw [← hh2]; exact Heap.get?_push_size _ rfl
  have I1 : Inv X pins σ H { s with heap := h2 } := I.kept (t' := s.toks) k1
  have hne : s.heap.objs.size ≠ h1.objs.size := by rw [sz1]; exact Nat.ne_of_lt (Nat.lt_succ_self _)
  have fp : ∀ b ∈ [s.heap.objs.size, h1.objs.size], FpOk X pins H b := fun b hb => by
    have ge : s.heap.objs.size ≤ b := by
      simp only [List.mem_cons, List.not_mem_nil, or_false] at hb
      rcases hb with q | q <;> rw [q]
      · exact Nat.le_refl _
      · rw [sz1]; exact Nat.le_succ _
    exact I.fpOk ge (I.hok.fresh ge)
  refine wpAny_pure ⟨plainId_quiet PySem.F.plain_max_loop _, ?_⟩
  generalize s.heap.objs.size = it at *
  generalize h1.objs.size = Z at *
  have hit : h2.IsListIter it l 0 := ⟨_, gI, rfl, rfl⟩
  refine codeAny_builtin PySem.F.entry_max_loop ?_
  rw [Around.under_plainId PySem.F.plain_max_loop _]
  show wpAny _ X.A.in1 (seqItems? (.ref Z) >>= _) _ _ _
  refine wpAny_bind (wpAny_seqItems gZ rfl ?_)
  show wpAny _ X.A.in1 (tryCatch (pyNext (.ref it)) _ >>= _) _ _ _
  have pl1 : h2.IsList l its.toArray := pl.isList.at fun o e => k1 l o e
  by_cases h0 : as = []
  · subst h0
    have e0 : its = [] := List.length_eq_zero_iff.mp (by simpa using hlen.symm)
    subst e0
    refine wpAny_bind (wpAny_tryCatch (wpAny_pyNext_list_end (show X.A.in1.handled = none from I.ok.hd hc) hit pl1 (by simp) fun h' eb => ?_))
    have I2 : Inv X pins σ H { s with heap := h' } := Inv.turnedL (s := { s with heap := h2 }) (h' := h') (t' := s.toks) (ch := [it, Z]) I1 (fun b o hb e => eb b o (fun q => hb (by simp [q])) e) fp
    refine wpAny_bind (wpAny_rule (wpAny_pure ?_))
    exact ⟨.non, H, I2, rfl, q0 rfl H (Same.refl H)⟩
  · have lt : 0 < as.length := List.length_pos_iff.mpr h0
    have ha : as[0]? = some as[0] := by simp [lt]
    obtain ⟨u, hu, ru⟩ := rv.get (i := 0) (x := V.ref as[0]) (by rw [List.getElem?_map, ha]; rfl)
    obtain rfl : u = Value.ref as[0] := ru
    refine wpAny_bind (wpAny_tryCatch (wpAny_pyNext_list_item hit pl1 (x := .ref as[0]) (by simpa using hu) fun h' hit' sb => ?_))
    have I2 : Inv X pins σ H { s with heap := h' } := Inv.turnedL (s := { s with heap := h2 }) (h' := h') (t' := s.toks) (ch := [it, Z]) I1 (fun b o hb e => (sb.2 b (fun q => hb (by simp [q]))).trans e) fp
    have z1 := (sb.2 Z (Ne.symm hne)).trans gZ
    show wpAny _ X.A.in1 (tryCatch (holding [.ref as[0]] (call (.ref f) [.ref as[0]])) _ >>= _) _ _ _
    obtain ⟨oi, hoi, ci, di⟩ := id hit'
    have ob : ∀ b ∈ [it, Z], ∃ o, h'.get? b = some o ∧ ∀ v, o.data ≠ .cell v := fun b hb => by
      simp only [List.mem_cons, List.not_mem_nil, or_false] at hb
      rcases hb with q | q <;> subst q
      · exact ⟨oi, hoi, fun v q => by rw [di] at q; cases q⟩
      · exact ⟨_, z1, fun v q => by cases q⟩
    have Ip := I2.pinned fp ob
    refine wpAny_bind (wpAny_tryCatch (wpAny_holding (wpAny_mono (run_fn (X := X.i1) (us := [.ref as[0]]) (vs := [.ref as[0]]) (Q := fun v H2 => v = .int (kf 0) ∧ Same H H2) (E := E0) G hr.in1 hb .nil pass0 Ip.i1 (.cons rfl .nil) (hk 0 _ H _ ha (Same.refl H) fun H2 s2 => ⟨rfl, s2⟩)) (fun v s2 hq => ?_) fun _ _ z => z.elim)))
    obtain ⟨y, H2, I2', ry, ey, s2'⟩ := hq
    subst ey
    obtain ⟨t, rfl⟩ := ry
    have I3' : Inv X (pins ++ pinsAt [it, Z] h') σ H2 s2 := I2'.o1 I.ok.hd I.ok.frames
    have pin : ∀ b o, b ∈ [it, Z] → h'.get? b = some o → s2.heap.get? b = some o ∧ H2 b = none := fun b o hb e => by
      have z := I3'.pin (b, o) (List.mem_append_right _ (List.mem_append_right _ (mem_pinsAt hb e)))
      exact ⟨z.1, z.2.1⟩
    have z2 := (pin Z _ (by simp) z1).1
    have fp2 : ∀ b ∈ [it, Z], FpOk X pins H2 b := fun b hb => by
      obtain ⟨o, e, _⟩ := ob b hb
      exact ⟨(pin b o hb e).2, (fp b hb).2⟩
    have I3 : Inv X pins σ H2 s2 := I3'.unpinned
    show wpAny _ X.A.in1 (updateSeq Z (fun _ => #[.ref as[0], .int (kf 0) t]) >>= _) _ _ _
    refine wpAny_bind (wpAny_updateSeq z2 rfl ?_)
    rw [nm]
    refine wpAny_pure ⟨plainId_quiet PySem.F.plain_max_loop _, ?_⟩
    exact maxK_loop (it := it) (Z := Z) (l := l) (as := as) (kf := kf) (H := H) G hr hb hc hS hk hne (as.length - (0 + 1)) 0 _ H2 _ _ _ rfl lt (I3.turnedL (t' := s2.toks) (ch := [it, Z]) (fun b o hb e => (Heap.get?_update_other _ _ (fun q => hb (by simp [q]))).trans e) fp2) s2' fp2
      ⟨oi, (Heap.get?_update_other _ _ (Ne.symm hne)).trans (pin it _ (by simp) hoi).1, ci, di⟩ (Heap.get?_update_self _ z2 rfl) ⟨_, ha, rfl⟩ ⟨t, rfl⟩ fun a s' H' I' s'' e => ⟨.ref a, H', I', rfl, q1 a H' e s''⟩
end
section
variable {X : Cx}
def tmaxK (K : PySem.W.Frag) (f : Addr) (sp : Sp) (ta tk : TA) : TE := fun σ H Q => ta σ H fun vs H1 => tk σ H1 fun ws H2 => rmaxK K f sp vs ws H2 Q
theorem pe_maxK {k : Nat} {f : Addr} {fd : FuncData} {p0 : Str} {sp : Sp} {l : Expr} {kws : List Keyword} {ta tk : TA} {p pos : Pos} (G : FnOk X.prog X.w X.K X.mg X.base CX0 k f fd [p0] sp) (hr : Room (k + 1) X.A) (hb : Binds X.K fd [p0] []) (hc : X.calm = true)
    (hg : Gl X "max") (hm : X.mg "max" = none) (ha : PA X [l] ta) (hk : PK X kws tk) (hks : (backToKw pos (keywordEach kws X.env)).filterMap (·.1) = [Str.ofString "key", Str.ofString "default"] := by rfl)
    (he : backTo pos (starEach [l] X.env) = (false, eval l X.env) :: backTo pos (starEach [] X.env) := by rfl) (hpl : (backTo pos (starEach [l] X.env)).any (·.1) = false := by rfl)
    (hall : (backToKw pos (keywordEach kws X.env)).all (·.1.isSome) = true := by rfl) (hkw : (backToKw pos (keywordEach kws X.env)).any (·.1.isNone) = false := by rfl) :
    PE X (.Call (.Name "max" p) [l] kws pos) (tmaxK X.K f sp ta tk) := by
  intro pins s σ H Q I h
  refine wpAny_Call_Name_kw (ld_blt I hg hm PyProof.Rows.boot_max (callWith_bK (thn (ha pos pins s σ H _ I h) fun us s1 ⟨vs, H1, I1, r1, q1⟩ => thn (hk pos pins s1 σ H1 _ I1 q1) fun ks s2 ⟨ws, H2, I2, r2, q2⟩ => ?_) he hpl hall hkw))
  rw [hks]
  exact call_maxK G hr hb hc I2 r1 r2 q2
end
section
variable {X : Cx} {pins : List (Addr × Obj)} {σ : St}
theorem minK_loop {k : Nat} {f : Addr} {fd : FuncData} {p0 : Str} {sp : Sp} {H : Hp} {l it Z : Addr} {as : List Addr} {kf : Nat → Int} {R : Result → Shared → Prop}
    (G : FnOk X.prog X.w X.K X.mg X.base CX0 k f fd [p0] sp) (hr : Room (k + 1) X.A) (hb : Binds X.K fd [p0] []) (hc : X.calm = true) (hS : SqL X.K H l (as.map V.ref)) (hk : KeyOk sp H as kf) (hne : it ≠ Z) :
    ∀ (m j : Nat) (s : Shared) (H1 : Hp) (vb vk : Value) (c : Nat), as.length - (j + 1) = m → j + 1 ≤ as.length → Inv X pins σ H1 s → Same H H1 → (∀ b ∈ [it, Z], FpOk X pins H1 b) → s.heap.IsListIter it l (j + 1) →
      s.heap.get? Z = some { cls := .type "list", dict := none, data := .seq #[vb, vk] c, slots := #[] } → (∃ a, as[argBest (fun i j => decide (kf i < kf j)) j]? = some a ∧ vb = .ref a) → (∃ t, vk = .int (kf (argBest (fun i j => decide (kf i < kf j)) j)) t) →
      (∀ a s' H', Inv X pins σ H' s' → Same H H' → as[argBest (fun i j => decide (kf i < kf j)) (as.length - 1)]? = some a → R (.ok (.ret (.ref a))) s') → codeAny (model X.prog X.w) X.A (.builtin "min.loop" ⟨[.ref it, .ref f, .ref Z], [("default", .none)]⟩) R s := by
  have nm : (toString "min" ++ toString ".loop" : String) = "min.loop" := by decide
  have T := turn_list (P := X.prog) (w := X.w) (K := X.K) (tg := .Name "" ⟨0, 0, 0, 0⟩) l it
  intro m
  induction m with
  | zero =>
    intro j s H1 vb vk c e1 e2 I s1 fp hit z0 hvb hvk fin
    have en : j + 1 = as.length := by omega
    refine codeAny_builtin PySem.F.entry_min_loop ?_
    rw [Around.under_plainId PySem.F.plain_min_loop _]
    show wpAny _ X.A.in1 (seqItems? (.ref Z) >>= _) _ _ s
    refine wpAny_bind (wpAny_seqItems z0 rfl ?_)
    show wpAny _ X.A.in1 (tryCatch (pyNext (.ref it)) _ >>= _) _ _ s
    obtain ⟨its, rv, pl, hz⟩ := I.list (s1.seq hS)
    have hl := rv.length
    rw [List.length_map] at hl
    refine wpAny_bind (wpAny_tryCatch (wpAny_pyNext_list_end (show X.A.in1.handled = none from I.ok.hd hc) hit pl.isList (by simp; omega) fun h' eb => ?_))
    have I1 : Inv X pins σ H1 { s with heap := h' } := I.turnedL (t' := s.toks) (ch := [it, Z]) (fun b o hb e => eb b o (fun q => hb (by simp [q])) e) fp
    have z1 := eb Z _ (Ne.symm hne) z0
    show wpAny _ X.A.in1 (updateSeq Z (fun _ => #[]) >>= _) _ _ _
    refine wpAny_bind (wpAny_updateSeq z1 rfl (wpAny_bind (wpAny_letGo (wpAny_pure ?_))))
    obtain ⟨a, ha, rfl⟩ := hvb
    refine fin a _ H1 (I1.turnedL (t' := s.toks) (ch := [it, Z]) (fun b o hb e => (Heap.get?_update_other _ _ (fun q => hb (by simp [q]))).trans e) fp) s1 ?_
    have e3 : as.length - 1 = j := by omega
    rw [e3]
    exact ha
  | succ m ih =>
    intro j s H1 vb vk c e1 e2 I s1 fp hit z0 hvb hvk fin
    have lt : j + 1 < as.length := by omega
    refine codeAny_builtin PySem.F.entry_min_loop ?_
    rw [Around.under_plainId PySem.F.plain_min_loop _]
    show wpAny _ X.A.in1 (seqItems? (.ref Z) >>= _) _ _ s
    refine wpAny_bind (wpAny_seqItems z0 rfl ?_)
    show wpAny _ X.A.in1 (tryCatch (pyNext (.ref it)) _ >>= _) _ _ s
    obtain ⟨its, rv, pl, hz⟩ := I.list (s1.seq hS)
    have ha : as[j + 1]? = some as[j + 1] := by simp [lt]
    obtain ⟨u, hu, ru⟩ := rv.get (i := j + 1) (x := V.ref as[j + 1]) (by rw [List.getElem?_map, ha]; rfl)
    obtain rfl : u = Value.ref as[j + 1] := ru
    refine wpAny_bind (wpAny_tryCatch (wpAny_pyNext_list_item hit pl.isList (x := .ref as[j + 1]) (by simpa using hu) fun h' hit' sb => ?_))
    have I1 : Inv X pins σ H1 { s with heap := h' } := I.turnedL (t' := s.toks) (ch := [it, Z]) (fun b o hb e => (sb.2 b (fun q => hb (by simp [q]))).trans e) fp
    have z1 := (sb.2 Z (Ne.symm hne)).trans z0
    show wpAny _ X.A.in1 (tryCatch (holding [.ref as[j + 1]] (call (.ref f) [.ref as[j + 1]])) _ >>= _) _ _ _
    obtain ⟨oi, hoi, ci, di⟩ := id hit'
    have ob : ∀ b ∈ [it, Z], ∃ o, h'.get? b = some o ∧ ∀ v, o.data ≠ .cell v := fun b hb => by
      simp only [List.mem_cons, List.not_mem_nil, or_false] at hb
      rcases hb with q | q <;> subst q
      · exact ⟨oi, hoi, fun v q => by rw [di] at q; cases q⟩
      · exact ⟨_, z1, fun v q => by cases q⟩
    have Ip := I1.pinned fp ob
    refine wpAny_bind (wpAny_tryCatch (wpAny_holding (wpAny_mono (run_fn (X := X.i1) (us := [.ref as[j + 1]]) (vs := [.ref as[j + 1]]) (Q := fun v H2 => v = .int (kf (j + 1)) ∧ Same H1 H2) (E := E0) G hr.in1 hb .nil pass0 Ip.i1 (.cons rfl .nil) (hk (j + 1) _ H1 _ ha s1 fun H2 s2 => ⟨rfl, s2⟩)) (fun v s2 hq => ?_) fun _ _ z => z.elim)))
    obtain ⟨y, H2, I2', ry, ey, s2'⟩ := hq
    subst ey
    obtain ⟨t, rfl⟩ := ry
    have I2 : Inv X (pins ++ pinsAt [it, Z] h') σ H2 s2 := I2'.o1 I.ok.hd I.ok.frames
    have pin : ∀ b o, b ∈ [it, Z] → h'.get? b = some o → s2.heap.get? b = some o ∧ H2 b = none := fun b o hb e => by
      have z := I2.pin (b, o) (List.mem_append_right _ (List.mem_append_right _ (mem_pinsAt hb e)))
      exact ⟨z.1, z.2.1⟩
    have z2 := (pin Z _ (by simp) z1).1
    have hit2 : s2.heap.IsListIter it l (j + 1 + 1) := ⟨oi, (pin it _ (by simp) hoi).1, ci, di⟩
    have fp2 : ∀ b ∈ [it, Z], FpOk X pins H2 b := fun b hb => by
      obtain ⟨o, e, _⟩ := ob b hb
      exact ⟨(pin b o hb e).2, (fp b hb).2⟩
    have I3 : Inv X pins σ H2 s2 := I2.unpinned
    have s3 : Same H H2 := Same.trans s1 s2'
    obtain ⟨tb, rfl⟩ := hvk
    show wpAny _ X.A.in1 (tryCatch (holding [.ref as[j + 1], .int (kf (j + 1)) t] (richCompare .Lt (.int (kf (j + 1)) t) (.int (kf (argBest (fun i j => decide (kf i < kf j)) j)) tb) >>= _)) _ >>= _) _ _ _
    refine wpAny_bind (wpAny_tryCatch (wpAny_holding (wpAny_bind (lt_int ?_))))
    refine wpAny_bind (wpAny_holding (wpAny_truthy_bool (wpAny_bind (wpAny_letGo (wpAny_pure ?_)))))
    cases hbt : decide (kf (j + 1) < kf (argBest (fun i j => decide (kf i < kf j)) j)) with
    | true =>
      simp only [if_true]
      refine wpAny_bind (wpAny_updateSeq z2 rfl (wpAny_bind (wpAny_letGo ?_)))
      rw [nm]
      have ek : argBest (fun i j => decide (kf i < kf j)) (j + 1) = j + 1 := argBest_T hbt
      refine wpAny_pure ⟨plainId_quiet PySem.F.plain_min_loop _, ih (j + 1) _ H2 _ _ _ (by omega) lt (I3.turnedL (t' := s2.toks) (ch := [it, Z]) (fun b o hb e => (Heap.get?_update_other _ _ (fun q => hb (by simp [q]))).trans e) fp2) s3 fp2
        ⟨oi, (Heap.get?_update_other _ _ (Ne.symm hne)).trans (pin it _ (by simp) hoi).1, ci, di⟩ (Heap.get?_update_self _ z2 rfl) ⟨_, by rw [ek]; exact ha, rfl⟩ ⟨t, by rw [ek]⟩ fin⟩
    | false =>
      simp only [Bool.false_eq_true, if_false]
      refine wpAny_bind (wpAny_letGo ?_)
      rw [nm]
      have ek : argBest (fun i j => decide (kf i < kf j)) (j + 1) = argBest (fun i j => decide (kf i < kf j)) j := argBest_F hbt
      refine wpAny_pure ⟨plainId_quiet PySem.F.plain_min_loop _, ih (j + 1) _ H2 _ _ _ (by omega) lt I3 s3 fp2 hit2 z2 (by rw [ek]; exact hvb) ⟨tb, by rw [ek]⟩ fin⟩
def rminK (K : PySem.W.Frag) (f : Addr) (sp : Sp) : List V → List V → Hp → VK → Prop := fun xs ws H Q => ∃ (l : Addr) (as : List Addr) (kf : Nat → Int), xs = [.ref l] ∧ ws = [.ref f, .non] ∧ SqL K H l (as.map V.ref) ∧ KeyOk sp H as kf ∧
  (as = [] → ∀ H', Same H H' → Q .non H') ∧ ∀ a H', as[argBest (fun i j => decide (kf i < kf j)) (as.length - 1)]? = some a → Same H H' → Q (.ref a) H'
set_option maxHeartbeats 1000000 in
theorem args_minK (a b : Value) : argsOk "min" ⟨[a], [(Str.ofString "key", b), (Str.ofString "default", .none)]⟩ := by unfold argsOk; kernel_rfl
set_option maxHeartbeats 1000000 in
theorem call_minK {k : Nat} {f : Addr} {fd : FuncData} {p0 : Str} {sp : Sp} (G : FnOk X.prog X.w X.K X.mg X.base CX0 k f fd [p0] sp) (hr : Room (k + 1) X.A) (hb : Binds X.K fd [p0] []) (hc : X.calm = true)
    {s : Shared} {H : Hp} {xs ws : List V} {us ks : List Value} {Q : VK} (I : Inv X pins σ H s) (r : Vals xs us) (r2 : Vals ws ks) (h : rminK X.K f sp xs ws H Q) :
    wpAny (model X.prog X.w) X.A (call (.builtin "min") us ([Str.ofString "key", Str.ofString "default"].zip ks)) (EP X pins σ Q) X.xe s := by
  obtain ⟨l, as, kf, e1, e2, hS, hk, q0, q1⟩ := h
  subst e1 e2
  obtain ⟨u, rfl, ru⟩ := vals1 r
  obtain rfl : u = Value.ref l := ru
  obtain ⟨v1, v2, rfl, rf, rn⟩ := vals2 r2
  obtain rfl : v1 = Value.ref f := rf
  obtain rfl : v2 = Value.none := rn
  have nm : (toString "min" ++ toString ".loop" : String) = "min.loop" := by decide
  refine PyProof.Rows.kmk_tree PySem.F.kind_min PySem.F.plain_min PySem.F.entry_min (args_minK _ _) ?_
  show wpAny _ X.A.in1 (Builtin.Builtins.bindParams "min" ["key", "default"] 0 ⟨[], [(Str.ofString "key", .ref f), (Str.ofString "default", .none)]⟩ >>= _) _ _ s
  refine wpAny_bind (wpAny_of_eq (show Builtin.Builtins.bindParams "min" ["key", "default"] 0 ⟨[], [(Str.ofString "key", .ref f), (Str.ofString "default", .none)]⟩ = pure [some (.ref f), some .none] from rfl) ?_)
  refine wpAny_bind (wpAny_pure ?_)
  obtain ⟨its, rv, pl, hz⟩ := I.list hS
  have hlen := rv.length
  rw [List.length_map] at hlen
  have ll : l < s.heap.objs.size := by obtain ⟨o, ho, _⟩ := pl.isList; exact Heap.lt_size ho
  refine wpAny_bind (wpAny_pyIter_list pl.isList ?_)
  refine wpAny_bind (wpAny_newList ?_ (Nat.zero_le _))
  rw [nm]
  generalize hh1 : s.heap.push { cls := .type "list_iterator", data := .fields #[.ref l, .int 0 0] } = h1
  have sz1 : h1.objs.size = s.heap.objs.size + 1 := by rw [← hh1]; exact Heap.size_push ..
  generalize hh2 : h1.push { cls := .type "list", dict := none, data := .seq (([] : List Value).toArray) 0 } = h2
  have k1 : ∀ b o, s.heap.get? b = some o → h2.get? b = some o := fun b o e => by rw [← hh2, ← hh1]; exact Heap.get?_push_of_some _ (Heap.get?_push_of_some _ e)
  have gI : h2.get? s.heap.objs.size = some { cls := .type "list_iterator", data := .fields #[.ref l, .int 0 0] } := by rw [← hh2, ← hh1]; exact Heap.get?_push_of_some _ (Heap.get?_push_size _ rfl)
  have gZ : h2.get? h1.objs.size = some { cls := .type "list", dict := none, data := .seq #[] 0, slots := #[] } := by rw [← hh2]; exact Heap.get?_push_size _ rfl
  have I1 : Inv X pins σ H { s with heap := h2 } := I.kept (t' := s.toks) k1
  have hne : s.heap.objs.size ≠ h1.objs.size := by rw [sz1]; exact Nat.ne_of_lt (Nat.lt_succ_self _)
  have fp : ∀ b ∈ [s.heap.objs.size, h1.objs.size], FpOk X pins H b := fun b hb => by
    have ge : s.heap.objs.size ≤ b := by
      simp only [List.mem_cons, List.not_mem_nil, or_false] at hb
      rcases hb with q | q <;> rw [q]
      · exact Nat.le_refl _
      · rw [sz1]; exact Nat.le_succ _
    exact I.fpOk ge (I.hok.fresh ge)
  refine wpAny_pure ⟨plainId_quiet PySem.F.plain_min_loop _, ?_⟩
  generalize s.heap.objs.size = it at *
  generalize h1.objs.size = Z at *
  have hit : h2.IsListIter it l 0 := ⟨_, gI, rfl, rfl⟩
  refine codeAny_builtin PySem.F.entry_min_loop ?_
  rw [Around.under_plainId PySem.F.plain_min_loop _]
  show wpAny _ X.A.in1 (seqItems? (.ref Z) >>= _) _ _ _
  refine wpAny_bind (wpAny_seqItems gZ rfl ?_)
  show wpAny _ X.A.in1 (tryCatch (pyNext (.ref it)) _ >>= _) _ _ _
  have pl1 : h2.IsList l its.toArray := pl.isList.at fun o e => k1 l o e
  by_cases h0 : as = []
  · subst h0
    have e0 : its = [] := List.length_eq_zero_iff.mp (by simpa using hlen.symm)
    subst e0
    refine wpAny_bind (wpAny_tryCatch (wpAny_pyNext_list_end (show X.A.in1.handled = none from I.ok.hd hc) hit pl1 (by simp) fun h' eb => ?_))
    have I2 : Inv X pins σ H { s with heap := h' } := Inv.turnedL (s := { s with heap := h2 }) (h' := h') (t' := s.toks) (ch := [it, Z]) I1 (fun b o hb e => eb b o (fun q => hb (by simp [q])) e) fp
    refine wpAny_bind (wpAny_rule (wpAny_pure ?_))
    exact ⟨.non, H, I2, rfl, q0 rfl H (Same.refl H)⟩
  · have lt : 0 < as.length := List.length_pos_iff.mpr h0
    have ha : as[0]? = some as[0] := by simp [lt]
    obtain ⟨u, hu, ru⟩ := rv.get (i := 0) (x := V.ref as[0]) (by rw [List.getElem?_map, ha]; rfl)
    obtain rfl : u = Value.ref as[0] := ru
    refine wpAny_bind (wpAny_tryCatch (wpAny_pyNext_list_item hit pl1 (x := .ref as[0]) (by simpa using hu) fun h' hit' sb => ?_))
    have I2 : Inv X pins σ H { s with heap := h' } := Inv.turnedL (s := { s with heap := h2 }) (h' := h') (t' := s.toks) (ch := [it, Z]) I1 (fun b o hb e => (sb.2 b (fun q => hb (by simp [q]))).trans e) fp
    have z1 := (sb.2 Z (Ne.symm hne)).trans gZ
    show wpAny _ X.A.in1 (tryCatch (holding [.ref as[0]] (call (.ref f) [.ref as[0]])) _ >>= _) _ _ _
    obtain ⟨oi, hoi, ci, di⟩ := id hit'
    have ob : ∀ b ∈ [it, Z], ∃ o, h'.get? b = some o ∧ ∀ v, o.data ≠ .cell v := fun b hb => by
      simp only [List.mem_cons, List.not_mem_nil, or_false] at hb
      rcases hb with q | q <;> subst q
      · exact ⟨oi, hoi, fun v q => by rw [di] at q; cases q⟩
      · exact ⟨_, z1, fun v q => by cases q⟩
    have Ip := I2.pinned fp ob
    refine wpAny_bind (wpAny_tryCatch (wpAny_holding (wpAny_mono (run_fn (X := X.i1) (us := [.ref as[0]]) (vs := [.ref as[0]]) (Q := fun v H2 => v = .int (kf 0) ∧ Same H H2) (E := E0) G hr.in1 hb .nil pass0 Ip.i1 (.cons rfl .nil) (hk 0 _ H _ ha (Same.refl H) fun H2 s2 => ⟨rfl, s2⟩)) (fun v s2 hq => ?_) fun _ _ z => z.elim)))
    obtain ⟨y, H2, I2', ry, ey, s2'⟩ := hq
    subst ey
    obtain ⟨t, rfl⟩ := ry
    have I3' : Inv X (pins ++ pinsAt [it, Z] h') σ H2 s2 := I2'.o1 I.ok.hd I.ok.frames
    have pin : ∀ b o, b ∈ [it, Z] → h'.get? b = some o → s2.heap.get? b = some o ∧ H2 b = none := fun b o hb e => by
      have z := I3'.pin (b, o) (List.mem_append_right _ (List.mem_append_right _ (mem_pinsAt hb e)))
      exact ⟨z.1, z.2.1⟩
    have z2 := (pin Z _ (by simp) z1).1
    have fp2 : ∀ b ∈ [it, Z], FpOk X pins H2 b := fun b hb => by
      obtain ⟨o, e, _⟩ := ob b hb
      exact ⟨(pin b o hb e).2, (fp b hb).2⟩
    have I3 : Inv X pins σ H2 s2 := I3'.unpinned
    show wpAny _ X.A.in1 (updateSeq Z (fun _ => #[.ref as[0], .int (kf 0) t]) >>= _) _ _ _
    refine wpAny_bind (wpAny_updateSeq z2 rfl ?_)
    rw [nm]
    refine wpAny_pure ⟨plainId_quiet PySem.F.plain_min_loop _, ?_⟩
    exact minK_loop (it := it) (Z := Z) (l := l) (as := as) (kf := kf) (H := H) G hr hb hc hS hk hne (as.length - (0 + 1)) 0 _ H2 _ _ _ rfl lt (I3.turnedL (t' := s2.toks) (ch := [it, Z]) (fun b o hb e => (Heap.get?_update_other _ _ (fun q => hb (by simp [q]))).trans e) fp2) s2' fp2
      ⟨oi, (Heap.get?_update_other _ _ (Ne.symm hne)).trans (pin it _ (by simp) hoi).1, ci, di⟩ (Heap.get?_update_self _ z2 rfl) ⟨_, ha, rfl⟩ ⟨t, rfl⟩ fun a s' H' I' s'' e => ⟨.ref a, H', I', rfl, q1 a H' e s''⟩
end
section
variable {X : Cx}
def tminK (K : PySem.W.Frag) (f : Addr) (sp : Sp) (ta tk : TA) : TE := fun σ H Q => ta σ H fun vs H1 => tk σ H1 fun ws H2 => rminK K f sp vs ws H2 Q
theorem pe_minK {k : Nat} {f : Addr} {fd : FuncData} {p0 : Str} {sp : Sp} {l : Expr} {kws : List Keyword} {ta tk : TA} {p pos : Pos} (G : FnOk X.prog X.w X.K X.mg X.base CX0 k f fd [p0] sp) (hr : Room (k + 1) X.A) (hb : Binds X.K fd [p0] []) (hc : X.calm = true)
    (hg : Gl X "min") (hm : X.mg "min" = none) (ha : PA X [l] ta) (hk : PK X kws tk) (hks : (backToKw pos (keywordEach kws X.env)).filterMap (·.1) = [Str.ofString "key", Str.ofString "default"] := by rfl)
    (he : backTo pos (starEach [l] X.env) = (false, eval l X.env) :: backTo pos (starEach [] X.env) := by rfl) (hpl : (backTo pos (starEach [l] X.env)).any (·.1) = false := by rfl)
    (hall : (backToKw pos (keywordEach kws X.env)).all (·.1.isSome) = true := by rfl) (hkw : (backToKw pos (keywordEach kws X.env)).any (·.1.isNone) = false := by rfl) :
    PE X (.Call (.Name "min" p) [l] kws pos) (tminK X.K f sp ta tk) := by
  intro pins s σ H Q I h
  refine wpAny_Call_Name_kw (ld_blt I hg hm PyProof.Rows.boot_min (callWith_bK (thn (ha pos pins s σ H _ I h) fun us s1 ⟨vs, H1, I1, r1, q1⟩ => thn (hk pos pins s1 σ H1 _ I1 q1) fun ks s2 ⟨ws, H2, I2, r2, q2⟩ => ?_) he hpl hall hkw))
  rw [hks]
  exact call_minK G hr hb hc I2 r1 r2 q2
end
end L2
namespace L2
open PySem PySem.Spec PyProof.Rows
section
variable {X : Cx} {tg : Expr}
end
end L2
namespace L2
open PySem PySem.Spec PyProof.Rows
abbrev gTwo (K : PySem.W.Frag) : TG := gTup K 2 (gCons (gName 0) (gCons (gName 1) gNil))
theorem Same.put1 {H H2 : Hp} {l : Addr} {o : HO} (s : Same H H2) (hn : H l = none) : Same H (upd H2 l o) := fun b u e => by
  rw [upd_ne (ne_of_none e hn)]
  exact s b u e
theorem range_filter_succ {α : Type} (n : Nat) (c : Nat → Bool) (f : Nat → α) : ((List.range (n + 1)).filter c).map f = ((List.range n).filter c).map f ++ (if c n = true then [f n] else []) := by
  rw [List.range_succ, List.filter_append, List.map_append]
  by_cases h : c n = true
  · rw [if_pos h, List.filter_cons_of_pos h]; rfl
  · rw [if_neg h, List.filter_cons_of_neg h]; rfl
theorem comp_zipP {K : PySem.W.Frag} {a b : Addr} {xs ys : List V} {tt : TT} {te : TE} {σ : St} {H : Hp} {Q : VK} (c : Nat → Bool) (f : Nat → V) (hA : SqL K H a xs) (hB : SqL K H b ys) (hn : min xs.length ys.length < sizeLine)
    (ht : ∀ (i : Nat) (x y : V) (H' : Hp) (Q' : Bool → Hp → Prop), xs[i]? = some x → ys[i]? = some y → Same H H' → (∀ H'', Same H' H'' → Q' (c i) H'') → tt (some x :: some y :: σ) H' Q')
    (he : ∀ (i : Nat) (x y : V) (H' : Hp) (Q' : VK), c i = true → xs[i]? = some x → ys[i]? = some y → Same H H' → (∀ H'', Same H' H'' → Q' (f i) H'') → te (some x :: some y :: σ) H' Q')
    (hd : ∀ D H', H D = none → Same H H' → H' D = some (.lst (((List.range (min xs.length ys.length)).filter c).map f)) → Q (.ref D) H') : CompGoN (Itz K a b) H 2 σ (gTwo K) tt te Q := by
  intro D hD
  refine ⟨fun i m H' => m = min xs.length ys.length - i ∧ i ≤ min xs.length ys.length ∧ Same H H' ∧ H' D = some (.lst (((List.range i).filter c).map f)), ⟨_, rfl, Nat.zero_le _, Same.put1 (Same.refl H) hD, upd_same⟩, ?_⟩
  rintro i m H' ⟨rfl, hi, s1, hl⟩
  have qa := s1.seq hA
  have qb := s1.seq hB
  by_cases hlt : i < min xs.length ys.length
  · have hx : i < xs.length := by omega
    have hy : i < ys.length := by omega
    refine .inr ⟨⟨xs, ys, xs[i], ys[i], qa, qb, by simp [hx], by simp [hy]⟩, fun x H2 ρ lρ y => ?_⟩
    obtain ⟨p, u, v, rfl, hp, rfl, yu, yv⟩ := y
    have eu := yu xs qa
    have ev := yv ys qb
    match ρ, lρ with
    | [r0, r1], _ =>
      have s2 : Same H' (upd H' p (.tup [u, v])) := Same.put1 (Same.refl _) hp
      refine ⟨p, _, rfl, SqT.of upd_same, rfl, _, _, rfl, _, _, rfl, rfl, ⟨[some u, some v], rfl, rfl⟩, ?_⟩
      have s12 := Same.trans s1 s2
      have hl2 := s2 _ _ hl
      refine ht i u v _ _ eu ev s12 fun H3 s3 => ?_
      have hl3 := s3 _ _ hl2
      have s13 := Same.trans s12 s3
      cases hc : c i with
      | true =>
        refine iteT (he i u v _ _ hc eu ev s13 fun H4 s4 => ⟨_, s4 _ _ hl3, ?_, _, Nat.sub_succ_lt_self _ _ hlt, rfl, hlt, Same.put1 (Same.trans s13 s4) hD, ?_⟩)
        · rw [List.length_map]
          exact Nat.lt_of_le_of_lt (Nat.le_trans (List.length_filter_le _ _) (by rw [List.length_range]; omega)) hn
        · rw [upd_same, range_filter_succ, if_pos hc]
      | false =>
        refine iteF ⟨_, Nat.sub_succ_lt_self _ _ hlt, rfl, hlt, s13, ?_⟩
        rw [hl3, range_filter_succ, if_neg (by rw [hc]; exact Bool.false_ne_true), List.append_nil]
  · have e : i = min xs.length ys.length := by omega
    refine .inl ⟨⟨xs, ys, qa, qb, by omega⟩, ?_⟩
    rw [e] at hl
    exact hd D H' hD s1 hl
theorem comp_tupP {K : PySem.W.Frag} {a : Addr} {xs : List V} {tt : TT} {te : TE} {σ : St} {H : Hp} {Q : VK} (c : Nat → Bool) (f : Nat → V) (hA : H a = some (.tup xs)) (hn : xs.length < sizeLine)
    (ht : ∀ (i : Nat) (x : V) (H' : Hp) (Q' : Bool → Hp → Prop), xs[i]? = some x → Same H H' → (∀ H'', Same H' H'' → Q' (c i) H'') → tt (some x :: σ) H' Q')
    (he : ∀ (i : Nat) (x : V) (H' : Hp) (Q' : VK), c i = true → xs[i]? = some x → Same H H' → (∀ H'', Same H' H'' → Q' (f i) H'') → te (some x :: σ) H' Q')
    (hd : ∀ D H', H D = none → Same H H' → H' D = some (.lst (((List.range xs.length).filter c).map f)) → Q (.ref D) H') : CompGo (Itt K a) H σ tt te Q := by
  intro D hD
  refine ⟨fun i m H' => m = xs.length - i ∧ i ≤ xs.length ∧ Same H H' ∧ H' D = some (.lst (((List.range i).filter c).map f)), ⟨_, rfl, Nat.zero_le _, Same.put1 (Same.refl H) hD, upd_same⟩, ?_⟩
  rintro i m H' ⟨rfl, hi, s1, hl⟩
  have qa : SqT K H' a xs := SqT.of (s1 _ _ hA)
  by_cases hlt : i < xs.length
  · refine .inr ⟨⟨xs, xs[i], qa, by simp [hlt]⟩, fun x H2 y => ?_⟩
    obtain ⟨e, y⟩ := y
    subst e
    have eu := y xs qa
    refine ht i x _ _ eu s1 fun H3 s3 => ?_
    have hl3 := s3 _ _ hl
    have s13 := Same.trans s1 s3
    cases hc : c i with
    | true =>
      refine iteT (he i x _ _ hc eu s13 fun H4 s4 => ⟨_, s4 _ _ hl3, ?_, _, Nat.sub_succ_lt_self _ _ hlt, rfl, hlt, Same.put1 (Same.trans s13 s4) hD, ?_⟩)
      · rw [List.length_map]
        exact Nat.lt_of_le_of_lt (Nat.le_trans (List.length_filter_le _ _) (by rw [List.length_range]; omega)) hn
      · rw [upd_same, range_filter_succ, if_pos hc]
    | false =>
      refine iteF ⟨_, Nat.sub_succ_lt_self _ _ hlt, rfl, hlt, s13, ?_⟩
      rw [hl3, range_filter_succ, if_neg (by rw [hc]; exact Bool.false_ne_true), List.append_nil]
  · have e : i = xs.length := by omega
    refine .inl ⟨⟨xs, qa, by omega⟩, ?_⟩
    rw [e] at hl
    exact hd D H' hD s1 hl
end L2
namespace S2
open PySem L2
def RowsOf (H : Hp) (as : List Addr) (rows : List (List V)) : Prop := as.length = rows.length ∧ ∀ (i : Nat) (p : Addr) (r : List V), as[i]? = some p → rows[i]? = some r → H p = some (.tup r)
theorem RowsOf.same {H H2 : Hp} {as : List Addr} {rows : List (List V)} (h : RowsOf H as rows) (s : Same H H2) : RowsOf H2 as rows := ⟨h.1, fun i p r e1 e2 => s _ _ (h.2 i p r e1 e2)⟩
theorem RowsOf.nil {H : Hp} : RowsOf H [] [] := ⟨rfl, fun i p r e => by simp at e⟩
theorem RowsOf.snoc {H H2 : Hp} {as : List Addr} {rows : List (List V)} {p : Addr} {r : List V} (h : RowsOf H as rows) (s : Same H H2) (hp : H2 p = some (.tup r)) : RowsOf H2 (as ++ [p]) (rows ++ [r]) := by
  refine ⟨by rw [List.length_append, List.length_append, h.1]; rfl, fun i q x e1 e2 => ?_⟩
  by_cases hi : i < as.length
  · rw [List.getElem?_append_left hi] at e1
    rw [List.getElem?_append_left (by rw [← h.1]; exact hi)] at e2
    exact s _ _ (h.2 i q x e1 e2)
  · rw [List.getElem?_append_right (by omega)] at e1
    rw [List.getElem?_append_right (by rw [← h.1]; omega), ← h.1] at e2
    cases e : i - as.length with
    | zero =>
      rw [e] at e1 e2
      cases e1
      cases e2
      exact hp
    | succ d => rw [e] at e1; simp at e1
theorem RowsOf.get {H : Hp} {as : List Addr} {rows : List (List V)} (h : RowsOf H as rows) {i : Nat} {x : V} (e : (as.map V.ref)[i]? = some x) : ∃ p r, x = .ref p ∧ as[i]? = some p ∧ rows[i]? = some r ∧ H p = some (.tup r) := by
  rw [List.getElem?_map] at e
  cases e1 : as[i]? with
  | none => rw [e1] at e; cases e
  | some p =>
    rw [e1] at e
    have hi : i < rows.length := by rw [← h.1]; exact get_lt e1
    exact ⟨p, rows[i], (Option.some.inj e).symm, rfl, by simp [hi], h.2 i p rows[i] e1 (by simp [hi])⟩
structure Fl where
  nm : Str
  lf : Bool
  w : Int
  h : Int
structure Pl where
  nm : Str
  x : Int
  y : Int
  w : Int
  h : Int
def fl0 : Fl := ⟨"", true, 0, 0⟩
def pl0 : Pl := ⟨"", 0, 0, 0, 0⟩
def sideOf (b : Bool) : Str := if b = true then "left" else "right"
def flRow (f : Fl) : List V := [.str f.nm, .str (sideOf f.lf), .int f.w, .int f.h]
def plRow (p : Pl) : List V := [.str p.nm, .int p.x, .int p.y, .int p.w, .int p.h]
theorem side_eq (b c : Bool) : (sideOf b = sideOf c) ↔ b = c := by
  cases b <;> cases c <;> simp [sideOf] <;> decide +kernel
def gF (fls : List Fl) (i : Nat) : Fl := fls.getD i fl0
def gP (pls : List Pl) (i : Nat) : Pl := pls.getD i pl0
theorem gF_of {fls : List Fl} {i : Nat} {f : Fl} (h : fls[i]? = some f) : gF fls i = f := by unfold gF; rw [List.getD_eq_getElem?_getD, h]; rfl
theorem gP_of {pls : List Pl} {i : Nat} {p : Pl} (h : pls[i]? = some p) : gP pls i = p := by unfold gP; rw [List.getD_eq_getElem?_getD, h]; rfl
def touB (p : Pl) (row high : Int) : Bool := decide ((if row > p.y then row else p.y) < (if row + high < p.y + p.h then row + high else p.y + p.h))
theorem touB_iff {p : Pl} {row high : Int} : touB p row high = true ↔ p.y < p.y + p.h ∧ p.y < row + high ∧ row < p.y + p.h ∧ row < row + high := by
  unfold touB
  rw [decide_eq_true_iff]
  constructor
  · intro h
    split at h <;> split at h <;> omega
  · intro h
    split <;> split <;> omega
def tIdx (fls : List Fl) (pls : List Pl) (sd : Bool) (row high : Int) : List Nat := (List.range (min fls.length pls.length)).filter fun i => decide (sideOf (gF fls i).lf = sideOf sd) && touB (gP pls i) row high
def bestR (pls : List Pl) (ix : List Nat) : Option Nat := ix[argBest (fun i j => decide ((gP pls (ix.getD i 0)).x + (gP pls (ix.getD i 0)).w > (gP pls (ix.getD j 0)).x + (gP pls (ix.getD j 0)).w)) (ix.length - 1)]?
def bestL (pls : List Pl) (ix : List Nat) : Option Nat := ix[argBest (fun i j => decide ((gP pls (ix.getD i 0)).x < (gP pls (ix.getD j 0)).x)) (ix.length - 1)]?
def nrL (fls : List Fl) (pls : List Pl) (row high : Int) : Option Nat := bestR pls (tIdx fls pls true row high)
def nrR (fls : List Fl) (pls : List Pl) (row high : Int) : Option Nat := bestL pls (tIdx fls pls false row high)
def edL (fls : List Fl) (pls : List Pl) (row high : Int) : Int := match nrL fls pls row high with
  | none => 0
  | some i => (gP pls i).x + (gP pls i).w
def edR (W : Int) (fls : List Fl) (pls : List Pl) (row high : Int) : Int := match nrR fls pls row high with
  | none => W
  | some i => (gP pls i).x
def optV (as : List Addr) : Option Nat → V
  | none => .non
  | some i => .ref (as.getD i 0)
theorem mem_tIdx {fls : List Fl} {pls : List Pl} {sd : Bool} {row high : Int} {i : Nat} : i ∈ tIdx fls pls sd row high ↔ i < fls.length ∧ i < pls.length ∧ (gF fls i).lf = sd ∧ touB (gP pls i) row high = true := by
  unfold tIdx
  rw [List.mem_filter, List.mem_range, Bool.and_eq_true, decide_eq_true_iff, side_eq]
  constructor
  · intro ⟨h1, h2, h3⟩; exact ⟨by omega, by omega, h2, h3⟩
  · intro ⟨h1, h2, h3, h4⟩; exact ⟨by omega, h3, h4⟩
theorem getD_of {ix : List Nat} {k i : Nat} (h : ix[k]? = some i) : ix.getD k 0 = i := by rw [List.getD_eq_getElem?_getD, h]; rfl
theorem bestR_some {pls : List Pl} {ix : List Nat} {i : Nat} (h : bestR pls ix = some i) : i ∈ ix ∧ ∀ j ∈ ix, (gP pls j).x + (gP pls j).w ≤ (gP pls i).x + (gP pls i).w := by
  unfold bestR at h
  have e := getD_of h
  refine ⟨List.mem_of_getElem? h, fun j hj => ?_⟩
  obtain ⟨k, hk⟩ := List.getElem?_of_mem hj
  have g := (argBest_gt (fun i => (gP pls (ix.getD i 0)).x + (gP pls (ix.getD i 0)).w) (ix.length - 1)).2 k (by have := get_lt hk; omega)
  simp only [getD_of hk] at g
  rw [e] at g
  exact g
theorem bestL_some {pls : List Pl} {ix : List Nat} {i : Nat} (h : bestL pls ix = some i) : i ∈ ix ∧ ∀ j ∈ ix, (gP pls i).x ≤ (gP pls j).x := by
  unfold bestL at h
  have e := getD_of h
  refine ⟨List.mem_of_getElem? h, fun j hj => ?_⟩
  obtain ⟨k, hk⟩ := List.getElem?_of_mem hj
  have g := (argBest_lt (fun i => (gP pls (ix.getD i 0)).x) (ix.length - 1)).2 k (by have := get_lt hk; omega)
  simp only [getD_of hk] at g
  rw [e] at g
  exact g
end S2
namespace S2
open PySem L2
def endOf (p : Pl) : Int := p.y + p.h
def triRow (pls : List Pl) : Option Nat → Option Nat → Int
  | some i, some j => if endOf (gP pls j) < endOf (gP pls i) then endOf (gP pls j) else endOf (gP pls i)
  | some i, none => endOf (gP pls i)
  | none, some j => endOf (gP pls j)
  | none, none => 0
def nmOf (pls : List Pl) : Option Nat → Str
  | none => ""
  | some i => (gP pls i).nm
abbrev Tri := Int × Str × Str
def triV (t : Tri) : List V := [.int t.1, .str t.2.1, .str t.2.2]
def papF (W : Int) (fls : List Fl) (pls : List Pl) (w h : Int) : Nat → Int → List Tri × Int
  | 0, row => ([], row)
  | n + 1, row => if edR W fls pls row h - edL fls pls row h < w then
      ((triRow pls (nrL fls pls row h) (nrR fls pls row h), nmOf pls (nrL fls pls row h), nmOf pls (nrR fls pls row h)) :: (papF W fls pls w h n (triRow pls (nrL fls pls row h) (nrR fls pls row h))).1,
        (papF W fls pls w h n (triRow pls (nrL fls pls row h) (nrR fls pls row h))).2) else ([], row)
def cntF (row : Int) : List Pl → Nat
  | [] => 0
  | p :: r => (if row < endOf p then 1 else 0) + cntF row r
theorem cntF_le (row : Int) : ∀ pls : List Pl, cntF row pls ≤ pls.length
  | [] => Nat.le_refl _
  | p :: r => by
    have := cntF_le row r
    unfold cntF
    rw [List.length_cons]
    split <;> omega
theorem cntF_mono {row row' : Int} (h : row ≤ row') : ∀ pls : List Pl, cntF row' pls ≤ cntF row pls
  | [] => Nat.le_refl _
  | p :: r => by
    have := cntF_mono h r
    unfold cntF
    split <;> split <;> omega
theorem cntF_lt {row row' : Int} (h : row ≤ row') : ∀ {pls : List Pl} {p : Pl}, p ∈ pls → row < endOf p → endOf p ≤ row' → cntF row' pls < cntF row pls
  | [], _, hp, _, _ => by simp at hp
  | q :: r, p, hp, h1, h2 => by
    have m := cntF_mono h r
    unfold cntF
    rcases List.mem_cons.mp hp with e | e
    · subst e
      rw [if_neg (by omega), if_pos h1]
      omega
    · have := cntF_lt h e h1 h2
      split <;> split <;> omega
theorem gP_mem {pls : List Pl} {i : Nat} (h : i < pls.length) : gP pls i ∈ pls := by
  rw [gP_of (List.getElem?_eq_getElem h)]
  exact List.getElem_mem h
theorem noFit {W : Int} {fls : List Fl} {pls : List Pl} {w h row : Int} (hw : w ≤ W) (hf : edR W fls pls row h - edL fls pls row h < w) :
    (nrL fls pls row h ≠ none ∨ nrR fls pls row h ≠ none) ∧ row < triRow pls (nrL fls pls row h) (nrR fls pls row h) ∧ cntF (triRow pls (nrL fls pls row h) (nrR fls pls row h)) pls < cntF row pls := by
  have tl : ∀ i, nrL fls pls row h = some i → row < endOf (gP pls i) ∧ gP pls i ∈ pls := fun i e => by
    have m := mem_tIdx.mp (bestR_some e).1
    exact ⟨(touB_iff.mp m.2.2.2).2.2.1, gP_mem m.2.1⟩
  have tr : ∀ i, nrR fls pls row h = some i → row < endOf (gP pls i) ∧ gP pls i ∈ pls := fun i e => by
    have m := mem_tIdx.mp (bestL_some e).1
    exact ⟨(touB_iff.mp m.2.2.2).2.2.1, gP_mem m.2.1⟩
  unfold edL edR at hf
  cases e1 : nrL fls pls row h with
  | none =>
    cases e2 : nrR fls pls row h with
    | none =>
      rw [e1, e2] at hf
      dsimp only at hf
      omega
    | some j =>
      have q := tr j e2
      exact ⟨.inr (by simp), q.1, cntF_lt (Int.le_of_lt q.1) q.2 q.1 (Int.le_refl _)⟩
  | some i =>
    have p := tl i e1
    cases e2 : nrR fls pls row h with
    | none => exact ⟨.inl (by simp), p.1, cntF_lt (Int.le_of_lt p.1) p.2 p.1 (Int.le_refl _)⟩
    | some j =>
      have q := tr j e2
      show (_ ∨ _) ∧ row < (if endOf (gP pls j) < endOf (gP pls i) then endOf (gP pls j) else endOf (gP pls i)) ∧ cntF (if endOf (gP pls j) < endOf (gP pls i) then endOf (gP pls j) else endOf (gP pls i)) pls < cntF row pls
      split
      · exact ⟨.inl (by simp), q.1, cntF_lt (Int.le_of_lt q.1) q.2 q.1 (Int.le_refl _)⟩
      · exact ⟨.inl (by simp), p.1, cntF_lt (Int.le_of_lt p.1) p.2 p.1 (Int.le_refl _)⟩
def standF (W : Int) (fls : List Fl) (pls : List Pl) (row : Int) : Pl × List Tri :=
  (⟨(gF fls pls.length).nm, if (gF fls pls.length).lf = true then edL fls pls (papF W fls pls (gF fls pls.length).w (gF fls pls.length).h (cntF row pls) row).2 (gF fls pls.length).h
      else edR W fls pls (papF W fls pls (gF fls pls.length).w (gF fls pls.length).h (cntF row pls) row).2 (gF fls pls.length).h - (gF fls pls.length).w,
    (papF W fls pls (gF fls pls.length).w (gF fls pls.length).h (cntF row pls) row).2, (gF fls pls.length).w, (gF fls pls.length).h⟩,
    (papF W fls pls (gF fls pls.length).w (gF fls pls.length).h (cntF row pls) row).1)
def lastRow (pls : List Pl) : Int := match pls.getLast? with
  | none => 0
  | some p => p.y
def allF (W : Int) (fls : List Fl) : Nat → List Pl × List (List Tri)
  | 0 => ([], [])
  | n + 1 => ((allF W fls n).1 ++ [(standF W fls (allF W fls n).1 (lastRow (allF W fls n).1)).1], (allF W fls n).2 ++ [(standF W fls (allF W fls n).1 (lastRow (allF W fls n).1)).2])
theorem allF_len (W : Int) (fls : List Fl) : ∀ n, (allF W fls n).1.length = n ∧ (allF W fls n).2.length = n
  | 0 => ⟨rfl, rfl⟩
  | n + 1 => by
    have := allF_len W fls n
    unfold allF
    rw [List.length_append, List.length_append, this.1, this.2]
    exact ⟨rfl, rfl⟩
theorem lastRow_snoc (pls : List Pl) (p : Pl) : lastRow (pls ++ [p]) = p.y := by
  unfold lastRow
  rw [List.getLast?_append]
  rfl
def PapsAt (H : Hp) (qa : List Addr) (pps : List (List Tri)) : Prop := qa.length = pps.length ∧ ∀ (i : Nat) (q : Addr) (ts : List Tri), qa[i]? = some q → pps[i]? = some ts → ∃ ta : List Addr, H q = some (.lst (ta.map V.ref)) ∧ RowsOf H ta (ts.map triV)
theorem PapsAt.same {H H2 : Hp} {qa : List Addr} {pps : List (List Tri)} (h : PapsAt H qa pps) (s : Same H H2) : PapsAt H2 qa pps := ⟨h.1, fun i q ts e1 e2 => by
  obtain ⟨ta, h1, h2⟩ := h.2 i q ts e1 e2
  exact ⟨ta, s _ _ h1, h2.same s⟩⟩
theorem RowsOf.updL {H : Hp} {as : List Addr} {rows : List (List V)} {l : Addr} {xs : List V} {o : HO} (h : RowsOf H as rows) (hl : H l = some (.lst xs)) : RowsOf (upd H l o) as rows := ⟨h.1, fun i p r e1 e2 => by
  have hp := h.2 i p r e1 e2
  rw [upd_ne (ne_of hp hl (by intro z; cases z))]
  exact hp⟩
theorem PapsAt.updL {H : Hp} {qa : List Addr} {pps : List (List Tri)} {l : Addr} {xs : List V} {o : HO} (h : PapsAt H qa pps) (hl : H l = some (.lst xs)) (hn : ∀ q ∈ qa, q ≠ l) : PapsAt (upd H l o) qa pps := ⟨h.1, fun i q ts e1 e2 => by
  obtain ⟨ta, h1, h2⟩ := h.2 i q ts e1 e2
  exact ⟨ta, by rw [upd_ne (hn q (List.mem_of_getElem? e1))]; exact h1, h2.updL hl⟩⟩
theorem PapsAt.snoc {H : Hp} {qa : List Addr} {pps : List (List Tri)} {q : Addr} {ts : List Tri} {ta : List Addr} (h : PapsAt H qa pps) (hq : H q = some (.lst (ta.map V.ref))) (ht : RowsOf H ta (ts.map triV)) : PapsAt H (qa ++ [q]) (pps ++ [ts]) := by
  refine ⟨by rw [List.length_append, List.length_append, h.1]; rfl, fun i p x e1 e2 => ?_⟩
  by_cases hi : i < qa.length
  · rw [List.getElem?_append_left hi] at e1
    rw [List.getElem?_append_left (by rw [← h.1]; exact hi)] at e2
    exact h.2 i p x e1 e2
  · rw [List.getElem?_append_right (by omega)] at e1
    rw [List.getElem?_append_right (by rw [← h.1]; omega), ← h.1] at e2
    cases e : i - qa.length with
    | zero =>
      rw [e] at e1 e2
      cases e1
      cases e2
      exact ⟨ta, hq, ht⟩
    | succ d => rw [e] at e1; simp at e1
end S2
namespace S2
open PySem L2
structure InW (W row : Int) (p : Pl) : Prop where
  x0 : 0 ≤ p.x
  xw : p.x + p.w ≤ W
  w0 : 0 < p.w
  h0 : 0 < p.h
  y : p.y ≤ row
structure StandOk (W : Int) (fls : List Fl) (pls : List Pl) (row : Int) (st : Pl) : Prop where
  nm : st.nm = (gF fls pls.length).nm
  w : st.w = (gF fls pls.length).w
  h : st.h = (gF fls pls.length).h
  ge : row ≤ st.y
  x : st.x = if (gF fls pls.length).lf = true then edL fls pls st.y (gF fls pls.length).h else edR W fls pls st.y (gF fls pls.length).h - (gF fls pls.length).w
  fit : (gF fls pls.length).w ≤ edR W fls pls st.y (gF fls pls.length).h - edL fls pls st.y (gF fls pls.length).h
  first : ∀ r, row ≤ r → r < st.y → edR W fls pls r (gF fls pls.length).h - edL fls pls r (gF fls pls.length).h < (gF fls pls.length).w
end S2
namespace S2
open PySem L2
end S2
namespace B70
open PySem L2 S2
def top (i : Nat) : Stmt := PySem.Challenge.pw_boxgalley_k70_floats_too_wide.main.body.getD i (.Pass ⟨0, 0, 0, 0⟩)
abbrev sTooInit : Stmt := inClass (top 2) 0
abbrev sTou : Stmt := top 4
abbrev sTouching : Stmt := top 5
abbrev sLEnd : Stmt := top 6
abbrev sREnd : Stmt := top 7
abbrev sNear : Stmt := top 8
abbrev sEdges : Stmt := top 9
abbrev sAcross : Stmt := top 10
abbrev sTriple : Stmt := top 11
abbrev sStand : Stmt := top 12
abbrev sStandAll : Stmt := top 13
abbrev sCell : Stmt := top 15
abbrev sNumbers : Stmt := top 16
abbrev sLNames : Stmt := top 17
abbrev sLTold : Stmt := top 18
abbrev sLaw : Stmt := top 19
structure Names (mg : Str → Option Value) : Prop where
  len : mg "len" = none
  max : mg "max" = none
  min : mg "min" = none
  zip : mg "zip" = none
  list : mg "list" = none
  tuple : mg "tuple" = none
  int : mg "int" = none
  inst : mg "isinstance" = none
  enum : mg "enumerate" = none
  range : mg "range" = none
  rev : mg "reversed" = none
  ve : mg "ValueError" = none
theorem asg_join {te : TE} {g : TG} {D : Ends} {σ : St} {H : Hp} (v : V) (ht : ∀ Q', (∀ H', Same H H' → Q' v H') → te σ H Q') (h : ∀ H', Same H H' → g v σ H' D.nx) : tAsg te g D σ H := ht _ h
theorem rmaxK_of {K : PySem.W.Frag} {f : Addr} {sp : Sp} {H : Hp} {Q : VK} {l : Addr} {as : List Addr} {kf : Nat → Int} (hS : SqL K H l (as.map V.ref)) (hk : KeyOk sp H as kf)
    (v : V) (hv : v = match as[argBest (fun i j => decide (kf i > kf j)) (as.length - 1)]? with | none => .non | some a => .ref a) (h : ∀ H', Same H H' → Q v H') : rmaxK K f sp [.ref l] [.ref f, .non] H Q := by
  subst hv
  refine ⟨l, as, kf, rfl, rfl, hS, hk, fun e H' s' => ?_, fun a H' e s' => ?_⟩
  · subst e
    exact h H' s'
  · have := h H' s'
    rw [e] at this
    exact this
theorem rminK_of {K : PySem.W.Frag} {f : Addr} {sp : Sp} {H : Hp} {Q : VK} {l : Addr} {as : List Addr} {kf : Nat → Int} (hS : SqL K H l (as.map V.ref)) (hk : KeyOk sp H as kf)
    (v : V) (hv : v = match as[argBest (fun i j => decide (kf i < kf j)) (as.length - 1)]? with | none => .non | some a => .ref a) (h : ∀ H', Same H H' → Q v H') : rminK K f sp [.ref l] [.ref f, .non] H Q := by
  subst hv
  refine ⟨l, as, kf, rfl, rfl, hS, hk, fun e H' s' => ?_, fun a H' e s' => ?_⟩
  · subst e
    exact h H' s'
  · have := h H' s'
    rw [e] at this
    exact this
theorem pg_twoK {X : Cx} {K : PySem.W.Frag} (hK : X.K = K) {x y : Str} {px py pt : Pos} {kk : Nat} (hc : X.calm = true) (hN : X.N.Nodup) (h0 : X.N[0]? = some x) (h1 : X.N[1]? = some y) (hx : X.env.scope.names.lookup x = some .local) (hy : X.env.scope.names.lookup y = some .local)
    (ha : (assignEach [.Name x px, .Name y py] X.env).map (·.2) = [assign (.Name x px) X.env, assign (.Name y py) X.env] := by rfl) (hb : (assignEach [.Name y py] X.env).map (·.2) = [assign (.Name y py) X.env] := by rfl)
    (hn : (assignEach [.Name x px, .Name y py] X.env).length = 2 := by rfl) (hst : (assignEach [.Name x px, .Name y py] X.env).findIdx? (·.1) = none := by rfl) : PG X (.Tuple [.Name x px, .Name y py] kk pt) (gTwo K) := by
  subst hK
  exact pg_tup hc (pgs_cons (pg_name hN h0 (.inl hx) (.inr hx)) (pgs_cons (pg_name hN h1 (.inl hy) (.inr hy)) pgs_nil (by rw [hb]; rfl)) (by rw [ha, hb])) hn hst
def FlAt (H : Hp) (a : Addr) (fa : List Addr) (fls : List Fl) : Prop := H a = some (.lst (fa.map V.ref)) ∧ RowsOf H fa (fls.map flRow) ∧ fls.length ≤ 100
def PlAt (H : Hp) (b : Addr) (pa : List Addr) (pls : List Pl) : Prop := H b = some (.lst (pa.map V.ref)) ∧ RowsOf H pa (pls.map plRow) ∧ pls.length ≤ 100
theorem FlAt.same {H H2 : Hp} {a : Addr} {fa : List Addr} {fls : List Fl} (h : FlAt H a fa fls) (s : Same H H2) : FlAt H2 a fa fls := ⟨s _ _ h.1, h.2.1.same s, h.2.2⟩
theorem PlAt.same {H H2 : Hp} {a : Addr} {fa : List Addr} {fls : List Pl} (h : PlAt H a fa fls) (s : Same H H2) : PlAt H2 a fa fls := ⟨s _ _ h.1, h.2.1.same s, h.2.2⟩
theorem row_map {α : Type} {f : α → List V} {xs : List α} {i : Nat} {r : List V} (h : (xs.map f)[i]? = some r) : ∃ x, xs[i]? = some x ∧ r = f x := by
  rw [List.getElem?_map] at h
  cases e : xs[i]? with
  | none => rw [e] at h; cases h
  | some x => rw [e] at h; exact ⟨x, rfl, (Option.some.inj h).symm⟩
theorem PlAt.get {H : Hp} {b : Addr} {pa : List Addr} {pls : List Pl} (h : PlAt H b pa pls) {i : Nat} (hi : i < pls.length) : pa[i]? = some (pa.getD i 0) ∧ H (pa.getD i 0) = some (.tup (plRow (gP pls i))) := by
  have hl : pa.length = pls.length := by rw [h.2.1.1, List.length_map]
  have e1 : pa[i]? = some (pa.getD i 0) := by
    rw [List.getD_eq_getElem?_getD, List.getElem?_eq_getElem (by omega)]
    rfl
  refine ⟨e1, h.2.1.2 i _ _ e1 ?_⟩
  rw [List.getElem?_map, List.getElem?_eq_getElem hi]
  rw [gP_of (List.getElem?_eq_getElem hi)]
  rfl
def spTou : Sp := fun vs H Q _ => ∃ (a : Addr) (p : Pl) (row high : Int), vs = [.ref a, .int row, .int high] ∧ H a = some (.tup (plRow p)) ∧ Q (.bl (touB p row high)) H
def spTouching : Sp := fun vs H Q _ => ∃ (a b : Addr) (fa pa : List Addr) (fls : List Fl) (pls : List Pl) (sd : Bool) (row high : Int), vs = [.ref a, .ref b, .str (sideOf sd), .int row, .int high] ∧ FlAt H a fa fls ∧ PlAt H b pa pls ∧
  ∀ D H', H D = none → Same H H' → H' D = some (.lst ((tIdx fls pls sd row high).map fun i => V.ref (pa.getD i 0))) → Q (.ref D) H'
def spLEnd : Sp := fun vs H Q _ => ∃ (a : Addr) (p : Pl), vs = [.ref a] ∧ H a = some (.tup (plRow p)) ∧ Q (.int p.x) H
def spREnd : Sp := fun vs H Q _ => ∃ (a : Addr) (p : Pl), vs = [.ref a] ∧ H a = some (.tup (plRow p)) ∧ Q (.int (p.x + p.w)) H
def spNear : Sp := fun vs H Q _ => ∃ (a b : Addr) (fa pa : List Addr) (fls : List Fl) (pls : List Pl) (row high : Int), vs = [.ref a, .ref b, .int row, .int high] ∧ FlAt H a fa fls ∧ PlAt H b pa pls ∧
  ∀ t H', H t = none → Same H H' → H' t = some (.tup [optV pa (nrL fls pls row high), optV pa (nrR fls pls row high)]) → Q (.ref t) H'
def spEdges : Sp := fun vs H Q _ => ∃ (a b : Addr) (fa pa : List Addr) (fls : List Fl) (pls : List Pl) (W row high : Int), vs = [.int W, .ref a, .ref b, .int row, .int high] ∧ FlAt H a fa fls ∧ PlAt H b pa pls ∧
  ∀ t H', H t = none → Same H H' → H' t = some (.tup [.int (edL fls pls row high), .int (edR W fls pls row high)]) → Q (.ref t) H'
section
variable {P : Program} {w : World} {K : PySem.W.Frag} {mg : Str → Option Value} {base : Heap}
theorem scTou : FnScope ["placed", "row", "high"] ["placed", "row", "high"] (defScope sTou) := ⟨rfl, rfl, rfl, by decide +kernel, rfl, by decide +kernel, by decide +kernel⟩
theorem ok_tou {f : Addr} {fd : FuncData} (F : Fun K "touches" "touches" sTou f fd) (N : Names mg) : FnOk P w K mg base CX0 1 f fd ["placed", "row", "high"] spTou := by
  refine F.ok scTou (fun vs H Q E h => ?_) (fun cdv A outer s H vs Q E hr h => ?_)
  · obtain ⟨a, p, row, high, e, _⟩ := h
    rw [e]
    rfl
  · obtain ⟨a, p, row, high, e, ha, k⟩ := h
    subst e
    refine ⟨_, pss_one (ps_ret (pe_cmpR op_lt (pe_callB (call_max2 rfl) (by rfl) N.max PyProof.Rows.boot_max (pa_cons (pe_ix ix_tup (pv 0) pe_int (fun _ _ => rfl)) (pa_cons (pv 1) pa_nil)))
      (pe_callB (call_min2 rfl) (by rfl) N.min PyProof.Rows.boot_min (pa_cons (pe_op op_add (pe_ix ix_tup (pv 0) pe_int (fun _ _ => rfl)) (pe_ix ix_tup (pv 0) pe_int (fun _ _ => rfl))) (pa_cons (pe_op op_add (pv 1) (pv 2)) pa_nil))) (nomark _))), ?_⟩
    refine ⟨_, rfl, a, _, _, _, rfl, rfl, SqT.of ha, atI_nat (j := 2) rfl, _, rfl, _, _, rfl, ?_⟩
    refine ⟨_, rfl, a, _, _, _, rfl, rfl, SqT.of ha, atI_nat (j := 2) rfl, _, rfl, a, _, _, _, rfl, rfl, SqT.of ha, atI_nat (j := 4) rfl, _, _, rfl, rfl, _, rfl, _, rfl, _, _, rfl, rfl, _, _, rfl, _, _, rfl, rfl, ?_⟩
    exact k
theorem scLEnd : FnScope ["placed"] ["placed"] (defScope sLEnd) := ⟨rfl, rfl, rfl, by decide +kernel, rfl, by decide +kernel, by decide +kernel⟩
theorem ok_lend {f : Addr} {fd : FuncData} (F : Fun K "left_end" "left_end" sLEnd f fd) : FnOk P w K mg base CX0 1 f fd ["placed"] spLEnd := by
  refine F.ok scLEnd (fun vs H Q E h => ?_) (fun cdv A outer s H vs Q E hr h => ?_)
  · obtain ⟨a, p, e, _⟩ := h
    rw [e]
    rfl
  · obtain ⟨a, p, e, ha, k⟩ := h
    subst e
    refine ⟨_, pss_one (ps_ret (pe_ix ix_tup (pv 0) pe_int (fun _ _ => rfl))), ?_⟩
    exact ⟨_, rfl, a, _, _, _, rfl, rfl, SqT.of ha, atI_nat (j := 1) rfl, k⟩
theorem scREnd : FnScope ["placed"] ["placed"] (defScope sREnd) := ⟨rfl, rfl, rfl, by decide +kernel, rfl, by decide +kernel, by decide +kernel⟩
theorem ok_rend {f : Addr} {fd : FuncData} (F : Fun K "right_end" "right_end" sREnd f fd) : FnOk P w K mg base CX0 1 f fd ["placed"] spREnd := by
  refine F.ok scREnd (fun vs H Q E h => ?_) (fun cdv A outer s H vs Q E hr h => ?_)
  · obtain ⟨a, p, e, _⟩ := h
    rw [e]
    rfl
  · obtain ⟨a, p, e, ha, k⟩ := h
    subst e
    refine ⟨_, pss_one (ps_ret (pe_op op_add (pe_ix ix_tup (pv 0) pe_int (fun _ _ => rfl)) (pe_ix ix_tup (pv 0) pe_int (fun _ _ => rfl)))), ?_⟩
    exact ⟨_, rfl, a, _, _, _, rfl, rfl, SqT.of ha, atI_nat (j := 1) rfl, _, rfl, a, _, _, _, rfl, rfl, SqT.of ha, atI_nat (j := 3) rfl, _, _, rfl, rfl, k⟩
abbrev nTouching : List Str := ["floats", "standing", "side", "row", "high"]
theorem scTouching : FnScope nTouching nTouching (defScope sTouching) := ⟨rfl, rfl, rfl, by decide +kernel, rfl, by decide +kernel, by decide +kernel⟩
theorem ndTouching : (["thing", "placed", "floats", "standing", "side", "row", "high"] : List Str).Nodup := by decide +kernel
set_option maxHeartbeats 2000000 in
theorem ok_touching {f f1 : Addr} {fd d1 : FuncData} (F : Fun K "touching" "touching" sTouching f fd) (N : Names mg) (G1 : FnOk P w K mg base CX0 1 f1 d1 ["placed", "row", "high"] spTou) (b1 : Binds K d1 ["placed", "row", "high"] []) (m1 : mg "touches" = some (.ref f1)) (k1 : PySem.W.keepIn K (.ref f1) = true) :
    FnOk P w K mg base CX0 2 f fd nTouching spTouching := by
  refine F.ok scTouching (fun vs H Q E h => ?_) (fun cdv A outer s H vs Q E hr h => ?_)
  · obtain ⟨a, b, fa, pa, fls, pls, sd, row, high, e, _⟩ := h
    rw [e]
    rfl
  · obtain ⟨a, b, fa, pa, fls, pls, sd, row, high, e, hF, hP, k⟩ := h
    subst e
    refine ⟨_, pss_one (ps_ret (pe_compN (k := 2) (N' := ["thing", "placed", "floats", "standing", "side", "row", "high"]) (compScN_mk (fs := defScope sTouching) (N := nTouching) rfl rfl (by decide +kernel)) rfl
      (pi_zip rfl N.zip (pa_cons (pv 0) (pa_cons (pv 1) pa_nil))) (fun _ _ _ _ _ => pg_twoK (K := K) rfl rfl ndTouching rfl rfl rfl rfl)
      (fun _ _ _ _ _ => pts_one (pw_and (pt_cmpR op_eq (pe_ix (r := rIxT K) ix_tup (pv 0) pe_int (fun _ _ => rfl)) (pv 4) (nomark _)) (pw_and1 (pt_val (pe_call G1 hr (by rfl) m1 k1 b1 .nil pass0 (pa_cons (pv 1) (pa_cons (pv 5) (pa_cons (pv 6) pa_nil))))))).pt)
      (fun _ _ _ _ _ => pv 1))), ?_⟩
    have lf : fa.length = fls.length := by rw [hF.2.1.1, List.length_map]
    have lp : pa.length = pls.length := by rw [hP.2.1.1, List.length_map]
    refine ⟨_, rfl, _, rfl, a, b, rfl, ⟨_, SqL.of hF.1⟩, ⟨_, SqL.of hP.1⟩, ?_⟩
    refine comp_zipP (K := K) (a := a) (b := b) (fun i => decide (sideOf (gF fls i).lf = sideOf sd) && touB (gP pls i) row high) (fun i => V.ref (pa.getD i 0)) (SqL.of hF.1) (SqL.of hP.1) (small (by rw [List.length_map, List.length_map]; have := hF.2.2; omega)) ?_ ?_ ?_
    · intro i x y H' Q' hx hy s1 hq
      obtain ⟨p, r, rfl, ep, er, hp⟩ := hF.2.1.get hx
      obtain ⟨p2, r2, rfl, ep2, er2, hp2⟩ := hP.2.1.get hy
      obtain ⟨fl, efl, rfl⟩ := row_map er
      obtain ⟨pl, epl, rfl⟩ := row_map er2
      refine ⟨_, rfl, p, _, _, _, rfl, rfl, SqT.of (s1 _ _ hp), atI_nat (j := 1) rfl, _, rfl, rfl, _, rfl, ?_⟩
      have hq0 := hq H' (Same.refl _)
      rw [gF_of efl, gP_of epl] at hq0
      refine ite2 (fun hc => ?_) (fun hc => ?_)
      · refine ⟨_, rfl, _, rfl, _, rfl, p2, pl, row, high, rfl, s1 _ _ hp2, _, rfl, ?_⟩
        have e1 : (sideOf fl.lf = sideOf sd) := by simpa using of_decide_eq_true hc
        rw [decide_eq_true e1, Bool.true_and] at hq0
        exact hq0
      · have e1 : ¬ (sideOf fl.lf = sideOf sd) := fun z => hc (decide_eq_true (by rw [z]))
        rw [decide_eq_false e1, Bool.false_and] at hq0
        exact hq0
    · intro i x y H' Q' hc hx hy s1 hq
      obtain ⟨p2, r2, rfl, ep2, er2, hp2⟩ := hP.2.1.get hy
      have e3 : pa.getD i 0 = p2 := by rw [List.getD_eq_getElem?_getD, ep2]; rfl
      refine ⟨_, rfl, ?_⟩
      rw [← e3]
      exact hq H' (Same.refl _)
    · intro D H' hD s1 hl
      refine k D H' hD s1 ?_
      rw [hl]
      unfold tIdx
      rw [List.length_map, List.length_map, lf, lp]
end
section
variable {P : Program} {w : World} {K : PySem.W.Frag} {mg : Str → Option Value} {base : Heap}
theorem scNear : FnScope ["floats", "standing", "row", "high", "lefts", "rights"] ["floats", "standing", "row", "high"] (defScope sNear) := ⟨rfl, rfl, rfl, by decide +kernel, rfl, by decide +kernel, by decide +kernel⟩
theorem idx_map (pa : List Addr) (ix : List Nat) : (ix.map fun i => V.ref (pa.getD i 0)) = (ix.map fun i => pa.getD i 0).map V.ref := by rw [List.map_map]; rfl
theorem keyR {H : Hp} {b : Addr} {pa : List Addr} {pls : List Pl} {ix : List Nat} (hP : PlAt H b pa pls) (hix : ∀ i ∈ ix, i < pls.length) : KeyOk spREnd H (ix.map fun i => pa.getD i 0) (fun i => (gP pls (ix.getD i 0)).x + (gP pls (ix.getD i 0)).w) := by
  intro i a H' Q e s1 hq
  rw [List.getElem?_map] at e
  cases e1 : ix[i]? with
  | none => rw [e1] at e; cases e
  | some j =>
    rw [e1] at e
    have ea : pa.getD j 0 = a := Option.some.inj e
    subst ea
    refine ⟨_, gP pls j, rfl, s1 _ _ (hP.get (hix j (List.mem_of_getElem? e1))).2, ?_⟩
    have := hq H' (Same.refl _)
    dsimp only at this
    rw [getD_of e1] at this
    exact this
theorem keyL {H : Hp} {b : Addr} {pa : List Addr} {pls : List Pl} {ix : List Nat} (hP : PlAt H b pa pls) (hix : ∀ i ∈ ix, i < pls.length) : KeyOk spLEnd H (ix.map fun i => pa.getD i 0) (fun i => (gP pls (ix.getD i 0)).x) := by
  intro i a H' Q e s1 hq
  rw [List.getElem?_map] at e
  cases e1 : ix[i]? with
  | none => rw [e1] at e; cases e
  | some j =>
    rw [e1] at e
    have ea : pa.getD j 0 = a := Option.some.inj e
    subst ea
    refine ⟨_, gP pls j, rfl, s1 _ _ (hP.get (hix j (List.mem_of_getElem? e1))).2, ?_⟩
    have := hq H' (Same.refl _)
    dsimp only at this
    rw [getD_of e1] at this
    exact this
theorem optV_eq (pa : List Addr) (ix : List Nat) (k : Nat) : optV pa ix[k]? = (match (ix.map fun i => pa.getD i 0)[k]? with | none => V.non | some a => .ref a) := by
  rw [List.getElem?_map]
  cases ix[k]? with
  | none => rfl
  | some j => rfl
set_option maxHeartbeats 2000000 in
theorem ok_near {f f1 f2 f3 : Addr} {fd d1 d2 d3 : FuncData} (F : Fun K "nearest" "nearest" sNear f fd) (N : Names mg) (G1 : FnOk P w K mg base CX0 2 f1 d1 nTouching spTouching) (b1 : Binds K d1 nTouching []) (m1 : mg "touching" = some (.ref f1)) (k1 : PySem.W.keepIn K (.ref f1) = true)
    (G2 : FnOk P w K mg base CX0 1 f2 d2 ["placed"] spREnd) (b2 : Binds K d2 ["placed"] []) (m2 : mg "right_end" = some (.ref f2)) (G3 : FnOk P w K mg base CX0 1 f3 d3 ["placed"] spLEnd) (b3 : Binds K d3 ["placed"] []) (m3 : mg "left_end" = some (.ref f3)) :
    FnOk P w K mg base CX0 3 f fd ["floats", "standing", "row", "high"] spNear := by
  refine F.ok scNear (fun vs H Q E h => ?_) (fun cdv A outer s H vs Q E hr h => ?_)
  · obtain ⟨a, b, fa, pa, fls, pls, row, high, e, _⟩ := h
    rw [e]
    rfl
  · obtain ⟨a, b, fa, pa, fls, pls, row, high, e, hF, hP, k⟩ := h
    subst e
    refine ⟨_, pss_cons (ps_set (i := 4) scNear.nd rfl (Or.inl rfl) (pe_call G1 hr rfl m1 k1 b1 .nil pass0 (pa_cons (pv 0) (pa_cons (pv 1) (pa_cons pe_str (pa_cons (pv 2) (pa_cons (pv 3) pa_nil)))))))
      (pss_cons (ps_set (i := 5) scNear.nd rfl (Or.inl rfl) (pe_call G1 hr rfl m1 k1 b1 .nil pass0 (pa_cons (pv 0) (pa_cons (pv 1) (pa_cons pe_str (pa_cons (pv 2) (pa_cons (pv 3) pa_nil)))))))
      (pss_one (ps_ret (pe_tup (pa_cons (pe_maxK G2 hr b2 rfl rfl N.max (pa_cons (pv 4) pa_nil) (pk_cons (pe_glob (v := .ref f2) rfl m2 rfl) (pk_cons pe_non pk_nil))) (pa_cons (pe_minK G3 hr b3 rfl rfl N.min (pa_cons (pv 5) pa_nil) (pk_cons (pe_glob (v := .ref f3) rfl m3 rfl) (pk_cons pe_non pk_nil))) pa_nil)))))), ?_⟩
    refine ⟨_, rfl, _, rfl, _, rfl, _, rfl, a, b, fa, pa, fls, pls, true, row, high, rfl, hF, hP, fun l1 H1 hl1 s1 h1 => ?_⟩
    refine ⟨_, rfl, _, rfl, _, rfl, _, rfl, a, b, fa, pa, fls, pls, false, row, high, rfl, hF.same s1, hP.same s1, fun l2 H2 hl2 s2 h2 => ?_⟩
    have s12 := Same.trans s1 s2
    have h1' := s2 _ _ h1
    rw [idx_map] at h1' h2
    refine ⟨_, rfl, ?_⟩
    dsimp only [tNil, tCons, tC]
    refine rmaxK_of (SqL.of h1') (keyR (hP.same s12) fun i hi => (mem_tIdx.mp hi).2.1) (optV pa (nrL fls pls row high)) (by rw [List.length_map]; exact optV_eq _ _ _) fun H3 s3 => ?_
    have s13 := Same.trans s12 s3
    refine ⟨_, rfl, ?_⟩
    dsimp only [tNil, tCons, tC]
    refine rminK_of (SqL.of (s3 _ _ h2)) (keyL (hP.same s13) fun i hi => (mem_tIdx.mp hi).2.1) (optV pa (nrR fls pls row high)) (by rw [List.length_map]; exact optV_eq _ _ _) fun H4 s4 => ?_
    have s14 := Same.trans s13 s4
    refine ⟨by show 2 ≤ sizeLine; decide, fun t ht => ?_⟩
    have ft : H t = none := same_none s14 ht
    exact k t _ ft (Same.put s14 ft) upd_same
theorem scEdges : FnScope ["W", "floats", "standing", "row", "high", "near", "left", "right"] ["W", "floats", "standing", "row", "high"] (defScope sEdges) := ⟨rfl, rfl, rfl, by decide +kernel, rfl, by decide +kernel, by decide +kernel⟩
theorem nrL_lt {fls : List Fl} {pls : List Pl} {row high : Int} {i : Nat} (h : nrL fls pls row high = some i) : i < pls.length := (mem_tIdx.mp (bestR_some h).1).2.1
theorem nrR_lt {fls : List Fl} {pls : List Pl} {row high : Int} {i : Nat} (h : nrR fls pls row high = some i) : i < pls.length := (mem_tIdx.mp (bestL_some h).1).2.1
set_option maxHeartbeats 2000000 in
theorem ok_edges {f f1 f2 f3 : Addr} {fd d1 d2 d3 : FuncData} (F : Fun K "edges_at" "edges_at" sEdges f fd) (G1 : FnOk P w K mg base CX0 3 f1 d1 ["floats", "standing", "row", "high"] spNear) (b1 : Binds K d1 ["floats", "standing", "row", "high"] []) (m1 : mg "nearest" = some (.ref f1)) (k1 : PySem.W.keepIn K (.ref f1) = true)
    (G2 : FnOk P w K mg base CX0 1 f2 d2 ["placed"] spREnd) (b2 : Binds K d2 ["placed"] []) (m2 : mg "right_end" = some (.ref f2)) (k2 : PySem.W.keepIn K (.ref f2) = true) (G3 : FnOk P w K mg base CX0 1 f3 d3 ["placed"] spLEnd) (b3 : Binds K d3 ["placed"] []) (m3 : mg "left_end" = some (.ref f3)) (k3 : PySem.W.keepIn K (.ref f3) = true) :
    FnOk P w K mg base CX0 4 f fd ["W", "floats", "standing", "row", "high"] spEdges := by
  refine F.ok scEdges (fun vs H Q E h => ?_) (fun cdv A outer s H vs Q E hr h => ?_)
  · obtain ⟨a, b, fa, pa, fls, pls, W, row, high, e, _⟩ := h
    rw [e]
    rfl
  · obtain ⟨a, b, fa, pa, fls, pls, W, row, high, e, hF, hP, k⟩ := h
    subst e
    have hr1 := hr.mono (j := 1) (by decide)
    refine ⟨_, pss_cons (ps_set (i := 5) scEdges.nd rfl (Or.inl rfl) (pe_call G1 hr rfl m1 k1 b1 .nil pass0 (pa_cons (pv 1) (pa_cons (pv 2) (pa_cons (pv 3) (pa_cons (pv 4) pa_nil))))))
      (pss_cons (ps_set (i := 6) scEdges.nd rfl (Or.inl rfl) (pe_ifExp (pt_cmp (pc_isN (pe_ix ix_tup (pv 5) pe_int (fun _ _ => rfl)))) pe_int (pe_call G2 hr1 rfl m2 k2 b2 .nil pass0 (pa_cons (pe_ix ix_tup (pv 5) pe_int (fun _ _ => rfl)) pa_nil))))
      (pss_cons (ps_set (i := 7) scEdges.nd rfl (Or.inl rfl) (pe_ifExp (pt_cmp (pc_isN (pe_ix ix_tup (pv 5) pe_int (fun _ _ => rfl)))) (pv 0) (pe_call G3 hr1 rfl m3 k3 b3 .nil pass0 (pa_cons (pe_ix ix_tup (pv 5) pe_int (fun _ _ => rfl)) pa_nil))))
      (pss_one (ps_ret (pe_tup (pa_cons (pv 6) (pa_cons (pv 7) pa_nil))))))), ?_⟩
    refine ⟨_, rfl, _, rfl, _, rfl, _, rfl, a, b, fa, pa, fls, pls, row, high, rfl, hF, hP, fun n H1 hn s1 h1 => ?_⟩
    have hP1 := hP.same s1
    dsimp only [gName, tSeq]
    refine asg_join (.int (edL fls pls row high)) (fun Q' hq => ?_) (fun H2 s2 => ?_)
    · refine ⟨_, rfl, n, _, _, _, rfl, rfl, SqT.of h1, atI_nat (j := 0) rfl, _, rfl, ?_⟩
      cases e : nrL fls pls row high with
      | none =>
        have := hq H1 (Same.refl _)
        unfold edL at this
        rw [e] at this
        exact this
      | some i =>
        have hp := (hP1.get (nrL_lt e)).2
        have := hq H1 (Same.refl _)
        unfold edL at this
        rw [e] at this h1
        exact ⟨_, rfl, n, _, _, _, rfl, rfl, SqT.of h1, atI_nat (j := 0) rfl, _, gP pls i, rfl, hp, this⟩
    have h2 := s2 _ _ h1
    have hP2 := hP1.same s2
    dsimp only [gName, tSeq]
    refine asg_join (.int (edR W fls pls row high)) (fun Q' hq => ?_) (fun H3 s3 => ?_)
    · refine ⟨_, rfl, n, _, _, _, rfl, rfl, SqT.of h2, atI_nat (j := 1) rfl, _, rfl, ?_⟩
      cases e : nrR fls pls row high with
      | none =>
        have := hq H2 (Same.refl _)
        unfold edR at this
        rw [e] at this
        exact ⟨_, rfl, this⟩
      | some i =>
        have hp := (hP2.get (nrR_lt e)).2
        have := hq H2 (Same.refl _)
        unfold edR at this
        rw [e] at this h2
        exact ⟨_, rfl, n, _, _, _, rfl, rfl, SqT.of h2, atI_nat (j := 1) rfl, _, gP pls i, rfl, hp, this⟩
    refine ⟨_, rfl, _, rfl, by show 2 ≤ sizeLine; decide, fun t ht => ?_⟩
    have s13 := Same.trans s1 (Same.trans s2 s3)
    have ft : H t = none := same_none s13 ht
    exact k t _ ft (Same.put s13 ft) upd_same
end
def spAcross : Sp := fun vs H Q _ => ∃ (e : Addr) (b : Bool) (w l r : Int), vs = [.str (sideOf b), .int w, .ref e] ∧ H e = some (.tup [.int l, .int r]) ∧ Q (.int (if b = true then l else r - w)) H
def spTriple : Sp := fun vs H Q _ => ∃ (n b : Addr) (pa : List Addr) (pls : List Pl) (i j : Option Nat), vs = [.ref n] ∧ PlAt H b pa pls ∧ H n = some (.tup [optV pa i, optV pa j]) ∧ (∀ k, i = some k → k < pls.length) ∧ (∀ k, j = some k → k < pls.length) ∧ (i ≠ none ∨ j ≠ none) ∧
  ∀ t H', H t = none → Same H H' → H' t = some (.tup (triV (triRow pls i j, nmOf pls i, nmOf pls j))) → Q (.ref t) H'
def spStand : Sp := fun vs H Q _ => ∃ (a b : Addr) (fa pa : List Addr) (fls : List Fl) (pls : List Pl) (W row : Int), vs = [.int W, .ref a, .ref b, .int row] ∧ FlAt H a fa fls ∧ PlAt H b pa pls ∧ pls.length < fls.length ∧ (gF fls pls.length).w ≤ W ∧
  ∀ (t tp l : Addr) (ta : List Addr) (H' : Hp), H l = none → Same H H' → H' t = some (.tup [.ref tp, .ref l]) → H' tp = some (.tup (plRow (standF W fls pls row).1)) → H' l = some (.lst (ta.map V.ref)) → RowsOf H' ta ((standF W fls pls row).2.map triV) → Q (.ref t) H'
section
variable {P : Program} {w : World} {K : PySem.W.Frag} {mg : Str → Option Value} {base : Heap}
theorem scAcross : FnScope ["side", "wide", "edges"] ["side", "wide", "edges"] (defScope sAcross) := ⟨rfl, rfl, rfl, by decide +kernel, rfl, by decide +kernel, by decide +kernel⟩
theorem ok_across {f : Addr} {fd : FuncData} (F : Fun K "place_across" "place_across" sAcross f fd) : FnOk P w K mg base CX0 1 f fd ["side", "wide", "edges"] spAcross := by
  refine F.ok scAcross (fun vs H Q E h => ?_) (fun cdv A outer s H vs Q E hr h => ?_)
  · obtain ⟨e, b, w, l, r, e1, _⟩ := h
    rw [e1]
    rfl
  · obtain ⟨e, b, w, l, r, e1, he, k⟩ := h
    subst e1
    refine ⟨_, pss_one (ps_ret (pe_ifExp (pt_cmpR op_eq (pv 0) pe_str (nomark _)) (pe_ix ix_tup (pv 2) pe_int (fun _ _ => rfl)) (pe_op op_sub (pe_ix ix_tup (pv 2) pe_int (fun _ _ => rfl)) (pv 1)))), ?_⟩
    refine ⟨_, rfl, rfl, _, rfl, ?_⟩
    cases b with
    | true => exact iteT ⟨_, rfl, e, _, _, _, rfl, rfl, SqT.of he, atI_nat (j := 0) rfl, k⟩
    | false => exact iteF ⟨_, rfl, e, _, _, _, rfl, rfl, SqT.of he, atI_nat (j := 1) rfl, _, rfl, _, _, rfl, rfl, k⟩
theorem scTriple : FnScope ["near", "ends", "names"] ["near"] (defScope sTriple) := ⟨rfl, rfl, rfl, by decide +kernel, rfl, by decide +kernel, by decide +kernel⟩
abbrev nTriple : List Str := ["near", "ends", "names"]
theorem optV_non {pa : List Addr} {i : Option Nat} : decide (optV pa i = .non) = i.isNone := by
  cases i with
  | none => rfl
  | some k => rfl
set_option maxHeartbeats 4000000 in
theorem ok_triple {f : Addr} {fd : FuncData} (F : Fun K "triple_of" "triple_of" sTriple f fd) (N : Names mg) : FnOk P w K mg base CX0 1 f fd ["near"] spTriple := by
  refine F.ok scTriple (fun vs H Q E h => ?_) (fun cdv A outer s H vs Q E hr h => ?_)
  · obtain ⟨n, b, pa, pls, i, j, e, _⟩ := h
    rw [e]
    rfl
  · obtain ⟨n, b, pa, pls, i, j, e, hP, hn, hi, hj, hij, k⟩ := h
    subst e
    refine ⟨_, pss_cons (ps_setComp (i := 1) (compSc_mk (fs := defScope sTriple) (N := nTriple) rfl rfl (by decide +kernel)) rfl scTriple.nd rfl (Or.inl rfl) (pi_tup (pv 0)) (fun _ _ _ _ _ => pts_one (pt_cmp (pc_notN (pv 0))))
        (fun _ _ _ _ _ => pe_op op_add (pe_ix (r := rIxT K) ix_tup (pv 0) pe_int (fun _ _ => rfl)) (pe_ix (r := rIxT K) ix_tup (pv 0) pe_int (fun _ _ => rfl))) rfl)
      (pss_cons (ps_setComp (i := 2) (compSc_mk (fs := defScope sTriple) (N := nTriple) rfl rfl (by decide +kernel)) rfl scTriple.nd rfl (Or.inl rfl) (pi_tup (pv 0)) (fun _ _ _ _ _ => pts_nil)
        (fun _ _ _ _ _ => pe_ifExp (pt_cmp (pc_isN (pv 0))) pe_str (pe_ix (r := rIxT K) ix_tup (pv 0) pe_int (fun _ _ => rfl))) rfl)
      (pss_one (ps_ret (pe_tup (pa_cons (pe_callB (call_minL rfl) (by rfl) N.min PyProof.Rows.boot_min (pa_cons (pv 1) pa_nil)) (pa_cons (pe_ix ix_list (pv 2) pe_int (fun _ _ => rfl)) (pa_cons (pe_ix ix_list (pv 2) pe_int (fun _ _ => rfl)) pa_nil))))))), ?_⟩
    have op : ∀ m : Nat, m < 2 → [optV pa i, optV pa j][m]? = some (optV pa (if m = 0 then i else j)) := fun m hm => by
      match m, hm with
      | 0, _ => rfl
      | 1, _ => rfl
    have vd : ∀ m : Nat, ∀ q, (if m = 0 then i else j) = some q → q < pls.length := fun m q e => by
      split at e
      · exact hi q e
      · exact hj q e
    have x2 : ∀ {m : Nat} {x : V}, [optV pa i, optV pa j][m]? = some x → m < 2 ∧ x = optV pa (if m = 0 then i else j) := fun {m x} hx => by
      have hm : m < 2 := get_lt hx
      rw [op m hm] at hx
      exact ⟨hm, (Option.some.inj hx).symm⟩
    refine ⟨_, rfl, n, rfl, ⟨_, SqT.of hn⟩, ?_⟩
    refine comp_tupP (K := K) (a := n) (fun m => (if m = 0 then i else j).isSome) (fun m => match (if m = 0 then i else j) with | none => .int 0 | some q => .int (endOf (gP pls q))) hn (by show 2 < sizeLine; decide) ?_ ?_ ?_
    · intro m x H' Q' hx s1 hq
      obtain ⟨hm, rfl⟩ := x2 hx
      refine ⟨_, rfl, _, rfl, ?_⟩
      have := hq H' (Same.refl _)
      rw [optV_non]
      cases e : (if m = 0 then i else j) with
      | none => rw [e] at this; exact this
      | some q => rw [e] at this; exact this
    · intro m x H' Q' hc hx s1 hq
      obtain ⟨hm, rfl⟩ := x2 hx
      have := hq H' (Same.refl _)
      cases e : (if m = 0 then i else j) with
      | none => rw [e] at hc; cases hc
      | some q =>
        have hp := s1 _ _ (hP.get (vd m q e)).2
        rw [e] at this
        exact ⟨_, rfl, _, _, _, _, rfl, rfl, SqT.of hp, atI_nat (j := 2) rfl, _, rfl, _, _, _, _, rfl, rfl, SqT.of hp, atI_nat (j := 4) rfl, _, _, rfl, rfl, this⟩
    intro le H1 hle s1 h1
    have hn1 := s1 _ _ hn
    refine ⟨_, rfl, n, rfl, ⟨_, SqT.of hn1⟩, ?_⟩
    refine comp_tupP (K := K) (a := n) (fun m => true) (fun m => V.str (nmOf pls (if m = 0 then i else j))) hn1 (by show 2 < sizeLine; decide) (fun m x H' Q' hx s2 hq => hq H' (Same.refl _)) ?_ ?_
    · intro m x H' Q' hc hx s2 hq
      obtain ⟨hm, rfl⟩ := x2 hx
      have := hq H' (Same.refl _)
      refine ⟨_, rfl, _, rfl, ?_⟩
      rw [optV_non]
      cases e : (if m = 0 then i else j) with
      | none => rw [e] at this; exact this
      | some q =>
        have hp := s2 _ _ (s1 _ _ (hP.get (vd m q e)).2)
        rw [e] at this
        exact ⟨_, rfl, _, _, _, _, rfl, rfl, SqT.of hp, atI_nat (j := 0) rfl, this⟩
    intro ln H2 hln s2 h2
    have h1' := s2 _ _ h1
    have s12 := Same.trans s1 s2
    obtain ⟨ns, ens, hne, hall⟩ : ∃ ns : List Int, (((List.range [optV pa i, optV pa j].length).filter fun m => (if m = 0 then i else j).isSome).map fun m => (match (if m = 0 then i else j) with | none => V.int 0 | some q => V.int (endOf (gP pls q)))) = ns.map V.int ∧ 0 < ns.length ∧
        ∀ M, M ∈ ns → (∀ c ∈ ns, M ≤ c) → M = triRow pls i j := by
      cases i with
      | none =>
        cases j with
        | none => exact absurd rfl (hij.elim (fun z => z) fun z => z)
        | some q => exact ⟨[endOf (gP pls q)], rfl, by show 0 < 1; decide, fun M hM _ => List.mem_singleton.mp hM⟩
      | some p =>
        cases j with
        | none => exact ⟨[endOf (gP pls p)], rfl, by show 0 < 1; decide, fun M hM _ => List.mem_singleton.mp hM⟩
        | some q =>
          refine ⟨[endOf (gP pls p), endOf (gP pls q)], rfl, by show 0 < 2; decide, fun M hM hb => ?_⟩
          have b1 := hb _ (List.mem_cons_self ..)
          have b2 := hb (endOf (gP pls q)) (by simp)
          show M = (if endOf (gP pls q) < endOf (gP pls p) then endOf (gP pls q) else endOf (gP pls p))
          rcases List.mem_cons.mp hM with z | z
          · subst z
            split <;> omega
          · have z : M = endOf (gP pls q) := by simpa using z
            subst z
            split <;> omega
    rw [ens] at h1'
    refine ⟨_, rfl, le, ns, rfl, SqL.of h1', hne, fun M hM hb => ?_⟩
    have eM := hall M hM hb
    subst eM
    refine ⟨_, rfl, ln, _, _, _, rfl, rfl, SqL.of h2, atI_nat (j := 0) rfl, _, rfl, ln, _, _, _, rfl, rfl, SqL.of h2, atI_nat (j := 1) rfl, (by show 3 ≤ sizeLine; decide), fun t ht => ?_⟩
    have ft : H t = none := same_none s12 ht
    exact k t _ ft (Same.put s12 ft) upd_same
end
end B70
namespace B70
open PySem L2 S2
theorem scStand : FnScope ["W", "floats", "standing", "row", "thing", "wide", "high", "paper", "edges"] ["W", "floats", "standing", "row"] (defScope sStand) := ⟨rfl, rfl, rfl, by decide +kernel, rfl, by decide +kernel, by decide +kernel⟩
theorem FlAt.get {H : Hp} {b : Addr} {fa : List Addr} {fls : List Fl} (h : FlAt H b fa fls) {i : Nat} (hi : i < fls.length) : fa[i]? = some (fa.getD i 0) ∧ H (fa.getD i 0) = some (.tup (flRow (gF fls i))) := by
  have hl : fa.length = fls.length := by rw [h.2.1.1, List.length_map]
  have e1 : fa[i]? = some (fa.getD i 0) := by
    rw [List.getD_eq_getElem?_getD, List.getElem?_eq_getElem (by omega)]
    rfl
  refine ⟨e1, h.2.1.2 i _ _ e1 ?_⟩
  rw [List.getElem?_map, List.getElem?_eq_getElem hi, gF_of (List.getElem?_eq_getElem hi)]
  rfl
theorem papF_fit {W : Int} {fls : List Fl} {pls : List Pl} {w h : Int} {n : Nat} {row : Int} (hf : ¬ (edR W fls pls row h - edL fls pls row h < w)) : papF W fls pls w h n row = ([], row) := by
  cases n with
  | zero => rfl
  | succ n => unfold papF; rw [if_neg hf]
theorem papF_no {W : Int} {fls : List Fl} {pls : List Pl} {w h : Int} {n : Nat} {row : Int} (hf : edR W fls pls row h - edL fls pls row h < w) :
    papF W fls pls w h (n + 1) row = ((triRow pls (nrL fls pls row h) (nrR fls pls row h), nmOf pls (nrL fls pls row h), nmOf pls (nrR fls pls row h)) :: (papF W fls pls w h n (triRow pls (nrL fls pls row h) (nrR fls pls row h))).1,
        (papF W fls pls w h n (triRow pls (nrL fls pls row h) (nrR fls pls row h))).2) := by
  rw [papF, if_pos hf]
section
variable {P : Program} {w : World} {K : PySem.W.Frag} {mg : Str → Option Value} {base : Heap}
set_option maxHeartbeats 4000000 in
theorem ok_stand {f f1 f2 f3 f4 : Addr} {fd d1 d2 d3 d4 : FuncData} (F : Fun K "stand_float" "stand_float" sStand f fd) (N : Names mg)
    (G1 : FnOk P w K mg base CX0 4 f1 d1 ["W", "floats", "standing", "row", "high"] spEdges) (b1 : Binds K d1 ["W", "floats", "standing", "row", "high"] []) (m1 : mg "edges_at" = some (.ref f1)) (k1 : PySem.W.keepIn K (.ref f1) = true)
    (G2 : FnOk P w K mg base CX0 3 f2 d2 ["floats", "standing", "row", "high"] spNear) (b2 : Binds K d2 ["floats", "standing", "row", "high"] []) (m2 : mg "nearest" = some (.ref f2)) (k2 : PySem.W.keepIn K (.ref f2) = true)
    (G3 : FnOk P w K mg base CX0 1 f3 d3 ["near"] spTriple) (b3 : Binds K d3 ["near"] []) (m3 : mg "triple_of" = some (.ref f3)) (k3 : PySem.W.keepIn K (.ref f3) = true)
    (G4 : FnOk P w K mg base CX0 1 f4 d4 ["side", "wide", "edges"] spAcross) (b4 : Binds K d4 ["side", "wide", "edges"] []) (m4 : mg "place_across" = some (.ref f4)) (k4 : PySem.W.keepIn K (.ref f4) = true) :
    FnOk P w K mg base CX0 5 f fd ["W", "floats", "standing", "row"] spStand := by
  refine F.ok scStand (fun vs H Q E h => ?_) (fun cdv A outer s H vs Q E hr h => ?_)
  · obtain ⟨a, b, fa, pa, fls, pls, W, row, e, _⟩ := h
    rw [e]
    rfl
  · obtain ⟨a, b, fa, pa, fls, pls, W, row, e, hF, hP, hlt, hw, k⟩ := h
    subst e
    have hr3 := hr.mono (j := 3) (by decide)
    have hr1 := hr.mono (j := 1) (by decide)
    have lp : pa.length = pls.length := by rw [hP.2.1.1, List.length_map]
    refine ⟨_, pss_cons (ps_set (i := 4) scStand.nd rfl (Or.inl rfl) (pe_ix ix_list (pv 1) (pe_callB call_len_seq (by rfl) N.len PySem.boot_len (pa_cons (pv 2) pa_nil)) (fun _ _ => rfl)))
      (pss_cons (ps_set (i := 5) scStand.nd rfl (Or.inl rfl) (pe_ix ix_tup (pv 4) pe_int (fun _ _ => rfl)))
      (pss_cons (ps_set (i := 6) scStand.nd rfl (Or.inl rfl) (pe_ix ix_tup (pv 4) pe_int (fun _ _ => rfl)))
      (pss_cons (ps_set (i := 7) scStand.nd rfl (Or.inl rfl) (pe_lst pa_nil))
      (pss_cons (ps_set (i := 8) scStand.nd rfl (Or.inl rfl) (pe_call G1 hr rfl m1 k1 b1 .nil pass0 (pa_cons (pv 0) (pa_cons (pv 1) (pa_cons (pv 2) (pa_cons (pv 3) (pa_cons (pv 6) pa_nil)))))))
      (pss_cons (ps_while PassesOwn.never (pt_cmpR op_lt (pe_op op_sub (pe_ix ix_tup (pv 8) pe_int (fun _ _ => rfl)) (pe_ix ix_tup (pv 8) pe_int (fun _ _ => rfl))) (pv 5) (nomark _))
        (pss_cons (ps_expr (pe_bm PySem.F.plainAttrs_list PySem.F.slot_list_append PySem.F.type_list_append mt_append (pv 7) (pa_cons (pe_call G3 hr1 rfl m3 k3 b3 .nil pass0 (pa_cons (pe_call G2 hr3 rfl m2 k2 b2 .nil pass0 (pa_cons (pv 1) (pa_cons (pv 2) (pa_cons (pv 3) (pa_cons (pv 6) pa_nil))))) pa_nil)) pa_nil)))
        (pss_cons (ps_set (i := 3) scStand.nd rfl (Or.inl rfl) (pe_ix ix_tup (pe_ix ix_list (pv 7) (pe_un un_neg pe_int) (fun _ _ => rfl)) pe_int (fun _ _ => rfl)))
        (pss_one (ps_set (i := 8) scStand.nd rfl (Or.inl rfl) (pe_call G1 hr rfl m1 k1 b1 .nil pass0 (pa_cons (pv 0) (pa_cons (pv 1) (pa_cons (pv 2) (pa_cons (pv 3) (pa_cons (pv 6) pa_nil)))))))))))
      (pss_one (ps_ret (pe_tup (pa_cons (pe_tup (pa_cons (pe_ix ix_tup (pv 4) pe_int (fun _ _ => rfl)) (pa_cons (pe_call G4 hr1 rfl m4 k4 b4 .nil pass0 (pa_cons (pe_ix ix_tup (pv 4) pe_int (fun _ _ => rfl)) (pa_cons (pv 5) (pa_cons (pv 8) pa_nil)))) (pa_cons (pv 3) (pa_cons (pv 5) (pa_cons (pv 6) pa_nil)))))) (pa_cons (pv 7) pa_nil)))))))))), ?_⟩
    obtain ⟨ef, hft⟩ := hF.get hlt
    refine ⟨_, rfl, _, rfl, b, _, rfl, .inl (SqL.of hP.1), a, _, _, _, rfl, rfl, SqL.of hF.1, atI_of (j := pls.length) (by rw [List.length_map, lp]) (by rw [List.getElem?_map, ef]; rfl), ?_⟩
    generalize hfl : gF fls pls.length = fl at *
    generalize fa.getD pls.length 0 = g at *
    refine ⟨_, rfl, g, _, _, _, rfl, rfl, SqT.of hft, atI_nat (j := 2) rfl, ?_⟩
    refine ⟨_, rfl, g, _, _, _, rfl, rfl, SqT.of hft, atI_nat (j := 3) rfl, ?_⟩
    refine ⟨smallE (by simp), fun l hl => ?_⟩
    have s1 : Same H (upd H l (.lst [])) := Same.put (Same.refl H) hl
    have h1 : (upd H l (.lst [])) l = some (.lst []) := upd_same
    generalize upd H l (.lst []) = H1 at *
    refine ⟨_, rfl, _, rfl, _, rfl, _, rfl, _, rfl, a, b, fa, pa, fls, pls, W, row, fl.h, rfl, hF.same s1, hP.same s1, fun e0 H2 he0 s2 h2 => ?_⟩
    have s12 := Same.trans s1 s2
    have hl2 := s2 _ _ h1
    generalize hq0 : papF W fls pls fl.w fl.h (cntF row pls) row = q0 at *
    have eS1 : (standF W fls pls row).1 = ⟨fl.nm, if fl.lf = true then edL fls pls q0.2 fl.h else edR W fls pls q0.2 fl.h - fl.w, q0.2, fl.w, fl.h⟩ := by
      unfold standF
      rw [hfl, hq0]
    have eS2 : (standF W fls pls row).2 = q0.1 := by
      unfold standF
      rw [hfl, hq0]
    refine ⟨fun m' σ H3 => ∃ (r : Int) (e : Addr) (ts : List Tri) (ta : List Addr), σ = [some (.int W), some (.ref a), some (.ref b), some (.int r), some (.ref g), some (.int fl.w), some (.int fl.h), some (.ref l), some (.ref e)] ∧ Same H H3 ∧ H3 e = some (.tup [.int (edL fls pls r fl.h), .int (edR W fls pls r fl.h)]) ∧
      H3 l = some (.lst (ta.map V.ref)) ∧ RowsOf H3 ta (ts.map triV) ∧ cntF r pls ≤ m' ∧ ts ++ (papF W fls pls fl.w fl.h m' r).1 = q0.1 ∧ (papF W fls pls fl.w fl.h m' r).2 = q0.2 ∧ ts.length + m' ≤ cntF row pls,
      ⟨cntF row pls, row, e0, [], [], rfl, s12, h2, hl2, RowsOf.nil, Nat.le_refl _, by rw [hq0]; rfl, by rw [hq0], by simp⟩, ?_⟩
    rintro m' σ H3 ⟨r, e, ts, ta, rfl, s3, he, hl3, hta, hbot, hts, hfin, hlen⟩
    refine ⟨_, rfl, e, _, _, _, rfl, rfl, SqT.of he, atI_nat (j := 1) rfl, _, rfl, e, _, _, _, rfl, rfl, SqT.of he, atI_nat (j := 0) rfl, _, _, rfl, rfl, _, rfl, _, _, rfl, rfl, _, rfl, ?_⟩
    have lta : ta.length = ts.length := by rw [hta.1, List.length_map]
    refine ite2 (fun hc => ?_) (fun hc => ?_)
    · have hc' : edR W fls pls r fl.h - edL fls pls r fl.h < fl.w := of_decide_eq_true hc
      obtain ⟨nn, rlt, rbot⟩ := noFit hw hc'
      have cl := cntF_le row pls
      have pl100 := hP.2.2
      cases m' with
      | zero => exact absurd hbot (by omega)
      | succ n =>
        rw [papF_no hc'] at hts hfin
        refine ⟨fun σ' H' => ∃ (e : Addr) (ta' : List Addr), σ' = [some (.int W), some (.ref a), some (.ref b), some (.int (triRow pls (nrL fls pls r fl.h) (nrR fls pls r fl.h))), some (.ref g), some (.int fl.w), some (.int fl.h), some (.ref l), some (.ref e)] ∧ Same H H' ∧
            H' e = some (.tup [.int (edL fls pls (triRow pls (nrL fls pls r fl.h) (nrR fls pls r fl.h)) fl.h), .int (edR W fls pls (triRow pls (nrL fls pls r fl.h) (nrR fls pls r fl.h)) fl.h)]) ∧
            H' l = some (.lst (ta'.map V.ref)) ∧ RowsOf H' ta' ((ts ++ [(triRow pls (nrL fls pls r fl.h) (nrR fls pls r fl.h), nmOf pls (nrL fls pls r fl.h), nmOf pls (nrR fls pls r fl.h))]).map triV),
          fun σ' H' ⟨e, ta', z1, z2, z3, z4, z5⟩ => ⟨n, Nat.lt_succ_self n, _, e, _, ta', z1, z2, z3, z4, z5, by omega, by rw [List.append_assoc]; exact hts, hfin, by rw [List.length_append, List.length_singleton]; omega⟩, ?_⟩
        refine ⟨_, rfl, .inl ⟨rfl, _, SqL.of hl3⟩, _, rfl, _, rfl, _, rfl, _, rfl, a, b, fa, pa, fls, pls, r, fl.h, rfl, hF.same s3, hP.same s3, fun n1 H4 hn1 s4 h4 => ?_⟩
        have s34 := Same.trans s3 s4
        refine ⟨n1, b, pa, pls, _, _, rfl, hP.same s34, h4, fun k e => nrL_lt e, fun k e => nrR_lt e, nn, fun t H5 ht s5 h5 => ?_⟩
        have s35 := Same.trans s34 s5
        have hl5 := s5 _ _ (s4 _ _ hl3)
        have hta5 := hta.same (Same.trans s4 s5)
        refine ⟨l, _, _, rfl, rfl, hl5, small (by rw [List.length_map, lta]; omega), ?_⟩
        have ep : (ta.map V.ref) ++ [V.ref t] = (ta ++ [t]).map V.ref := by rw [List.map_append]; rfl
        rw [ep]
        have nlt : t ≠ l := ne_of h5 hl5 (by intro z; cases z)
        have s6 : Same H (upd H5 l (.lst ((ta ++ [t]).map V.ref))) := Same.put s35 hl
        have l6 : (upd H5 l (.lst ((ta ++ [t]).map V.ref))) l = some (.lst ((ta ++ [t]).map V.ref)) := upd_same
        have t6 : (upd H5 l (.lst ((ta ++ [t]).map V.ref))) t = some (.tup (triV (triRow pls (nrL fls pls r fl.h) (nrR fls pls r fl.h), nmOf pls (nrL fls pls r fl.h), nmOf pls (nrR fls pls r fl.h)))) := by rw [upd_ne nlt]; exact h5
        have r6 : RowsOf (upd H5 l (.lst ((ta ++ [t]).map V.ref))) (ta ++ [t]) ((ts ++ [(triRow pls (nrL fls pls r fl.h) (nrR fls pls r fl.h), nmOf pls (nrL fls pls r fl.h), nmOf pls (nrR fls pls r fl.h))]).map triV) := by
          have em : ∀ x : Tri, (ts ++ [x]).map triV = ts.map triV ++ [triV x] := fun x => by rw [List.map_append]; rfl
          rw [em]
          exact RowsOf.snoc (hta5.updL hl5) (Same.refl _) t6
        generalize upd H5 l (.lst ((ta ++ [t]).map V.ref)) = H6 at *
        refine ⟨_, rfl, _, rfl, l, _, _, _, rfl, rfl, SqL.of l6, ?_, t, _, _, _, rfl, rfl, SqT.of t6, atI_nat (j := 0) rfl, ?_⟩
        · rw [← ep]
          exact atI_last _ _
        refine ⟨_, rfl, _, rfl, _, rfl, _, rfl, _, rfl, a, b, fa, pa, fls, pls, W, _, fl.h, rfl, hF.same s6, hP.same s6, fun e7 H7 he7 s7 h7 => ?_⟩
        exact ⟨e7, ta ++ [t], rfl, Same.trans s6 s7, h7, s7 _ _ l6, r6.same s7⟩
    · have hc' : ¬ (edR W fls pls r fl.h - edL fls pls r fl.h < fl.w) := fun z => hc (decide_eq_true z)
      rw [papF_fit hc'] at hts hfin
      dsimp only at hts hfin
      rw [List.append_nil] at hts
      have hft3 := s3 _ _ hft
      refine ⟨_, rfl, g, _, _, _, rfl, rfl, SqT.of hft3, atI_nat (j := 0) rfl, _, rfl, g, _, _, _, rfl, rfl, SqT.of hft3, atI_nat (j := 1) rfl, _, rfl, _, rfl, e, fl.lf, fl.w, _, _, rfl, he, _, rfl, _, rfl, _, rfl, (by show 5 ≤ sizeLine; decide), fun tp htp => ?_⟩
      have s4 : Same H3 (upd H3 tp (.tup [.str fl.nm, .int (if fl.lf = true then edL fls pls r fl.h else edR W fls pls r fl.h - fl.w), .int r, .int fl.w, .int fl.h])) := Same.put (Same.refl _) htp
      have h4 : (upd H3 tp (.tup [.str fl.nm, .int (if fl.lf = true then edL fls pls r fl.h else edR W fls pls r fl.h - fl.w), .int r, .int fl.w, .int fl.h])) tp = some (.tup [.str fl.nm, .int (if fl.lf = true then edL fls pls r fl.h else edR W fls pls r fl.h - fl.w), .int r, .int fl.w, .int fl.h]) := upd_same
      refine ⟨_, rfl, (by show 2 ≤ sizeLine; decide), fun t ht => ?_⟩
      generalize upd H3 tp (.tup [.str fl.nm, .int (if fl.lf = true then edL fls pls r fl.h else edR W fls pls r fl.h - fl.w), .int r, .int fl.w, .int fl.h]) = H4 at *
      have s5 : Same H4 (upd H4 t (.tup [.ref tp, .ref l])) := Same.put (Same.refl _) ht
      have s45 := Same.trans s4 s5
      refine k t tp l ta _ hl (Same.trans s3 s45) upd_same ?_ (s45 _ _ hl3) ?_
      · rw [eS1, ← hfin]
        exact s5 _ _ h4
      · rw [eS2, ← hts]
        exact hta.same s45
end
def FirstWide (W : Int) (fls : List Fl) (n : Nat) (f : Fl) : Prop := fls[n]? = some f ∧ W < f.w ∧ ∀ m g, m < n → fls[m]? = some g → g.w ≤ W
def spToo (C : Addr) : Sp := fun vs H Q _ => ∃ (a : Addr) (v : V), vs = [.ref a, v] ∧ H a = some (xo C a none) ∧ ∀ dx, H dx = none → Q .non (upd (upd H dx (.xd [("name", v)])) a (xo C a (some dx)))
def spStandAll (CT : Addr) : Sp := fun vs H Q E => ∃ (a : Addr) (fa : List Addr) (fls : List Fl) (W : Int), vs = [.int W, .ref a] ∧ FlAt H a fa fls ∧
  ((∀ f ∈ fls, f.w ≤ W) → ∀ (t ls lp : Addr) (pa qa : List Addr) (H' : Hp), H ls = none → H lp = none → ls ≠ lp → Same H H' → H' t = some (.tup [.ref ls, .ref lp]) → PlAt H' ls pa (allF W fls fls.length).1 → H' lp = some (.lst (qa.map V.ref)) → PapsAt H' qa (allF W fls fls.length).2 → (∀ q ∈ qa, q ≠ ls ∧ q ≠ lp) → Q (.ref t) H') ∧
  ∀ (n : Nat) (f : Fl) (dx : Addr) (H' : Hp), FirstWide W fls n f → Same H H' → H' dx = some (.xd [("name", .str f.nm)]) → E (.ref CT) (some dx) H'
section
variable {P : Program} {w : World} {K : PySem.W.Frag} {mg : Str → Option Value} {base : Heap}
theorem scToo : FnScope ["self", "name"] ["self", "name"] (defScope sTooInit) := ⟨rfl, rfl, rfl, by decide +kernel, rfl, by decide +kernel, by decide +kernel⟩
theorem ok_too {f C : Addr} {fd : FuncData} (F : Fun K "__init__" "TooWide.__init__" sTooInit f fd) (ec : ExcC K C) (hf : PySem.W.findIn K (.ref C) "name" = some none) : FnOk P w K mg base CX0 1 f fd ["self", "name"] (spToo C) := by
  refine F.ok scToo (fun vs H Q E h => ?_) (fun cdv A outer s H vs Q E hr h => ?_)
  · obtain ⟨a, v, e, _⟩ := h
    rw [e]
    rfl
  · obtain ⟨a, v, e, ha, k⟩ := h
    subst e
    refine ⟨_, pss_one (ps_fldX (pv 0) (pv 1) rfl), ?_⟩
    exact ⟨_, rfl, _, rfl, a, C, rfl, ha, ec, hf, fun dx hdx => k dx hdx⟩
end
theorem scStandAll : FnScope ["W", "floats", "name", "side", "wide", "high", "standing", "papers", "row", "told"] ["W", "floats"] (defScope sStandAll) := ⟨rfl, rfl, rfl, by decide +kernel, rfl, by decide +kernel, by decide +kernel⟩
theorem gF_mem {fls : List Fl} {i : Nat} (h : i < fls.length) : gF fls i ∈ fls := by
  rw [gF_of (List.getElem?_eq_getElem h)]
  exact List.getElem_mem h
theorem map_snoc {α β : Type} (f : α → β) (xs : List α) (x : α) : (xs ++ [x]).map f = xs.map f ++ [f x] := by rw [List.map_append]; rfl
section
variable {P : Program} {w : World} {K : PySem.W.Frag} {mg : Str → Option Value} {base : Heap}
set_option maxHeartbeats 4000000 in
theorem ok_standAll {f f1 CT fI : Addr} {fd d1 dI : FuncData} (F : Fun K "stand_floats" "stand_floats" sStandAll f fd) (N : Names mg)
    (O : ownIn K CT fI = true) (hfn : PySem.W.isFn K (.ref fI) = true) (kT : PySem.W.keepIn K (.ref CT) = true) (mT : mg "TooWide" = some (.ref CT)) (GI : FnOk P w K mg base CX0 1 fI dI ["self", "name"] (spToo CT)) (bI : Binds K dI ["self", "name"] [])
    (G1 : FnOk P w K mg base CX0 5 f1 d1 ["W", "floats", "standing", "row"] spStand) (b1 : Binds K d1 ["W", "floats", "standing", "row"] []) (m1 : mg "stand_float" = some (.ref f1)) (k1 : PySem.W.keepIn K (.ref f1) = true) :
    FnOk P w K mg base (Fly P w) 6 f fd ["W", "floats"] (spStandAll CT) := by
  refine F.okE scStandAll (fun vs H Q E h => ?_) (fun cdv A outer s H vs Q E hr h => ?_)
  · obtain ⟨a, fa, fls, W, e, _⟩ := h
    rw [e]
    rfl
  · obtain ⟨a, fa, fls, W, e, hF, k1', k2⟩ := h
    have hr2 := hr.mono (j := 2) (by decide)
    subst e
    have lf : fa.length = fls.length := by rw [hF.2.1.1, List.length_map]
    have f100 := hF.2.2
    refine ⟨_, pss_cons (ps_for PassesOwn.leaving rfl (pi_list (pv 1)) (pg_tup rfl (pgs_cons (pg_name (i := 2) scStandAll.nd rfl (Or.inl rfl)) (pgs_cons (pg_name (i := 3) scStandAll.nd rfl (Or.inl rfl)) (pgs_cons (pg_name (i := 4) scStandAll.nd rfl (Or.inl rfl)) (pgs_cons (pg_name (i := 5) scStandAll.nd rfl (Or.inl rfl)) pgs_nil)))))
        (pss_one (ps_if (pt_cmpR op_gt (pv 4) (pv 0) (nomark _)) (pss_one (ps_raiseI O hfn kT GI hr2 rfl mT bI (pa_cons (pv 2) pa_nil))) pss_nil)))
      (pss_cons (ps_set (i := 6) scStandAll.nd rfl (Or.inl rfl) (pe_lst pa_nil))
      (pss_cons (ps_set (i := 7) scStandAll.nd rfl (Or.inl rfl) (pe_lst pa_nil))
      (pss_cons (ps_set (i := 8) scStandAll.nd rfl (Or.inl rfl) pe_int)
      (pss_cons (ps_while PassesOwn.leaving (pt_cmpR op_lt (pe_callB call_len_seq (by rfl) N.len PySem.boot_len (pa_cons (pv 6) pa_nil)) (pe_callB call_len_seq (by rfl) N.len PySem.boot_len (pa_cons (pv 1) pa_nil)) (nomark _))
        (pss_cons (ps_set (i := 9) scStandAll.nd rfl (Or.inl rfl) (pe_call G1 hr rfl m1 k1 b1 .nil pass0 (pa_cons (pv 0) (pa_cons (pv 1) (pa_cons (pv 6) (pa_cons (pv 8) pa_nil))))))
        (pss_cons (ps_expr (pe_bm PySem.F.plainAttrs_list PySem.F.slot_list_append PySem.F.type_list_append mt_append (pv 6) (pa_cons (pe_ix ix_tup (pv 9) pe_int (fun _ _ => rfl)) pa_nil)))
        (pss_cons (ps_expr (pe_bm PySem.F.plainAttrs_list PySem.F.slot_list_append PySem.F.type_list_append mt_append (pv 7) (pa_cons (pe_ix ix_tup (pv 9) pe_int (fun _ _ => rfl)) pa_nil)))
        (pss_one (ps_set (i := 8) scStandAll.nd rfl (Or.inl rfl) (pe_ix ix_tup (pe_ix ix_tup (pv 9) pe_int (fun _ _ => rfl)) pe_int (fun _ _ => rfl))))))))
      (pss_one (ps_ret (pe_tup (pa_cons (pv 6) (pa_cons (pv 7) pa_nil))))))))), ?_⟩
    refine ⟨_, rfl, a, rfl, ⟨_, SqL.of hF.1⟩, for_list (K := K) (a := a) (xs := fa.map V.ref) (fun i σ H9 => (∃ u2 u3 u4 u5, σ = [some (.int W), some (.ref a), u2, u3, u4, u5, none, none, none, none]) ∧ H9 = H ∧ ∀ m g, m < i → fls[m]? = some g → g.w ≤ W) ⟨⟨_, _, _, _, rfl⟩, rfl, fun m g hm => absurd hm (Nat.not_lt_zero _)⟩ (fun i σ H9 _ h9 => by rw [h9.2.1]; exact SqL.of hF.1) ?_ ?_⟩
    · rintro i y σ H9 hy ⟨⟨u2, u3, u4, u5, rfl⟩, rfl, hall⟩
      obtain ⟨p, r, rfl, ep, er, hp⟩ := hF.2.1.get hy
      obtain ⟨fl, efl, rfl⟩ := row_map er
      refine ⟨p, _, rfl, SqT.of hp, rfl, _, _, rfl, _, _, rfl, _, _, rfl, _, _, rfl, rfl, ?_⟩
      refine ⟨_, rfl, _, rfl, _, _, rfl, rfl, _, rfl, ite2 (fun hc => ?_) (fun hc => ?_)⟩
      · refine ⟨_, rfl, by show 1 ≤ 1000; decide, fun b hb => ?_⟩
        refine ⟨b, .str fl.nm, rfl, upd_same, fun d hd => ⟨rfl, d, upd_same, ?_⟩⟩
        have nda : d ≠ b := fun z => by rw [z, upd_same] at hd; cases hd
        have hd3 : H9 d = none := by rw [upd_ne nda] at hd; exact hd
        refine k2 i fl d _ ⟨efl, of_decide_eq_true hc, hall⟩ (fun c o e => ?_) ?_
        · rw [del_ne (ne_of_none e hb), upd_ne (ne_of_none e hb), upd_ne (ne_of_none e hd3), upd_ne (ne_of_none e hb)]
          exact e
        · rw [del_ne nda, upd_ne nda, upd_same]
      · have hwf : fl.w ≤ W := by
          by_cases z : W < fl.w
          · exact absurd (decide_eq_true z) hc
          · omega
        refine ⟨⟨_, _, _, _, rfl⟩, rfl, fun m g hm hg => ?_⟩
        by_cases e : m = i
        · subst e
          rw [efl] at hg
          cases hg
          exact hwf
        · exact hall m g (by omega) hg
    rintro σ H9 ⟨⟨u2, u3, u4, u5, rfl⟩, rfl, hall⟩
    have hW : ∀ f ∈ fls, f.w ≤ W := fun f hf => by
      obtain ⟨m, hm⟩ := List.getElem?_of_mem hf
      exact hall m f (by rw [List.length_map, lf]; exact get_lt hm) hm
    have k := k1' hW
    refine ⟨smallE (by simp), fun ls hls => ?_⟩
    have s1 : Same H9 (upd H9 ls (.lst [])) := Same.put (Same.refl H9) hls
    have h1 : (upd H9 ls (.lst [])) ls = some (.lst []) := upd_same
    generalize upd H9 ls (.lst []) = H1 at *
    refine ⟨smallE (by simp), fun lp hlp => ?_⟩
    have hlp9 : H9 lp = none := same_none s1 hlp
    have nsp : ls ≠ lp := ne_of_none h1 hlp
    have s2 : Same H9 (upd H1 lp (.lst [])) := Same.put s1 hlp9
    have h2 : (upd H1 lp (.lst [])) lp = some (.lst []) := upd_same
    have h1' : (upd H1 lp (.lst [])) ls = some (.lst []) := by rw [upd_ne nsp]; exact h1
    generalize upd H1 lp (.lst []) = H2 at *
    refine ⟨fun m' σ H3 => ∃ (n : Nat) (pa qa : List Addr) (v2 v3 v4 v5 v9 : Option V), σ = [some (.int W), some (.ref a), v2, v3, v4, v5, some (.ref ls), some (.ref lp), some (.int (lastRow (allF W fls n).1)), v9] ∧ Same H9 H3 ∧ PlAt H3 ls pa (allF W fls n).1 ∧ H3 lp = some (.lst (qa.map V.ref)) ∧ PapsAt H3 qa (allF W fls n).2 ∧ (∀ q ∈ qa, q ≠ ls ∧ q ≠ lp) ∧ n ≤ fls.length ∧ m' = fls.length - n,
      ⟨fls.length, 0, [], [], u2, u3, u4, u5, none, rfl, s2, ⟨h1', RowsOf.nil, by show 0 ≤ 100; decide⟩, h2, ⟨rfl, fun i q ts e => by simp at e⟩, fun q hq => by simp at hq, Nat.zero_le _, rfl⟩, ?_⟩
    rintro m' σ H3 ⟨n, pa, qa, v2, v3, v4, v5, v9, rfl, s3, hPl, hlp3, hPp, hqn, hn, rfl⟩
    have ln := allF_len W fls n
    have lpa : pa.length = n := by rw [hPl.2.1.1, List.length_map, ln.1]
    have lqa : qa.length = n := by rw [hPp.1, ln.2]
    have hF3 := hF.same s3
    refine ⟨_, rfl, ls, _, rfl, .inl (SqL.of hPl.1), _, rfl, a, _, rfl, .inl (SqL.of hF3.1), _, _, rfl, rfl, _, rfl, ?_⟩
    refine ite2 (fun hc => ?_) (fun hc => ?_)
    · have hlt : n < fls.length := by
        have := of_decide_eq_true hc
        rw [List.length_map, List.length_map, lpa, lf] at this
        omega
      refine ⟨fun σ' H' => ∃ (pa qa : List Addr) (v2 v3 v4 v5 v9 : Option V), σ' = [some (.int W), some (.ref a), v2, v3, v4, v5, some (.ref ls), some (.ref lp), some (.int (lastRow (allF W fls (n + 1)).1)), v9] ∧ Same H9 H' ∧ PlAt H' ls pa (allF W fls (n + 1)).1 ∧ H' lp = some (.lst (qa.map V.ref)) ∧ PapsAt H' qa (allF W fls (n + 1)).2 ∧ (∀ q ∈ qa, q ≠ ls ∧ q ≠ lp),
        fun σ' H' ⟨pa, qa, v2, v3, v4, v5, v9, z1, z2, z3, z4, z5, z6⟩ => ⟨fls.length - (n + 1), by omega, n + 1, pa, qa, v2, v3, v4, v5, v9, z1, z2, z3, z4, z5, z6, hlt, rfl⟩, ?_⟩
      refine ⟨_, rfl, _, rfl, _, rfl, _, rfl, a, ls, fa, pa, fls, (allF W fls n).1, W, _, rfl, hF3, hPl, by rw [ln.1]; exact hlt, hW _ (gF_mem (by rw [ln.1]; exact hlt)), fun t tp l ta H4 hl s4 ht htp hl4 hta => ?_⟩
      have e1 : (allF W fls (n + 1)).1 = (allF W fls n).1 ++ [(standF W fls (allF W fls n).1 (lastRow (allF W fls n).1)).1] := rfl
      have e2 : (allF W fls (n + 1)).2 = (allF W fls n).2 ++ [(standF W fls (allF W fls n).1 (lastRow (allF W fls n).1)).2] := rfl
      generalize standF W fls (allF W fls n).1 (lastRow (allF W fls n).1) = st at *
      have s34 := Same.trans s3 s4
      have nls : l ≠ ls := fun z => by rw [z, hPl.1] at hl; cases hl
      have nlp : l ≠ lp := fun z => by rw [z, hlp3] at hl; cases hl
      have hPl4 := hPl.same s4
      have hlp4 := s4 _ _ hlp3
      have hPp4 := hPp.same s4
      refine ⟨_, rfl, .inl ⟨rfl, _, SqL.of hPl4.1⟩, _, rfl, t, _, _, _, rfl, rfl, SqT.of ht, atI_nat (j := 0) rfl, ls, _, _, rfl, rfl, hPl4.1, small (by rw [List.length_map]; omega), ?_⟩
      rw [show (pa.map V.ref) ++ [V.ref tp] = (pa ++ [tp]).map V.ref from (map_snoc _ _ _).symm]
      have s5 : Same H9 (upd H4 ls (.lst ((pa ++ [tp]).map V.ref))) := Same.put s34 hls
      have tp5 : (upd H4 ls (.lst ((pa ++ [tp]).map V.ref))) tp = some (.tup (plRow st.1)) := by rw [upd_ne (ne_of htp hPl4.1 (by intro z; cases z))]; exact htp
      have p5 : PlAt (upd H4 ls (.lst ((pa ++ [tp]).map V.ref))) ls (pa ++ [tp]) (allF W fls (n + 1)).1 := by
        refine ⟨upd_same, ?_, by rw [(allF_len W fls (n + 1)).1]; omega⟩
        rw [e1, map_snoc plRow]
        exact RowsOf.snoc (hPl4.2.1.updL (o := .lst ((pa ++ [tp]).map V.ref)) hPl4.1) (Same.refl _) tp5
      have lp5 : (upd H4 ls (.lst ((pa ++ [tp]).map V.ref))) lp = some (.lst (qa.map V.ref)) := by rw [upd_ne (Ne.symm nsp)]; exact hlp4
      have q5 := hPp4.updL (o := .lst ((pa ++ [tp]).map V.ref)) hPl4.1 fun q hq => (hqn q hq).1
      have t5 : (upd H4 ls (.lst ((pa ++ [tp]).map V.ref))) t = some (.tup [.ref tp, .ref l]) := by rw [upd_ne (ne_of ht hPl4.1 (by intro z; cases z))]; exact ht
      have l5 : (upd H4 ls (.lst ((pa ++ [tp]).map V.ref))) l = some (.lst (ta.map V.ref)) := by rw [upd_ne nls]; exact hl4
      have ta5 := hta.updL (o := .lst ((pa ++ [tp]).map V.ref)) hPl4.1
      generalize upd H4 ls (.lst ((pa ++ [tp]).map V.ref)) = H5 at *
      refine ⟨_, rfl, .inl ⟨rfl, _, SqL.of lp5⟩, _, rfl, t, _, _, _, rfl, rfl, SqT.of t5, atI_nat (j := 1) rfl, lp, _, _, rfl, rfl, lp5, small (by rw [List.length_map]; omega), ?_⟩
      rw [show (qa.map V.ref) ++ [V.ref l] = (qa ++ [l]).map V.ref from (map_snoc _ _ _).symm]
      have s6 : Same H9 (upd H5 lp (.lst ((qa ++ [l]).map V.ref))) := Same.put s5 hlp9
      have p6 : PlAt (upd H5 lp (.lst ((qa ++ [l]).map V.ref))) ls (pa ++ [tp]) (allF W fls (n + 1)).1 := ⟨by rw [upd_ne nsp]; exact p5.1, p5.2.1.updL lp5, p5.2.2⟩
      have q6 : PapsAt (upd H5 lp (.lst ((qa ++ [l]).map V.ref))) (qa ++ [l]) (allF W fls (n + 1)).2 := by
        rw [e2]
        exact PapsAt.snoc (q5.updL lp5 fun q hq => (hqn q hq).2) (by rw [upd_ne nlp]; exact l5) (ta5.updL lp5)
      have t6 : (upd H5 lp (.lst ((qa ++ [l]).map V.ref))) t = some (.tup [.ref tp, .ref l]) := by rw [upd_ne (ne_of t5 lp5 (by intro z; cases z))]; exact t5
      have tp6 : (upd H5 lp (.lst ((qa ++ [l]).map V.ref))) tp = some (.tup (plRow st.1)) := by rw [upd_ne (ne_of tp5 lp5 (by intro z; cases z))]; exact tp5
      have lp6 : (upd H5 lp (.lst ((qa ++ [l]).map V.ref))) lp = some (.lst ((qa ++ [l]).map V.ref)) := upd_same
      generalize upd H5 lp (.lst ((qa ++ [l]).map V.ref)) = H6 at *
      refine ⟨_, rfl, t, _, _, _, rfl, rfl, SqT.of t6, atI_nat (j := 0) rfl, tp, _, _, _, rfl, rfl, SqT.of tp6, atI_nat (j := 2) rfl, ?_⟩
      refine ⟨pa ++ [tp], qa ++ [l], v2, v3, v4, v5, some (.ref t), ?_, s6, p6, lp6, q6, fun q hq => ?_⟩
      · rw [e1, lastRow_snoc]
        rfl
      · rcases List.mem_append.mp hq with z | z
        · exact hqn q z
        · rw [List.mem_singleton.mp z]
          exact ⟨nls, nlp⟩
    · have en : n = fls.length := by
        by_cases e : n < fls.length
        · refine absurd (decide_eq_true ?_) hc
          rw [List.length_map, List.length_map, lpa, lf]
          omega
        · omega
      subst en
      refine ⟨_, rfl, _, rfl, (by show 2 ≤ sizeLine; decide), fun t ht => ?_⟩
      have s4 : Same H3 (upd H3 t (.tup [.ref ls, .ref lp])) := Same.put (Same.refl _) ht
      exact k t ls lp pa qa _ hls hlp9 nsp (Same.trans s3 s4) upd_same (hPl.same s4) (s4 _ _ hlp3) (hPp.same s4) hqn
end
section
variable {P : Program} {w : World} {K : PySem.W.Frag} {mg : Str → Option Value} {base : Heap}
theorem scCell : FnScope ["_law_script", "_law_k"] ["_law_script", "_law_k"] (defScope sCell) := ⟨rfl, rfl, rfl, by decide +kernel, rfl, by decide +kernel, by decide +kernel⟩
theorem ok_cell {f : Addr} {fd : FuncData} (F : Fun K "_law_cell_at" "_law_cell_at" sCell f fd) (N : Names mg) : FnOk P w K mg base CX0 1 f fd ["_law_script", "_law_k"] (spCell K) := by
  refine F.ok scCell (fun vs H Q E h => ?_) (fun cdv A outer s H vs Q E hr h => ?_)
  · obtain ⟨a, k, ns, e, _⟩ := h
    rw [e]
    rfl
  · obtain ⟨a, k, ns, e, hS, hn, q⟩ := h
    subst e
    refine ⟨_, pss_cons (ps_if (pt_cmpR op_lt (pv 1) (pe_callB call_len_seq (by rfl) N.len PySem.boot_len (pa_cons (pv 0) pa_nil)) (nomark _)) (pss_one (ps_ret (pe_ix ix_list (pv 0) (pv 1) (fun _ _ => rfl)))) pss_nil) (pss_one (ps_ret pe_int)), ?_⟩
    refine ⟨_, rfl, _, rfl, a, _, rfl, .inl hS, _, _, rfl, rfl, _, rfl, ?_⟩
    refine ite2 (fun hc => ?_) (fun hc => q 0)
    have hk : k < ns.length := by
      have z := of_decide_eq_true hc
      rw [List.length_map] at z
      omega
    exact ⟨_, rfl, _, rfl, a, _, _, _, rfl, rfl, hS, atI_nat (by rw [List.getElem?_map, List.getElem?_eq_getElem hk]; rfl), q _⟩
theorem scNumbers : FnScope ["_law_cell", "_law_many", "_law_found", "_law_number"] ["_law_cell", "_law_many"] (defScope sNumbers) := ⟨rfl, rfl, rfl, by decide +kernel, rfl, by decide +kernel, by decide +kernel⟩
theorem ok_numbers {f : Addr} {fd : FuncData} (F : Fun K "_law_numbers" "_law_numbers" sNumbers f fd) (N : Names mg) : FnOk P w K mg base CX0 1 f fd ["_law_cell", "_law_many"] spNumbers := by
  refine F.ok scNumbers (fun vs H Q E h => ?_) (fun cdv A outer s H vs Q E hr h => ?_)
  · obtain ⟨c, m, e, _⟩ := h
    rw [e]
    rfl
  · obtain ⟨c, m, e, hm, q⟩ := h
    subst e
    refine ⟨_, pss_cons (ps_set (i := 2) scNumbers.nd rfl (Or.inl rfl) (pe_lst pa_nil))
      (pss_cons (ps_set (i := 3) scNumbers.nd rfl (Or.inl rfl) (pe_op op_fdiv (pv 0) pe_int))
      (pss_cons (ps_while PassesOwn.never (pw_and (pt_cmpR op_eq (pe_op op_mod (pv 0) pe_int) pe_int (nomark _)) (pw_and (pt_cmpR op_gt (pv 3) pe_int (nomark _)) (pw_and1 (pt_cmpR op_lt (pe_callB call_len_seq (by rfl) N.len PySem.boot_len (pa_cons (pv 2) pa_nil)) (pv 1) (nomark _))))).pt
        (pss_cons (ps_expr (pe_bm PySem.F.plainAttrs_list PySem.F.slot_list_append PySem.F.type_list_append mt_append (pv 2) (pa_cons (pe_op op_mod (pv 3) (pe_op op_pow pe_int pe_int)) pa_nil)))
          (pss_one (ps_set (i := 3) scNumbers.nd rfl (Or.inl rfl) (pe_op op_fdivC (pv 3) (pe_op op_pow pe_int pe_int))))))
      (pss_cons (ps_set (i := 3) scNumbers.nd rfl (Or.inl rfl) (pe_op op_mod (pv 0) pe_int))
      (pss_cons (ps_while PassesOwn.never (pt_cmpR op_lt (pe_callB call_len_seq (by rfl) N.len PySem.boot_len (pa_cons (pv 2) pa_nil)) (pv 1) (nomark _))
        (pss_cons (ps_set (i := 3) scNumbers.nd rfl (Or.inl rfl) (pe_op op_mod (pe_op op_mul (pe_op op_add (pe_op op_add (pv 3) (pe_callB call_len_seq (by rfl) N.len PySem.boot_len (pa_cons (pv 2) pa_nil))) pe_int) pe_int) pe_int))
          (pss_one (ps_expr (pe_bm PySem.F.plainAttrs_list PySem.F.slot_list_append PySem.F.type_list_append mt_append (pv 2) (pa_cons (pe_op op_mod (pe_op op_mul (pv 3) pe_int) pe_int) pa_nil))))))
      (pss_one (ps_ret (pv 2))))))), ?_⟩
    refine ⟨smallE (by simp), fun l hl => ?_⟩
    refine ⟨_, rfl, _, _, rfl, rfl, ⟨by decide, by decide⟩, ?_⟩
    have s0 : Same H (upd H l (.lst [])) := Same.put (Same.refl H) hl
    refine while_out (fun m' σ H2 => ∃ (z : Int) (ns : List Int), σ = [some (.int c), some (.int m), some (.ref l), some (.int z)] ∧ Same H H2 ∧ H2 l = some (.lst (ns.map V.int)) ∧ ns.length ≤ m ∧ m' = m - ns.length) (m0 := m) ⟨_, [], rfl, s0, upd_same, Nat.zero_le _, rfl⟩ ?_ ?_
    · rintro m' σ H2 ⟨z, ns, rfl, s2, h2, hlen, rfl⟩
      refine ⟨_, rfl, _, _, rfl, rfl, (by show (0 : Int) < 2147483647; decide), ?_⟩
      refine ⟨fun m' σ H2 => ∃ (z : Int) (ns : List Int), σ = [some (.int c), some (.int m), some (.ref l), some (.int z)] ∧ Same H H2 ∧ H2 l = some (.lst (ns.map V.int)) ∧ ns.length ≤ m ∧ m' = m - ns.length, ⟨_, _, ns, rfl, s2, h2, hlen, rfl⟩, ?_⟩
      rintro m' σ H3 ⟨z, ns, rfl, s3, h3, hlen, rfl⟩
      refine ⟨_, rfl, l, _, rfl, .inl (SqL.of h3), _, rfl, _, _, rfl, rfl, _, rfl, ite2 (fun hc => ?_) (fun hc => ?_)⟩
      · have hc' := of_decide_eq_true hc
        rw [List.length_map] at hc'
        refine ⟨fun σ' H' => ∃ (z : Int) (ns' : List Int), σ' = [some (.int c), some (.int m), some (.ref l), some (.int z)] ∧ Same H H' ∧ H' l = some (.lst (ns'.map V.int)) ∧ ns'.length = ns.length + 1, fun σ' H' ⟨z', ns', e1, e2, e3, e4⟩ => ⟨m - ns'.length, by omega, z', ns', e1, e2, e3, by omega, rfl⟩, ?_⟩
        refine ⟨_, rfl, _, rfl, l, _, rfl, .inl (SqL.of h3), _, _, rfl, rfl, _, _, rfl, rfl, _, _, rfl, rfl, .inr ⟨by decide, by decide⟩, _, _, rfl, rfl, (by show (0 : Int) < 2147483647; decide), ?_⟩
        refine ⟨_, rfl, .inl ⟨rfl, _, SqL.of h3⟩, _, rfl, _, _, rfl, rfl, .inr ⟨by decide, by decide⟩, _, _, rfl, rfl, (by show (0 : Int) < 2147483629; decide), l, _, _, rfl, rfl, h3, small (by rw [List.length_map]; omega), ?_⟩
        exact ⟨_, _, rfl, Same.put s3 hl, snoc_at, snoc_len⟩
      · have hc' : ¬ ((ns.length : Int) < (m : Int)) := fun z => hc (decide_eq_true (by rw [List.length_map]; exact z))
        exact ⟨_, rfl, q l ns H3 hl s3 h3 (by omega)⟩
    · rintro R out m' σ H2 ⟨z, ns, rfl, s2, h2, hlen, rfl⟩
      have go : R [some (.int c), some (.int m), some (.ref l), some (.int z)] H2 := out _ _ _ ⟨z, ns, rfl, s2, h2, hlen, rfl⟩
      refine ⟨_, rfl, _, _, rfl, rfl, (by show (0 : Int) < 2; decide), rfl, _, rfl, ite2 (fun _ => ?_) (fun _ => iteF go)⟩
      refine ⟨_, rfl, _, _, rfl, rfl, _, rfl, ite2 (fun _ => ?_) (fun _ => iteF go)⟩
      refine ⟨_, rfl, l, _, rfl, .inl (SqL.of h2), _, rfl, _, _, rfl, rfl, _, rfl, ite2 (fun hc => ?_) (fun _ => go)⟩
      have hc' := of_decide_eq_true hc
      rw [List.length_map] at hc'
      refine ⟨fun σ' H' => ∃ (z : Int) (ns' : List Int), σ' = [some (.int c), some (.int m), some (.ref l), some (.int z)] ∧ Same H H' ∧ H' l = some (.lst (ns'.map V.int)) ∧ ns'.length = ns.length + 1, fun σ' H' ⟨z', ns', e1, e2, e3, e4⟩ => ⟨m - ns'.length, by omega, z', ns', e1, e2, e3, by omega, rfl⟩, ?_⟩
      refine ⟨_, rfl, .inl ⟨rfl, _, SqL.of h2⟩, _, rfl, _, _, rfl, rfl, ⟨by decide, by decide, by decide⟩, _, _, rfl, rfl, (by show (0 : Int) < 10 ^ Int.toNat 10; decide), l, _, _, rfl, rfl, h2, small (by rw [List.length_map]; omega), ?_⟩
      refine ⟨_, rfl, _, _, rfl, rfl, ⟨by decide, by decide, by decide⟩, _, _, rfl, rfl, ⟨by decide, by decide +kernel⟩, ?_⟩
      exact ⟨_, _, rfl, Same.put s2 hl, snoc_at, snoc_len⟩
end
def spLNames : Sp := fun vs H Q _ => ∃ (c : Int) (m : Nat), vs = [.int c, .int m] ∧ m ≤ 100 ∧ ∀ (l : Addr) (nms : List Str) (H' : Hp), H l = none → Same H H' → H' l = some (.lst (nms.map V.str)) → nms.length = m → Q (.ref l) H'
section
variable {P : Program} {w : World} {K : PySem.W.Frag} {mg : Str → Option Value} {base : Heap}
theorem scLNames : FnScope ["_law_cell", "_law_many", "_law_some", "_law_size", "_law_at", "_law_names_here", "_law_turn", "_law_name", "_law_k", "_law_more"] ["_law_cell", "_law_many"] (defScope sLNames) := ⟨rfl, rfl, rfl, by decide +kernel, rfl, by decide +kernel, by decide +kernel⟩
theorem alpha_len : ("abcdefghijklmnopqrstuvwxyz" : Str).length = 26 := by decide +kernel
theorem one_len (c : Nat) : (⟨#[c]⟩ : Str).length = 1 := rfl
theorem len_nil : ("" : Str).length = 0 := by decide +kernel
set_option maxHeartbeats 4000000 in
theorem ok_lnames {f f1 : Addr} {fd d1 : FuncData} (F : Fun K "_law_names" "_law_names" sLNames f fd) (N : Names mg) (G1 : FnOk P w K mg base CX0 1 f1 d1 ["_law_cell", "_law_many"] spNumbers) (b1 : Binds K d1 ["_law_cell", "_law_many"] []) (m1 : mg "_law_numbers" = some (.ref f1)) (k1 : PySem.W.keepIn K (.ref f1) = true) :
    FnOk P w K mg base CX0 2 f fd ["_law_cell", "_law_many"] spLNames := by
  refine F.ok scLNames (fun vs H Q E h => ?_) (fun cdv A outer s H vs Q E hr h => ?_)
  · obtain ⟨c, m, e, _⟩ := h
    rw [e]
    rfl
  · obtain ⟨c, m, e, hm, k⟩ := h
    subst e
    refine ⟨_, pss_cons (ps_set (i := 2) scLNames.nd rfl (Or.inl rfl) (pe_call G1 hr rfl m1 k1 b1 .nil pass0 (pa_cons (pv 0) (pa_cons pe_int pa_nil))))
      (pss_cons (ps_set (i := 3) scLNames.nd rfl (Or.inl rfl) (pe_op op_add pe_int (pe_op op_mod (pe_ix ix_list (pv 2) pe_int (fun _ _ => rfl)) pe_int)))
      (pss_cons (ps_set (i := 4) scLNames.nd rfl (Or.inl rfl) (pe_op op_mod (pe_ix ix_list (pv 2) pe_int (fun _ _ => rfl)) (pv 3)))
      (pss_cons (ps_set (i := 5) scLNames.nd rfl (Or.inl rfl) (pe_lst pa_nil))
      (pss_cons (ps_for PassesOwn.never rfl (pi_range1 rfl N.range (pa_cons (pv 1) pa_nil)) (pg_name (i := 6) scLNames.nd rfl (Or.inl rfl))
        (pss_cons (ps_set (i := 7) scLNames.nd rfl (Or.inl rfl) pe_str)
        (pss_cons (ps_for PassesOwn.never rfl (pi_range1 rfl N.range (pa_cons (pv 3) pa_nil)) (pg_name (i := 8) scLNames.nd rfl (Or.inl rfl))
          (pss_cons (ps_set (i := 9) scLNames.nd rfl (Or.inl rfl) (pe_op op_mul (pv 6) (pe_callTy call_int1 (by rfl) N.int PyProof.Rows.boot_int (pa_cons (pe_cmpR op_eq (pv 8) (pv 4) (nomark _)) pa_nil))))
          (pss_one (ps_set (i := 7) scLNames.nd rfl (Or.inl rfl) (pe_op op_add_str (pv 7) (pe_ix ix_str pe_str (pe_op op_mod (pe_op op_add (pe_ix ix_list (pv 2) (pv 8) (fun _ _ => rfl)) (pv 9)) pe_int) (fun _ _ => rfl)))))))
        (pss_one (ps_expr (pe_bm PySem.F.plainAttrs_list PySem.F.slot_list_append PySem.F.type_list_append mt_append (pv 5) (pa_cons (pv 7) pa_nil)))))))
      (pss_one (ps_ret (pv 5))))))), ?_⟩
    refine ⟨_, rfl, c, 10, rfl, by decide, fun ls nn H1 hls s1 h1 hnn => ?_⟩
    refine ⟨_, rfl, ls, _, _, _, rfl, rfl, SqL.of h1, atI_nat (j := 8) (gi_at (by omega)), _, _, rfl, rfl, (by show (0 : Int) < 8; decide), _, _, rfl, rfl, ?_⟩
    obtain ⟨sz, esz, hsz⟩ := mod_nat (z := gi nn 8) (n := 8) (by decide)
    have esz' : gi nn 8 % 8 = (sz : Int) := esz
    refine ⟨_, rfl, ls, _, _, _, rfl, rfl, SqL.of h1, atI_nat (j := 9) (gi_at (by omega)), _, rfl, _, _, rfl, rfl, (by show (0 : Int) < 1 + gi nn 8 % 8; omega), ?_⟩
    dsimp only
    generalize gi nn 9 % (1 + gi nn 8 % 8) = at0
    rw [esz']
    refine ⟨smallE (by simp), fun l hl => ?_⟩
    have hl0 : H l = none := same_none s1 hl
    have s2 : Same H (upd H1 l (.lst [])) := Same.put s1 hl0
    have h2 : (upd H1 l (.lst [])) l = some (.lst []) := upd_same
    have hs2 : (upd H1 l (.lst [])) ls = some (.lst (nn.map V.int)) := by rw [upd_ne (ne_of_none h1 hl)]; exact h1
    have nlls : ls ≠ l := ne_of_none h1 hl
    generalize upd H1 l (.lst []) = H2 at *
    refine ⟨_, rfl, (m : Int), rfl, by omega, by omega, ?_⟩
    have em : ((m : Int)).toNat = m := by omega
    rw [em]
    refine for_range (n := m) (fun i σ H3 => ∃ (nms : List Str) (v6 v7 v8 v9 : Option V), σ = [some (.int c), some (.int m), some (.ref ls), some (.int (1 + (sz : Int))), some (.int at0), some (.ref l), v6, v7, v8, v9] ∧ Same H H3 ∧ H3 ls = some (.lst (nn.map V.int)) ∧ H3 l = some (.lst (nms.map V.str)) ∧ nms.length = i)
      ⟨[], _, _, _, _, rfl, s2, hs2, h2, rfl⟩ ?_ ?_
    · rintro i σ H3 hi ⟨nms, v6, v7, v8, v9, rfl, s3, hs3, h3, hlen⟩
      refine ⟨_, rfl, 1 + (sz : Int), rfl, by omega, by omega, ?_⟩
      have en : ((1 : Int) + (sz : Int)).toNat = sz + 1 := by omega
      rw [en]
      refine for_range (n := sz + 1) (fun j σ H4 => H4 = H3 ∧ ∃ (z : Str) (v8 v9 : Option V), σ = [some (.int c), some (.int m), some (.ref ls), some (.int (1 + (sz : Int))), some (.int at0), some (.ref l), some (.int (0 + (i : Int))), some (.str z), v8, v9] ∧ z.length = j) ⟨rfl, "", _, _, rfl, len_nil⟩ ?_ ?_
      · rintro j σ H4 hj ⟨rfl, z, v8, v9, rfl, hz⟩
        refine ⟨_, rfl, _, rfl, _, rfl, rfl, .inr ⟨_, rfl, _, _, rfl, rfl, .inl ⟨by omega, by omega⟩, ?_⟩⟩
        refine ⟨_, rfl, _, rfl, _, rfl, ls, _, _, _, rfl, rfl, SqL.of hs3, atI_of (j := j) (by omega) (gi_at (by omega)), _, rfl, _, _, rfl, rfl, _, _, rfl, rfl, (by show (0 : Int) < 26; decide), ?_⟩
        obtain ⟨ch, hch⟩ : ∃ ch, atI ("abcdefghijklmnopqrstuvwxyz" : Str).cps.toList ((gi nn j + (0 + (i : Int)) * (if decide (V.int (0 + (j : Int)) = V.int at0) = true then 1 else 0)) % 26) = some ch := by
          obtain ⟨q, eq, hq⟩ := mod_nat (z := gi nn j + (0 + (i : Int)) * (if decide (V.int (0 + (j : Int)) = V.int at0) = true then 1 else 0)) (n := 26) (by decide)
          have hq2 : q < ("abcdefghijklmnopqrstuvwxyz" : Str).cps.toList.length := by rw [show ("abcdefghijklmnopqrstuvwxyz" : Str).cps.toList.length = 26 from by decide +kernel]; exact hq
          exact ⟨_, atI_of eq (List.getElem?_eq_getElem hq2)⟩
        refine ⟨_, _, ch, rfl, rfl, smallE (by rw [alpha_len]; decide), hch, _, _, rfl, rfl, smallE (by rw [one_len]; omega), ?_⟩
        exact ⟨rfl, _, _, _, rfl, by rw [Str.length_append, one_len, hz]⟩
      · rintro σ H4 ⟨rfl, z, v8, v9, rfl, hz⟩
        refine ⟨_, rfl, .inl ⟨rfl, _, SqL.of h3⟩, _, rfl, l, _, _, rfl, rfl, h3, small (by rw [List.length_map]; omega), ?_⟩
        refine ⟨nms ++ [z], _, _, _, _, rfl, Same.put s3 hl0, by rw [upd_ne nlls]; exact hs3, by rw [upd_same, List.map_append]; rfl, by rw [List.length_append, hlen]; rfl⟩
    · rintro σ H3 ⟨nms, v6, v7, v8, v9, rfl, s3, hs3, h3, hlen⟩
      exact ⟨_, rfl, k l nms H3 hl0 s3 h3 hlen⟩
end
end B70
namespace B70
open PySem L2 S2
def rInstXT (K : PySem.W.Frag) : List V → Hp → VK → Prop := fun xs H Q => ∃ a C n od b, xs = [.ref a, .ty n] ∧ H a = some (xh C a od) ∧ (∀ dx, od = some dx → ∃ fs, H dx = some (.xd fs)) ∧ ExcC K C ∧ PySem.W.kitOne K (.ref C) (.type n) = some b ∧ Q (.bl b) H
theorem call_isinstXT {X : Cx} : CallR X (.builtin "isinstance") (rInstXT X.K) := by
  intro pins s σ H xs us Q I r h
  obtain ⟨a, C, n, od, b, e1, ea, ed, ec, ek, q⟩ := h
  subst e1
  obtain ⟨u, v, e3, r1, r2⟩ := vals2 r
  subst e3
  obtain rfl : u = Value.ref a := r1
  obtain rfl : v = Value.type n := r2
  obtain ⟨o, e1, e2, e3, e4⟩ := xh_get I.hok ea
  have IA : ∃ ox od, PySem.W.InstAt s.heap a ox C od := by
    cases od with
    | none => exact ⟨o, none, e1, e2, e4, by rw [e3]; exact True.intro⟩
    | some dx =>
      obtain ⟨fs, hfs⟩ := ed dx rfl
      obtain ⟨ob, hob⟩ := (I.hok dx _ hfs).ex
      exact ⟨o, some ob, e1, e2, e4, by rw [e3]; exact hob⟩
  exact PySem.W.kia_one (kitx_exc ec) I.kIn IA ek (fun z => nomatch z) fun tk => ⟨.bl b, H, I.tok tk, rfl, q⟩
theorem boot_ve : bootBuiltins "ValueError" = some (.type "ValueError") := by decide +kernel
theorem boot_rev : bootBuiltins "reversed" = some (.type "reversed") := by decide +kernel
def spTold : Sp := fun vs H Q _ => ∃ (a : Addr) (fa : List Addr) (fls : List Fl) (W : Int), vs = [.int W, .ref a] ∧ FlAt H a fa fls ∧
  ((∀ f ∈ fls, f.w ≤ W) → ∀ H', Same H H' → Q (.int (fls.length : Int)) H') ∧
  ∀ (n : Nat) (f : Fl) (t : Addr) (H' : Hp), FirstWide W fls n f → Same H H' → H' t = some (.tup [.str "too wide", .str f.nm, .bl true]) → Q (.ref t) H'
def sMet (K : PySem.W.Frag) : TS := tAsg (tTup (tCons (tC (.str "too wide")) (tCons (tFldX K (tVar 3) "name") (tCons (tCB (rInstXT K) (tCons (tVar 3) (tCons (tC (V.ty "ValueError")) tNil))) tNil)))) (gName 2)
def sBody (K : PySem.W.Frag) (CT : Addr) (E : XK) : TS := tAsg (tCB (fun xs H Q => ∃ p ys, xs = [.ref p] ∧ (SqL K H p ys ∨ SqT K H p ys) ∧ Q (.int ys.length) H) (tCons (tOp (rIxT K) (tCall (spStandAll CT) [] E (tCons (tVar 0) (tCons (tVar 1) tNil))) (tC (.int 0))) tNil)) (gName 2)
section
variable {P : Program} {w : World} {K : PySem.W.Frag} {mg : Str → Option Value} {base : Heap}
theorem scTold : FnScope ["_law_wide", "_law_floats", "_law_found", "e"] ["_law_wide", "_law_floats"] (defScope sLTold) := ⟨rfl, rfl, rfl, by decide +kernel, rfl, by decide +kernel, by decide +kernel⟩
set_option maxHeartbeats 4000000 in
theorem ok_told {f f1 CT : Addr} {fd d1 : FuncData} (F : Fun K "_law_told" "_law_told" sLTold f fd) (N : Names mg) (G1 : FnOk P w K mg base (Fly P w) 6 f1 d1 ["W", "floats"] (spStandAll CT)) (b1 : Binds K d1 ["W", "floats"] []) (m1 : mg "stand_floats" = some (.ref f1)) (k1 : PySem.W.keepIn K (.ref f1) = true)
    (mT : mg "TooWide" = some (.ref CT)) (cT : CatC K CT) (eT : ExcC K CT) (hdT : PySem.W.hasDictIn K CT = true) (hnm : PySem.W.findIn K (.ref CT) "name" = some none) (t11 : PySem.W.mroIn K CT (.ref CT) = some true) (kve : PySem.W.kitOne K (.ref CT) (.type "ValueError") = some true) :
    FnOk P w K mg base CX0 7 f fd ["_law_wide", "_law_floats"] spTold := by
  refine F.ok scTold (fun vs H Q E h => ?_) (fun cdv A outer s H vs Q E hr h => ?_)
  · obtain ⟨a, fa, fls, W, e, _⟩ := h
    rw [e]
    rfl
  · obtain ⟨a, fa, fls, W, e, hF, kA, kB⟩ := h
    subst e
    refine ⟨_, pss_cons (ps_set (i := 2) scTold.nd rfl (Or.inl rfl) pe_non)
      (pss_cons (ps_tryB (i := 3) (tb := sBody K CT) (T1 := sMet K) (fun E pn xe hx => pss_one (ps_set (i := 2) scTold.nd rfl (Or.inl rfl) (pe_callB (call_lenK (K := K) rfl) (by rfl) N.len PySem.boot_len (pa_cons (pe_ix (r := rIxT K) ix_tup (pe_call G1 hr (by rfl) m1 k1 b1 .nil hx (pa_cons (pv 0) (pa_cons (pv 1) pa_nil))) pe_int (fun _ _ => rfl)) pa_nil))))
        scTold.nd rfl rfl rfl mT cT t11
        (fun a => pss_one (ps_set (i := 2) scTold.nd rfl (Or.inl rfl) (pe_tup (pa_cons pe_str (pa_cons (pe_fldX (pv 3) rfl) (pa_cons (pe_callB (r := rInstXT K) call_isinstXT (by rfl) N.inst PyProof.Rows.boot_isinstance (pa_cons (pv 3) (pa_cons (pe_bltn (v := .ty "ValueError") (by rfl) N.ve boot_ve rfl (by decide)) pa_nil))) pa_nil))))))
        rfl rfl)
      (pss_one (ps_ret (pv 2)))), ?_⟩
    refine ⟨_, rfl, _, rfl, a, fa, fls, W, rfl, hF, fun hW t ls lp pa qa H' hls hlp nlp s1 ht hPl hlp1 hPp hqn => ?_, fun n f dx H' hf s1 hdx => ?_⟩
    · refine ⟨t, _, _, _, rfl, rfl, SqT.of ht, atI_nat (j := 0) rfl, ls, _, rfl, .inl (SqL.of hPl.1), ?_⟩
      have e1 : ((pa.map V.ref).length : Int) = (fls.length : Int) := by rw [List.length_map, hPl.2.1.1, List.length_map, (allF_len W fls fls.length).1]
      refine ⟨_, rfl, ?_⟩
      have := kA hW H' s1
      rw [← e1] at this
      exact this
    · intro b hb
      refine ⟨rfl, fun σ' hσ => ?_⟩
      match σ', hσ with
      | [v0, v1, v2, v3], _ =>
        have nbd : dx ≠ b := fun z => by rw [z, hb] at hdx; cases hdx
        have hb1 : (upd H' b (xh CT b (some dx))) b = some (xh CT b (some dx)) := upd_same
        have hd1 : (upd H' b (xh CT b (some dx))) dx = some (.xd [("name", .str f.nm)]) := by rw [upd_ne nbd]; exact hdx
        have s2 : Same H (upd H' b (xh CT b (some dx))) := Same.put s1 (same_none s1 hb)
        generalize upd H' b (xh CT b (some dx)) = H2 at *
        refine ⟨_, rfl, b, CT, dx, _, _, rfl, hb1, hd1, eT, hdT, hnm, rfl, _, rfl, b, CT, "ValueError", _, _, rfl, hb1, (fun d hd => by cases hd; exact ⟨_, hd1⟩), eT, kve, (by show 3 ≤ sizeLine; decide), fun t ht => ?_⟩
        have s3 : Same H2 (upd H2 t (.tup [.str "too wide", .str f.nm, .bl true])) := Same.put (Same.refl _) ht
        exact ⟨_, rfl, kB n f t _ hf (Same.trans s2 s3) upd_same⟩
end
end B70
namespace B70
open PySem L2 S2
theorem comp_listF {K : PySem.W.Frag} {a : Addr} {xs : List V} {tt : TT} {te : TE} {σ : St} {H : Hp} {Q : VK} (Pv : Addr → Nat → List V → Hp → Prop) (hn : xs.length < sizeLine) (h0 : ∀ D, H D = none → Pv D 0 [] (upd H D (.lst [])))
    (hs : ∀ D i l H', Pv D i l H' → SqL K H' a xs) (hl : ∀ D i l H', Pv D i l H' → l.length ≤ i)
    (he : ∀ (D : Addr) (i : Nat) (x : V) (l : List V) (H' : Hp) (Q1 : Bool → Hp → Prop), xs[i]? = some x → Pv D i l H' → (∀ b H2, (b = false → Pv D (i + 1) l H2) → (b = true → ∀ Q' : VK, (∀ y H3, H3 D = some (.lst l) → Pv D (i + 1) (l ++ [y]) (upd H3 D (.lst (l ++ [y]))) → Q' y H3) → te (some x :: σ) H2 Q') → Q1 b H2) → tt (some x :: σ) H' Q1)
    (hd : ∀ D l H', H D = none → Pv D xs.length l H' → Q (.ref D) H') : CompGo (Itl K a) H σ tt te Q := by
  intro D hD
  refine ⟨fun i m H' => m = xs.length - i ∧ i ≤ xs.length ∧ ∃ l, Pv D i l H', ⟨xs.length, by omega, Nat.zero_le _, [], h0 D hD⟩, ?_⟩
  rintro i m H' ⟨rfl, hi, l, hp⟩
  have q := hs D i l H' hp
  by_cases hlt : i < xs.length
  · refine .inr ⟨⟨xs, xs[i], q, by simp [hlt]⟩, fun x H2 y => ?_⟩
    obtain ⟨e, y⟩ := y
    subst e
    refine he D i x l H2 _ (y xs q) hp fun b H3 hf ht => ?_
    cases b with
    | false =>
      refine iteF ?_
      exact ⟨xs.length - (i + 1), by omega, rfl, hlt, l, hf rfl⟩
    | true =>
      refine iteT (ht rfl _ fun v H4 z1 z2 => ?_)
      have hl2 := hl D i l H2 hp
      exact ⟨l, z1, Nat.lt_of_le_of_lt hl2 (by omega), xs.length - (i + 1), by omega, rfl, hlt, l ++ [v], z2⟩
  · have e : i = xs.length := by omega
    subst e
    exact .inl ⟨⟨xs, q, Nat.le_refl _⟩, hd D l H' hD hp⟩
def rOr (r1 r2 : R2) : R2 := fun x y H Q => r1 x y H Q ∨ r2 x y H Q
theorem op_or2 {X : Cx} {f : Value → Value → Sem Value} {r1 r2 : R2} (h1 : OpR X f r1) (h2 : OpR X f r2) : OpR X f (rOr r1 r2) := fun pins s σ H x y v u Q I rx ry h => h.elim (h1 pins s σ H x y v u Q I rx ry) (h2 pins s σ H x y v u Q I rx ry)
theorem tnil_go {σ : St} {H : Hp} {k : List V → Hp → Prop} (h : k [] H) : tNil σ H k := h
def Told (W : Int) (fls : List Fl) (v : V) (H : Hp) : Prop := (v = .int (fls.length : Int) ∧ ∀ f ∈ fls, f.w ≤ W) ∨ ∃ n f t, FirstWide W fls n f ∧ v = .ref t ∧ H t = some (.tup [.str "too wide", .str f.nm, .bl true])
theorem told_go {H : Hp} {Q : VK} {E : XK} {a : Addr} {fa : List Addr} {fls : List Fl} {W : Int} (hF : FlAt H a fa fls) (h : ∀ v H', Same H H' → Told W fls v H' → Q v H') : spTold [.int W, .ref a] H Q E :=
  ⟨a, fa, fls, W, rfl, hF, fun hw H' s' => h _ H' s' (.inl ⟨rfl, hw⟩), fun n f t H' hf s' ht => h _ H' s' (.inr ⟨n, f, t, hf, rfl, ht⟩)⟩
theorem Told.same {W : Int} {fls : List Fl} {v : V} {H H' : Hp} (h : Told W fls v H) (s : Same H H') : Told W fls v H' := h.elim .inl fun ⟨n, f, t, h1, h2, h3⟩ => .inr ⟨n, f, t, h1, h2, s _ _ h3⟩
theorem fw_not {W : Int} {fls : List Fl} {n : Nat} {f : Fl} (h : FirstWide W fls n f) (h2 : ∀ f ∈ fls, f.w ≤ W) : False := by
  have := h2 f (List.mem_of_getElem? h.1)
  have := h.2.1
  omega
theorem fw_one {W : Int} {fls : List Fl} {n m : Nat} {f g : Fl} (h : FirstWide W fls n f) (h2 : FirstWide W fls m g) : f = g := by
  have e : n = m := by
    rcases Nat.lt_trichotomy n m with z | z | z
    · have := h2.2.2 n f z h.1
      have := h.2.1
      omega
    · exact z
    · have := h.2.2 m g z h2.1
      have := h2.2.1
      omega
  subst e
  have := h.1
  rw [h2.1] at this
  cases this
  rfl
theorem told_eq {K : PySem.W.Frag} {W : Int} {fls : List Fl} {v u : V} {H : Hp} {Q : VK} (h1 : Told W fls v H) (h2 : Told W fls u H) (q : Q (.bl false) H) : rOr rNe (rDeep K true) v u H Q := by
  rcases h1 with ⟨rfl, a1⟩ | ⟨n, f, t, a1, rfl, a2⟩
  · rcases h2 with ⟨rfl, b1⟩ | ⟨m, g, t2, b1, rfl, b2⟩
    · refine .inl ⟨rfl, ?_⟩
      rw [decide_eq_true rfl]
      exact q
    · exact (fw_not b1 a1).elim
  · rcases h2 with ⟨rfl, b1⟩ | ⟨m, g, t2, b1, rfl, b2⟩
    · exact (fw_not a1 b1).elim
    · have e := fw_one a1 b1
      subst e
      refine .inr ⟨t, t2, _, _, fun _ => true, rfl, rfl, .inr ⟨SqT.of a2, SqT.of b2⟩, rfl, fun j x y e1 e2 => ?_, ?_⟩
      · rw [e1] at e2
        cases e2
        refine EqD.refl ?_
        have : ([V.str "too wide", .str f.nm, .bl true] : List V).all flatV = true := rfl
        exact List.all_eq_true.mp this x (List.mem_of_getElem? e1)
      · exact q
theorem wAt (z u : Int) : ∃ r : Int, atI [V.int (z % 9), V.int (z % 9), V.int (z % 9), V.int (z % 10 ^ Int.toNat 9)] (u % 4) = some (V.int r) := by
  obtain ⟨i, e, hi⟩ := nat_of (z := u % 4) (n := 4) (by omega) (by omega)
  match i, hi, e with
  | 0, _, e => exact ⟨_, atI_of e rfl⟩
  | 1, _, e => exact ⟨_, atI_of e rfl⟩
  | 2, _, e => exact ⟨_, atI_of e rfl⟩
  | 3, _, e => exact ⟨_, atI_of e rfl⟩
theorem side_at (z : Int) : ∃ b : Bool, atI [V.str "left", V.str "right"] (z % 2) = some (V.str (sideOf b)) := by
  obtain ⟨i, e, hi⟩ := nat_of (z := z % 2) (n := 2) (by omega) (by omega)
  match i, hi, e with
  | 0, _, e => exact ⟨true, atI_of e rfl⟩
  | 1, _, e => exact ⟨false, atI_of e rfl⟩
def DueAt (W : Int) (fls : List Fl) (k : Nat) (v : V) (H : Hp) : Prop := (v = .int (fls.length : Int) ∧ ∀ m g, k ≤ m → fls[m]? = some g → g.w ≤ W) ∨
  ∃ n f t, (k ≤ n ∧ fls[n]? = some f ∧ W < f.w ∧ ∀ m g, k ≤ m → m < n → fls[m]? = some g → g.w ≤ W) ∧ v = .ref t ∧ H t = some (.tup [.str "too wide", .str f.nm, .bl true])
theorem DueAt.told {W : Int} {fls : List Fl} {v : V} {H : Hp} (h : DueAt W fls 0 v H) : Told W fls v H := by
  rcases h with ⟨e, h⟩ | ⟨n, f, t, ⟨_, h1, h2, h3⟩, e, ht⟩
  · refine .inl ⟨e, fun f hf => ?_⟩
    obtain ⟨m, hm⟩ := List.getElem?_of_mem hf
    exact h m f (Nat.zero_le _) hm
  · exact .inr ⟨n, f, t, ⟨h1, h2, fun m g hm e => h3 m g (Nat.zero_le _) hm e⟩, e, ht⟩
theorem DueAt.end {W : Int} {fls : List Fl} {H : Hp} : DueAt W fls fls.length (.int (fls.length : Int)) H := .inl ⟨rfl, fun m g hm e => by rw [List.getElem?_eq_none hm] at e; cases e⟩
theorem DueAt.no {W : Int} {fls : List Fl} {k : Nat} {v : V} {H : Hp} {f : Fl} (h : DueAt W fls (k + 1) v H) (hf : fls[k]? = some f) (hw : f.w ≤ W) : DueAt W fls k v H := by
  have key : ∀ m g, k ≤ m → fls[m]? = some g → (k + 1 ≤ m → g.w ≤ W) → g.w ≤ W := fun m g hm e h => by
    by_cases z : k = m
    · subst z
      rw [hf] at e
      cases e
      exact hw
    · exact h (by omega)
  rcases h with ⟨e, h⟩ | ⟨n, f2, t, ⟨h0, h1, h2, h3⟩, e, ht⟩
  · exact .inl ⟨e, fun m g hm e => key m g hm e fun z => h m g z e⟩
  · exact .inr ⟨n, f2, t, ⟨by omega, h1, h2, fun m g hm hn e => key m g hm e fun z => h3 m g z hn e⟩, e, ht⟩
theorem DueAt.yes {W : Int} {fls : List Fl} {k : Nat} {H : Hp} {f : Fl} {t : Addr} (hf : fls[k]? = some f) (hw : W < f.w) (ht : H t = some (.tup [.str "too wide", .str f.nm, .bl true])) : DueAt W fls k (.ref t) H :=
  .inr ⟨k, f, t, ⟨Nat.le_refl _, hf, hw, fun m g hm hn _ => by omega⟩, rfl, ht⟩
def spLaw (K : PySem.W.Frag) : Sp := fun vs H Q _ => ∃ (a : Addr) (ns : List Int), vs = [.ref a] ∧ SqL K H a (ns.map V.int) ∧ ns.length ≤ 63 ∧ ∀ H', Q (.bl true) H'
section
variable {P : Program} {w : World} {K : PySem.W.Frag} {mg : Str → Option Value} {base : Heap}
abbrev nLaw : List Str := ["_law_script", "_law_names_here", "_law_wide", "_law_floats", "_law_k", "_law_cell", "_law_some", "_law_w", "_law_due", "_law_name", "_law_side", "_law_h", "_law_held"]
theorem scLaw : FnScope nLaw ["_law_script"] (defScope sLaw) := ⟨rfl, rfl, rfl, by decide +kernel, rfl, by decide +kernel, by decide +kernel⟩
set_option maxHeartbeats 8000000 in
theorem ok_law {f f1 f2 f3 f4 : Addr} {fd d1 d2 d3 d4 : FuncData} (F : Fun K "law" "law" sLaw f fd) (N : Names mg)
    (G1 : FnOk P w K mg base CX0 1 f1 d1 ["_law_script", "_law_k"] (spCell K)) (b1 : Binds K d1 ["_law_script", "_law_k"] []) (m1 : mg "_law_cell_at" = some (.ref f1)) (k1 : PySem.W.keepIn K (.ref f1) = true)
    (G2 : FnOk P w K mg base CX0 2 f2 d2 ["_law_cell", "_law_many"] spLNames) (b2 : Binds K d2 ["_law_cell", "_law_many"] []) (m2 : mg "_law_names" = some (.ref f2)) (k2 : PySem.W.keepIn K (.ref f2) = true)
    (G3 : FnOk P w K mg base CX0 1 f3 d3 ["_law_cell", "_law_many"] spNumbers) (b3 : Binds K d3 ["_law_cell", "_law_many"] []) (m3 : mg "_law_numbers" = some (.ref f3)) (k3 : PySem.W.keepIn K (.ref f3) = true)
    (G4 : FnOk P w K mg base CX0 7 f4 d4 ["_law_wide", "_law_floats"] spTold) (b4 : Binds K d4 ["_law_wide", "_law_floats"] []) (m4 : mg "_law_told" = some (.ref f4)) (k4 : PySem.W.keepIn K (.ref f4) = true) :
    FnOk P w K mg base CX0 8 f fd ["_law_script"] (spLaw K) := by
  refine F.ok scLaw (fun vs H Q E h => ?_) (fun cdv A outer s H vs Q E hr h => ?_)
  · obtain ⟨a, ns, e, _⟩ := h
    rw [e]
    rfl
  · obtain ⟨a, ns, e, hS, hn, k⟩ := h
    subst e
    have hr1 := hr.mono (j := 1) (by decide)
    have hr2 := hr.mono (j := 2) (by decide)
    have hu : (A.deeper (PyProof.Rows.envOfC "law" (defScope sLaw) s.heap.objs.size f cdv)).units + 20 < cLine := by have := hr.units; omega
    refine ⟨_, pss_cons (ps_set (i := 1) scLaw.nd rfl (Or.inl rfl) (pe_call G2 hr2 rfl m2 k2 b2 .nil pass0 (pa_cons (pe_call G1 hr1 rfl m1 k1 b1 .nil pass0 (pa_cons (pv 0) (pa_cons pe_int pa_nil))) (pa_cons pe_int pa_nil))))
      (pss_cons (ps_set (i := 2) scLaw.nd rfl (Or.inr rfl) (pe_op op_mod (pe_call G1 hr1 rfl m1 k1 b1 .nil pass0 (pa_cons (pv 0) (pa_cons pe_int pa_nil))) pe_int))
      (pss_cons (ps_set (i := 3) scLaw.nd rfl (Or.inl rfl) (pe_lst pa_nil))
      (pss_cons (ps_for PassesOwn.never rfl (pi_enL0 rfl N.enum (pa_cons (pe_slice sl_list (pv 0) (po_some pe_int) (po_some pe_int)) pa_nil)) (pg_tup rfl (pgs_cons (pg_name (i := 4) scLaw.nd rfl (Or.inl rfl)) (pgs_cons (pg_name (i := 5) scLaw.nd rfl (Or.inl rfl)) pgs_nil)))
        (pss_cons (ps_set (i := 6) scLaw.nd rfl (Or.inl rfl) (pe_call G3 hr1 rfl m3 k3 b3 .nil pass0 (pa_cons (pv 5) (pa_cons pe_int pa_nil))))
        (pss_cons (ps_set (i := 7) scLaw.nd rfl (Or.inl rfl) (pe_op op_add pe_int (pe_ix ix_list (pe_lst (pa_cons (pe_op op_mod (pe_ix ix_list (pv 6) pe_int (fun _ _ => rfl)) pe_int) (pa_cons (pe_op op_mod (pe_ix ix_list (pv 6) pe_int (fun _ _ => rfl)) pe_int) (pa_cons (pe_op op_mod (pe_ix ix_list (pv 6) pe_int (fun _ _ => rfl)) pe_int) (pa_cons (pe_op op_mod (pe_ix ix_list (pv 6) pe_int (fun _ _ => rfl)) (pe_op op_pow pe_int pe_int)) pa_nil))))) (pe_op op_mod (pe_ix ix_list (pv 6) pe_int (fun _ _ => rfl)) pe_int) (fun _ _ => rfl))))
        (pss_one (ps_expr (pe_bm PySem.F.plainAttrs_list PySem.F.slot_list_append PySem.F.type_list_append mt_append (pv 3) (pa_cons (pe_tup (pa_cons (pe_ix ix_list (pv 1) (pv 4) (fun _ _ => rfl)) (pa_cons (pe_ix ix_list (pe_lst (pa_cons pe_str (pa_cons pe_str pa_nil))) (pe_op op_mod (pe_ix ix_list (pv 6) pe_int (fun _ _ => rfl)) pe_int) (fun _ _ => rfl))
          (pa_cons (pv 7) (pa_cons (pe_op op_add pe_int (pe_op op_mod (pe_ix ix_list (pv 6) pe_int (fun _ _ => rfl)) pe_int)) pa_nil))))) pa_nil)))))))
      (pss_cons (ps_set (i := 8) scLaw.nd rfl (Or.inl rfl) (pe_callB call_len_seq (by rfl) N.len PySem.boot_len (pa_cons (pv 3) pa_nil)))
      (pss_cons (ps_for PassesOwn.never rfl (pi_rev rfl N.rev boot_rev (pa_cons (pv 3) pa_nil)) (pg_tup rfl (pgs_cons (pg_name (i := 9) scLaw.nd rfl (Or.inl rfl)) (pgs_cons (pg_name (i := 10) scLaw.nd rfl (Or.inl rfl)) (pgs_cons (pg_name (i := 7) scLaw.nd rfl (Or.inl rfl)) (pgs_cons (pg_name (i := 11) scLaw.nd rfl (Or.inl rfl)) pgs_nil)))))
        (pss_one (ps_if (pt_cmpR op_gt (pv 7) (pv 2) (nomark _)) (pss_one (ps_set (i := 8) scLaw.nd rfl (Or.inl rfl) (pe_tup (pa_cons pe_str (pa_cons (pv 9) (pa_cons pe_bl pa_nil)))))) pss_nil)))
      (pss_cons (ps_set (i := 12) scLaw.nd rfl (Or.inl rfl) (pe_callTy call_list_of (by rfl) N.list PyProof.Rows.boot_list (pa_cons (pv 3) pa_nil)))
      (pss_cons (ps_if (pw_or (pt_cmpR (op_or2 op_ne (op_neDeep hu)) (pe_call G4 hr (by rfl) m4 k4 b4 .nil pass0 (pa_cons (pv 2) (pa_cons (pv 12) pa_nil))) (pv 8) (nomark _)) (pw_or1 (pt_cmpR (op_neDeep hu) (pv 12) (pv 3) (nomark _)))).pt (pss_one (ps_ret pe_bl)) pss_nil)
      (pss_cons (ps_setComp (i := 6) (compSc_mk (fs := defScope sLaw) (N := nLaw) rfl rfl (by decide +kernel)) rfl scLaw.nd rfl (Or.inl rfl) (pi_list (pv 3)) (fun _ _ _ _ _ => pts_one (pt_cmpR op_le (pe_ix (r := rIxT K) ix_tup (pv 0) pe_int (fun _ _ => rfl)) (pv 3) (nomark _))) (fun _ _ _ _ _ => pv 0) rfl)
      (pss_one (ps_ret (pe_cmpR op_eq (pe_call G4 hr (by rfl) m4 k4 b4 .nil pass0 (pa_cons (pv 2) (pa_cons (pv 6) pa_nil))) (pe_callB call_len_seq (by rfl) N.len PySem.boot_len (pa_cons (pv 6) pa_nil)) (nomark _)))))))))))), ?_⟩
    -- names, width, floats
    refine ⟨_, rfl, a, 0, ns, rfl, hS, hn, fun z0 => ⟨z0, 12, rfl, by decide, fun ln nms H1 hln s1 h1 hnm => ?_⟩⟩
    refine ⟨_, rfl, a, 1, ns, rfl, s1.seq hS, hn, fun z1 => ⟨_, _, rfl, rfl, (by show (0 : Int) < 10; decide), ?_⟩⟩
    dsimp only
    generalize z1 % 10 = W at *
    refine ⟨smallE (by simp), fun l hl => ?_⟩
    have s2 : Same H1 (upd H1 l (.lst [])) := Same.put (Same.refl _) hl
    have h2 : (upd H1 l (.lst [])) l = some (.lst []) := upd_same
    generalize upd H1 l (.lst []) = H2 at *
    have s02 := Same.trans s1 s2
    refine ⟨_, rfl, _, rfl, _, rfl, a, _, rfl, s02.seq hS, fun lc hlc => ?_⟩
    have ecut := cells_cut 2 14 ns
    have ecl := cells_len 2 14 ns
    have ecut' : cutV (ns.map V.int) (some 2) (some 14) = (cellsOf 2 14 ns).map V.int := ecut
    rw [ecut']
    generalize cellsOf 2 14 ns = cs at *
    have s3 : Same H2 (upd H2 lc (.lst (cs.map V.int))) := Same.put (Same.refl _) hlc
    have h3 : (upd H2 lc (.lst (cs.map V.int))) lc = some (.lst (cs.map V.int)) := upd_same
    have nlc : lc ≠ l := fun z => by rw [z, h2] at hlc; cases hlc
    have hl3 := s3 _ _ h2
    generalize upd H2 lc (.lst (cs.map V.int)) = H3 at *
    have s03 := Same.trans s02 s3
    have lnl : ln ≠ l := ne_of_none h1 hl
    have hl0 : H l = none := same_none s1 hl
    have hln3 := s3 _ _ (s2 _ _ h1)
    refine ⟨lc, rfl, ⟨_, SqL.of h3⟩, ?_⟩
    refine for_en (xs := cs.map V.int) (fun i σ H9 => ∃ (fa : List Addr) (fls : List Fl) (v4 v5 v6 v7 v8 v9 v10 v11 v12 : Option V), σ = [some (.ref a), some (.ref ln), some (.int W), some (.ref l), v4, v5, v6, v7, v8, v9, v10, v11, v12] ∧ H9 ln = some (.lst (nms.map V.str)) ∧ H9 lc = some (.lst (cs.map V.int)) ∧ H9 l = some (.lst (fa.map V.ref)) ∧ RowsOf H9 fa (fls.map flRow) ∧ fls.length = i)
      ⟨[], [], none, none, none, none, none, none, none, none, none, rfl, hln3, h3, hl3, RowsOf.nil, rfl⟩ (fun i σ H9 _ ⟨_, _, _, _, _, _, _, _, _, _, _, _, _, z, _⟩ => (SqL.of z : SqL K H9 lc (cs.map V.int))) ?_ ?_
    · rintro i x p σ H9 hx hp ⟨fa, fls, v4, v5, v6, v7, v8, v9, v10, v11, v12, rfl, hn9, hc9, h9, hrow, hlen⟩
      obtain ⟨z, rfl, hz⟩ := int_at hx
      have hi : i < cs.length := get_lt hz
      have s10 : Same H9 (upd H9 p (.tup [.int (0 + (i : Int)), .int z])) := Same.put (Same.refl _) hp
      have hp10 : (upd H9 p (.tup [.int (0 + (i : Int)), .int z])) p = some (.tup [.int (0 + (i : Int)), .int z]) := upd_same
      generalize upd H9 p (.tup [.int (0 + (i : Int)), .int z]) = H10 at *
      refine ⟨p, _, rfl, SqT.of hp10, rfl, _, _, rfl, _, _, rfl, rfl, ?_⟩
      refine ⟨_, rfl, z, 4, rfl, by decide, fun ls nn H11 hls s11 h11 hnn => ?_⟩
      -- how wide
      have at1 : atI (nn.map V.int) 1 = some (V.int (gi nn 1)) := atI_nat (j := 1) (gi_at (by omega))
      refine ⟨_, rfl, ls, _, _, _, rfl, rfl, SqL.of h11, at1, _, _, rfl, rfl, (by show (0 : Int) < 9; decide), ?_⟩
      refine ⟨_, rfl, ls, _, _, _, rfl, rfl, SqL.of h11, at1, _, _, rfl, rfl, (by show (0 : Int) < 9; decide), ?_⟩
      refine ⟨_, rfl, ls, _, _, _, rfl, rfl, SqL.of h11, at1, _, _, rfl, rfl, (by show (0 : Int) < 9; decide), ?_⟩
      refine ⟨_, rfl, ls, _, _, _, rfl, rfl, SqL.of h11, at1, _, _, rfl, rfl, ⟨by decide, by decide, by decide⟩, _, _, rfl, rfl, (by show (0 : Int) < 10 ^ Int.toNat 9; decide), (by show 4 ≤ sizeLine; decide), fun lw hlw => ?_⟩
      obtain ⟨r, er⟩ := wAt (gi nn 1) (gi nn 3)
      dsimp only at hlw ⊢
      generalize hww : [V.int (gi nn 1 % 9), V.int (gi nn 1 % 9), V.int (gi nn 1 % 9), V.int (gi nn 1 % 10 ^ Int.toNat 9)] = ww at *
      have s12 : Same H11 (upd H11 lw (.lst ww)) := Same.put (Same.refl _) hlw
      have h12 : (upd H11 lw (.lst ww)) lw = some (.lst ww) := upd_same
      generalize upd H11 lw (.lst ww) = H12 at *
      refine ⟨_, rfl, ls, _, _, _, rfl, rfl, SqL.of (s12 _ _ h11), atI_nat (j := 3) (gi_at (by omega)), _, _, rfl, rfl, (by show (0 : Int) < 4; decide), lw, _, _, _, rfl, rfl, SqL.of h12, er, _, _, rfl, rfl, ?_⟩
      have S12 : Same H9 H12 := Same.trans s10 (Same.trans s11 s12)
      have hl12 := S12 _ _ h9
      -- what is appended
      refine ⟨_, rfl, .inl ⟨rfl, _, SqL.of hl12⟩, ?_⟩
      have en : (nms.map V.str)[i]? = some (V.str (nms.getD i "")) := by
        rw [List.getElem?_map, List.getElem?_eq_getElem (by omega), List.getD_eq_getElem?_getD, List.getElem?_eq_getElem (by omega)]
        rfl
      refine ⟨_, rfl, _, rfl, ln, _, _, _, rfl, rfl, SqL.of (S12 _ _ hn9), atI_of (j := i) (by omega) en, (by show 2 ≤ sizeLine; decide), fun l2 hl2 => ?_⟩
      have s13 : Same H12 (upd H12 l2 (.lst [.str "left", .str "right"])) := Same.put (Same.refl _) hl2
      have h13 : (upd H12 l2 (.lst [.str "left", .str "right"])) l2 = some (.lst [.str "left", .str "right"]) := upd_same
      generalize upd H12 l2 (.lst [.str "left", .str "right"]) = H13 at *
      obtain ⟨b, hb⟩ := side_at (gi nn 0)
      have hs13 := s13 _ _ (s12 _ _ h11)
      refine ⟨_, rfl, ls, _, _, _, rfl, rfl, SqL.of hs13, atI_nat (j := 0) (gi_at (by omega)), _, _, rfl, rfl, (by show (0 : Int) < 2; decide), l2, _, _, _, rfl, rfl, SqL.of h13, hb, ?_⟩
      refine ⟨_, rfl, _, rfl, ls, _, _, _, rfl, rfl, SqL.of hs13, atI_nat (j := 2) (gi_at (by omega)), _, _, rfl, rfl, (by show (0 : Int) < 9; decide), _, _, rfl, rfl, (by show 4 ≤ sizeLine; decide), fun tp htp => ?_⟩
      let fl : Fl := ⟨nms.getD i "", b, 1 + r, 1 + gi nn 2 % 9⟩
      have S13 : Same H9 (upd H13 tp (.tup (flRow fl))) := Same.put (Same.trans S12 s13) (same_none (Same.trans S12 s13) htp)
      have h14 : (upd H13 tp (.tup (flRow fl))) tp = some (.tup (flRow fl)) := upd_same
      have hl14 := S13 _ _ h9
      have r14 := hrow.same S13
      have lfa : fa.length = fls.length := by rw [hrow.1, List.length_map]
      have ncl : lc ≠ l := nlc
      refine (show ∃ l' _, _ from ?_)
      refine ⟨l, _, _, rfl, rfl, hl14, small (by rw [List.length_map]; omega), ?_⟩
      refine (show ∃ fa' fls' v4 v5 v6 v7 v8 v9 v10 v11 v12, _ from ⟨fa ++ [tp], fls ++ [fl], _, _, _, _, _, _, _, _, _, rfl, ?_, ?_, ?_, ?_, by rw [List.length_append, hlen]; rfl⟩)
      · rw [upd_ne lnl]
        exact S13 _ _ hn9
      · rw [upd_ne nlc]
        exact S13 _ _ hc9
      · rw [upd_same, List.map_append]
        rfl
      · rw [List.map_append]
        exact RowsOf.snoc (r14.updL hl14) (Same.refl _) (by rw [upd_ne (ne_of h14 hl14 (by intro z; cases z))]; exact h14)
    rintro σ H4 ⟨fa, fls, v4, v5, v6, v7, v8, v9, v10, v11, v12, rfl, hn4, hc4, h4, hrow, hlen⟩
    rw [List.length_map] at hlen
    have hF : FlAt H4 l fa fls := ⟨h4, hrow, by omega⟩
    have lfa : fa.length = fls.length := by rw [hrow.1, List.length_map]
    have lfm : (fa.map V.ref).length = fls.length := by rw [List.length_map, lfa]
    -- due
    refine ⟨_, rfl, l, _, rfl, .inl (SqL.of h4), ?_⟩
    refine ⟨_, rfl, l, _, rfl, SqL.of h4, for_rev (xs := fa.map V.ref) (fun i σ H9 => ∃ (d : V) (v7 v9 v10 v11 : Option V), σ = [some (.ref a), some (.ref ln), some (.int W), some (.ref l), v4, v5, v6, v7, some d, v9, v10, v11, v12] ∧ Same H4 H9 ∧ DueAt W fls (fls.length - i) d H9) ⟨_, _, _, _, _, rfl, Same.refl _, ?_⟩ (fun i σ H9 _ ⟨_, _, _, _, _, _, z, _⟩ => SqL.of (z _ _ h4)) ?_ ?_⟩
    · rw [lfm]
      exact DueAt.end
    · rintro i x σ H5 hi hx ⟨d, v7, v9, v10, v11, rfl, s5, hd⟩
      rw [lfm] at hi hx
      obtain ⟨p, row, rfl, ep, er, hp⟩ := (hrow.same s5).get hx
      rw [List.getElem?_map] at er
      cases ef : fls[fls.length - 1 - i]? with
      | none => rw [ef] at er; cases er
      | some g =>
        rw [ef] at er
        cases er
        have ei : fls.length - i = (fls.length - 1 - i) + 1 := by omega
        have ei2 : fls.length - (i + 1) = fls.length - 1 - i := by omega
        rw [ei] at hd
        refine ⟨p, _, rfl, SqT.of hp, rfl, _, _, rfl, _, _, rfl, _, _, rfl, _, _, rfl, rfl, ?_⟩
        refine ⟨_, rfl, _, rfl, _, _, rfl, rfl, _, rfl, ?_⟩
        by_cases hw : W < g.w
        · refine iteB (decide_eq_true hw) ?_
          refine ⟨_, rfl, (by show 3 ≤ sizeLine; decide), fun t ht => ?_⟩
          refine (show ∃ d v7 v9 v10 v11, _ from ⟨.ref t, _, _, _, _, rfl, Same.put s5 (same_none s5 ht), ?_⟩)
          rw [ei2]
          exact DueAt.yes ef hw upd_same
        · refine iteC (decide_eq_false hw) ?_
          refine (show ∃ d v7 v9 v10 v11, _ from ⟨d, _, _, _, _, rfl, s5, ?_⟩)
          rw [ei2]
          exact hd.no ef (by omega)
    rintro σ H5 ⟨d, v7, v9, v10, v11, rfl, s5, hd⟩
    rw [lfm, Nat.sub_self] at hd
    have hdue := hd.told
    have h5 := s5 _ _ h4
    -- held, the first test
    refine ⟨_, rfl, l, _, rfl, .inl (SqL.of h5), fun lh hlh => ?_⟩
    have s6 : Same H5 (upd H5 lh (.lst (fa.map V.ref))) := Same.put (Same.refl _) hlh
    have h6 : (upd H5 lh (.lst (fa.map V.ref))) lh = some (.lst (fa.map V.ref)) := upd_same
    generalize upd H5 lh (.lst (fa.map V.ref)) = H6 at *
    have S6 := Same.trans s5 s6
    have hF6 := hF.same S6
    refine ⟨_, rfl, _, rfl, tnil_go ?_⟩
    refine told_go (fa := fa) (fls := fls) ⟨h6, hF6.2.1, hF6.2.2⟩ fun v H7 s7 hv => ?_
    refine ⟨_, rfl, told_eq hv (hdue.same (Same.trans s6 s7)) ⟨_, rfl, iteF ?_⟩⟩
    have S7 := Same.trans S6 s7
    have h7 := S7 _ _ h4
    refine ⟨_, rfl, _, rfl, lh, l, _, _, fun _ => true, rfl, rfl, .inl ⟨SqL.of (s7 _ _ h6), SqL.of h7⟩, rfl, (fun j x y e1 e2 => ?_), _, rfl, ?_⟩
    · rw [e1] at e2
      cases e2
      rw [List.getElem?_map] at e1
      cases f1 : fa[j]? with
      | none => rw [f1] at e1; cases e1
      | some p => rw [f1] at e1; cases e1; exact .same
    rw [all_true_range]
    refine iteF ?_
    -- those that are no wider
    refine ⟨_, rfl, l, rfl, ⟨_, SqL.of h7⟩, ?_⟩
    refine comp_listF (K := K) (a := l) (xs := fa.map V.ref) (fun D i m H' => ∃ (ka : List Addr) (kf : List Fl), m = ka.map V.ref ∧ kf.length ≤ i ∧ Same H7 H' ∧ H' D = some (.lst m) ∧ H7 D = none ∧ RowsOf H' ka (kf.map flRow) ∧ ∀ f ∈ kf, f.w ≤ W) (small (by rw [lfm]; have := hF.2.2; omega))
      (fun D hD => ⟨[], [], rfl, Nat.le_refl _, Same.put (Same.refl _) hD, upd_same, hD, RowsOf.nil, fun f hf => by cases hf⟩) (fun D i m H' ⟨_, _, _, _, s', _⟩ => SqL.of (s' _ _ h7)) (fun D i m H' ⟨ka, kf, e1, e2, _, _, _, hr, _⟩ => by rw [e1, List.length_map, hr.1, List.length_map]; exact e2) ?_ ?_
    · intro D i x m H' Q1 hx ⟨ka, kf, e1, e2, s', hD', hD, hr, hk⟩ hq
      subst e1
      obtain ⟨p, row, rfl, ep, er, hp⟩ := (hrow.same (Same.trans S7 s')).get hx
      rw [List.getElem?_map] at er
      cases ef : fls[i]? with
      | none => rw [ef] at er; cases er
      | some g =>
        rw [ef] at er
        cases er
        refine ⟨_, rfl, p, _, _, _, rfl, rfl, SqT.of hp, atI_nat (j := 2) rfl, _, rfl, _, _, rfl, rfl, _, rfl, ?_⟩
        refine hq _ _ (fun hb => ⟨ka, kf, rfl, by omega, s', hD', hD, hr, hk⟩) fun hb Q' hq' => ?_
        refine ⟨_, rfl, hq' _ _ hD' ⟨ka ++ [p], kf ++ [g], by rw [List.map_append]; rfl, by rw [List.length_append]; show kf.length + 1 ≤ i + 1; omega, Same.put s' hD, upd_same, hD, ?_, fun f hf => ?_⟩⟩
        · rw [List.map_append]
          exact RowsOf.snoc (hr.updL hD') (Same.refl _) (by rw [upd_ne (ne_of hp hD' (by intro z; cases z))]; exact hp)
        · rcases List.mem_append.mp hf with z | z
          · exact hk f z
          · rw [List.mem_singleton.mp z]
            exact of_decide_eq_true hb
    · intro D m H8 hD ⟨ka, kf, e1, e2, s8, hD8, _, hr, hk⟩
      subst e1
      have e2' : kf.length ≤ fls.length := by rw [lfm] at e2; exact e2
      have hF8 : FlAt H8 D ka kf := ⟨hD8, hr, by have := hF.2.2; omega⟩
      refine ⟨_, rfl, _, rfl, tnil_go ?_⟩
      refine told_go (fa := ka) (fls := kf) hF8 fun v H9 s9 hv => ?_
      rcases hv with ⟨rfl, _⟩ | ⟨n, f, t, hf, _⟩
      · refine ⟨_, rfl, D, _, rfl, .inl (SqL.of (s9 _ _ hD8)), rfl, ?_⟩
        have : (V.int (kf.length : Int)) = V.int ((ka.map V.ref).length : Int) := by rw [List.length_map, hr.1, List.length_map]
        rw [decide_eq_true this]
        exact k H9
      · exact (fw_not hf hk).elim
end
end B70
namespace B70
open PySem L2 S2
set_option maxHeartbeats 4000000 in
theorem all_mk {l : PySem.W.OpenLaw} {w : World} {K : PySem.W.Frag} {h : Heap} {mg : Str → Option Value} {fa CT f1 f2 f3 f4 f5 f6 f7 f8 f9 f10 f11 f12 f13 f14 f15 f16 : Addr} (X : K.In h) (G : h.Ns mainGlobals mg) (hfa : mg "law" = some (.ref fa))
    {od1 an1 od2 an2 od3 an3 od4 an4 od5 an5 od6 an6 od7 an7 od8 an8 od9 an9 od10 an10 od11 an11 od12 an12 od13 an13 od14 an14 od15 an15 od16 an16 : Option Addr} {sl1 sl2 sl3 sl4 sl5 sl6 sl7 sl8 sl9 sl10 sl11 sl12 sl13 sl14 sl15 sl16 : Array (Option Value)} {oc1 kV1 dc1 pm1 cd1 ct1 oc2 kV2 dc2 pm2 cd2 ct2 oc3 kV3 dc3 pm3 cd3 ct3 oc4 kV4 dc4 pm4 cd4 ct4 oc5 kV5 dc5 pm5 cd5 ct5 oc6 kV6 dc6 pm6 cd6 ct6 oc7 kV7 dc7 pm7 cd7 ct7 oc8 kV8 dc8 pm8 cd8 ct8 oc9 kV9 dc9 pm9 cd9 ct9 oc10 kV10 dc10 pm10 cd10 ct10 oc11 kV11 dc11 pm11 cd11 ct11 oc12 kV12 dc12 pm12 cd12 ct12 oc13 kV13 dc13 pm13 cd13 ct13 oc14 kV14 dc14 pm14 cd14 ct14 oc15 kV15 dc15 pm15 cd15 ct15 oc16 kV16 dc16 pm16 cd16 ct16 : Value}
    (aCT : PySem.W.nsIn K mainGlobals "TooWide" = some (some (.ref CT)))
    (a1 : PySem.W.nsIn K mainGlobals "touches" = some (some (.ref f1))) (l1 : K.lookup f1 = some ⟨oc1, od1, .func (PySem.W.fnOf "touches" "touches" (defArgs sTou) (defBody sTou) (defScope sTou) .none kV1 dc1 pm1 an1 cd1 ct1), sl1⟩) (c1 : PySem.W.codeIn K cd1 "touches" = true) (k1 : PySem.W.keepIn K (.ref f1) = true)
    (a2 : PySem.W.nsIn K mainGlobals "touching" = some (some (.ref f2))) (l2 : K.lookup f2 = some ⟨oc2, od2, .func (PySem.W.fnOf "touching" "touching" (defArgs sTouching) (defBody sTouching) (defScope sTouching) .none kV2 dc2 pm2 an2 cd2 ct2), sl2⟩) (c2 : PySem.W.codeIn K cd2 "touching" = true) (k2 : PySem.W.keepIn K (.ref f2) = true)
    (a3 : PySem.W.nsIn K mainGlobals "left_end" = some (some (.ref f3))) (l3 : K.lookup f3 = some ⟨oc3, od3, .func (PySem.W.fnOf "left_end" "left_end" (defArgs sLEnd) (defBody sLEnd) (defScope sLEnd) .none kV3 dc3 pm3 an3 cd3 ct3), sl3⟩) (c3 : PySem.W.codeIn K cd3 "left_end" = true) (k3 : PySem.W.keepIn K (.ref f3) = true)
    (a4 : PySem.W.nsIn K mainGlobals "right_end" = some (some (.ref f4))) (l4 : K.lookup f4 = some ⟨oc4, od4, .func (PySem.W.fnOf "right_end" "right_end" (defArgs sREnd) (defBody sREnd) (defScope sREnd) .none kV4 dc4 pm4 an4 cd4 ct4), sl4⟩) (c4 : PySem.W.codeIn K cd4 "right_end" = true) (k4 : PySem.W.keepIn K (.ref f4) = true)
    (a5 : PySem.W.nsIn K mainGlobals "nearest" = some (some (.ref f5))) (l5 : K.lookup f5 = some ⟨oc5, od5, .func (PySem.W.fnOf "nearest" "nearest" (defArgs sNear) (defBody sNear) (defScope sNear) .none kV5 dc5 pm5 an5 cd5 ct5), sl5⟩) (c5 : PySem.W.codeIn K cd5 "nearest" = true) (k5 : PySem.W.keepIn K (.ref f5) = true)
    (a6 : PySem.W.nsIn K mainGlobals "edges_at" = some (some (.ref f6))) (l6 : K.lookup f6 = some ⟨oc6, od6, .func (PySem.W.fnOf "edges_at" "edges_at" (defArgs sEdges) (defBody sEdges) (defScope sEdges) .none kV6 dc6 pm6 an6 cd6 ct6), sl6⟩) (c6 : PySem.W.codeIn K cd6 "edges_at" = true) (k6 : PySem.W.keepIn K (.ref f6) = true)
    (a7 : PySem.W.nsIn K mainGlobals "place_across" = some (some (.ref f7))) (l7 : K.lookup f7 = some ⟨oc7, od7, .func (PySem.W.fnOf "place_across" "place_across" (defArgs sAcross) (defBody sAcross) (defScope sAcross) .none kV7 dc7 pm7 an7 cd7 ct7), sl7⟩) (c7 : PySem.W.codeIn K cd7 "place_across" = true) (k7 : PySem.W.keepIn K (.ref f7) = true)
    (a8 : PySem.W.nsIn K mainGlobals "triple_of" = some (some (.ref f8))) (l8 : K.lookup f8 = some ⟨oc8, od8, .func (PySem.W.fnOf "triple_of" "triple_of" (defArgs sTriple) (defBody sTriple) (defScope sTriple) .none kV8 dc8 pm8 an8 cd8 ct8), sl8⟩) (c8 : PySem.W.codeIn K cd8 "triple_of" = true) (k8 : PySem.W.keepIn K (.ref f8) = true)
    (a9 : PySem.W.nsIn K mainGlobals "stand_float" = some (some (.ref f9))) (l9 : K.lookup f9 = some ⟨oc9, od9, .func (PySem.W.fnOf "stand_float" "stand_float" (defArgs sStand) (defBody sStand) (defScope sStand) .none kV9 dc9 pm9 an9 cd9 ct9), sl9⟩) (c9 : PySem.W.codeIn K cd9 "stand_float" = true) (k9 : PySem.W.keepIn K (.ref f9) = true)
    (a10 : PySem.W.nsIn K mainGlobals "stand_floats" = some (some (.ref f10))) (l10 : K.lookup f10 = some ⟨oc10, od10, .func (PySem.W.fnOf "stand_floats" "stand_floats" (defArgs sStandAll) (defBody sStandAll) (defScope sStandAll) .none kV10 dc10 pm10 an10 cd10 ct10), sl10⟩) (c10 : PySem.W.codeIn K cd10 "stand_floats" = true) (k10 : PySem.W.keepIn K (.ref f10) = true)
    (a11 : PySem.W.nsIn K mainGlobals "_law_cell_at" = some (some (.ref f11))) (l11 : K.lookup f11 = some ⟨oc11, od11, .func (PySem.W.fnOf "_law_cell_at" "_law_cell_at" (defArgs sCell) (defBody sCell) (defScope sCell) .none kV11 dc11 pm11 an11 cd11 ct11), sl11⟩) (c11 : PySem.W.codeIn K cd11 "_law_cell_at" = true) (k11 : PySem.W.keepIn K (.ref f11) = true)
    (a12 : PySem.W.nsIn K mainGlobals "_law_numbers" = some (some (.ref f12))) (l12 : K.lookup f12 = some ⟨oc12, od12, .func (PySem.W.fnOf "_law_numbers" "_law_numbers" (defArgs sNumbers) (defBody sNumbers) (defScope sNumbers) .none kV12 dc12 pm12 an12 cd12 ct12), sl12⟩) (c12 : PySem.W.codeIn K cd12 "_law_numbers" = true) (k12 : PySem.W.keepIn K (.ref f12) = true)
    (a13 : PySem.W.nsIn K mainGlobals "_law_names" = some (some (.ref f13))) (l13 : K.lookup f13 = some ⟨oc13, od13, .func (PySem.W.fnOf "_law_names" "_law_names" (defArgs sLNames) (defBody sLNames) (defScope sLNames) .none kV13 dc13 pm13 an13 cd13 ct13), sl13⟩) (c13 : PySem.W.codeIn K cd13 "_law_names" = true) (k13 : PySem.W.keepIn K (.ref f13) = true)
    (a14 : PySem.W.nsIn K mainGlobals "_law_told" = some (some (.ref f14))) (l14 : K.lookup f14 = some ⟨oc14, od14, .func (PySem.W.fnOf "_law_told" "_law_told" (defArgs sLTold) (defBody sLTold) (defScope sLTold) .none kV14 dc14 pm14 an14 cd14 ct14), sl14⟩) (c14 : PySem.W.codeIn K cd14 "_law_told" = true) (k14 : PySem.W.keepIn K (.ref f14) = true)
    (a15 : PySem.W.nsIn K mainGlobals "law" = some (some (.ref f15))) (l15 : K.lookup f15 = some ⟨oc15, od15, .func (PySem.W.fnOf "law" "law" (defArgs sLaw) (defBody sLaw) (defScope sLaw) .none kV15 dc15 pm15 an15 cd15 ct15), sl15⟩) (c15 : PySem.W.codeIn K cd15 "law" = true) (k15 : PySem.W.keepIn K (.ref f15) = true)
    (a16 : PySem.W.findIn K (.ref CT) "__init__" = some (some (.ref f16))) (i16 : PySem.W.isFn K (.ref f16) = true) (l16 : K.lookup f16 = some ⟨oc16, od16, .func (PySem.W.fnOf "__init__" "TooWide.__init__" (defArgs sTooInit) (defBody sTooInit) (defScope sTooInit) .none kV16 dc16 pm16 an16 cd16 ct16), sl16⟩) (c16 : PySem.W.codeIn K cd16 "TooWide.__init__" = true) (k16 : PySem.W.keepIn K (.ref f16) = true)
    (xtov : excOver K CT = true) (xtsa : PySem.W.findIn K (.ref CT) "__setattr__" = some (some (.builtin "object.__setattr__"))) (xtga : PySem.W.findIn K (.ref CT) "__getattribute__" = some (some (.builtin "BaseException.__getattribute__"))) (xtgt : PySem.W.findIn K (.ref CT) "__getattr__" = some none) (xtmb : PySem.W.mroIn K CT (.type "BaseException") = some true) (xtmo : PySem.W.mroIn K CT (.type "object") = some true) (xtcl : PySem.W.findIn K (.ref CT) "__class__" = some (some (.builtin "object.__class__"))) (xttp : PySem.W.instIn K (.ref CT) (.type "tuple") = some false) (xtkp : PySem.W.keepIn K (.ref CT) = true)
    (xcg : PySem.W.specialIn K (.builtin "object.__class__") "__get__" = some (some (.builtin "getset_descriptor.__get__"))) (xct : PySem.W.takesIn K (.builtin "object.__class__") = some true) (xow : ownIn K CT f16 = true) (xhd : PySem.W.hasDictIn K CT = true) (xnm : PySem.W.findIn K (.ref CT) "name" = some none) (x11 : PySem.W.mroIn K CT (.ref CT) = some true) (xkv : PySem.W.kitOne K (.ref CT) (.type "ValueError") = some true)
    (z0 : PySem.W.nsIn K mainGlobals "len" = some none) (z1 : PySem.W.nsIn K mainGlobals "max" = some none) (z2 : PySem.W.nsIn K mainGlobals "min" = some none) (z3 : PySem.W.nsIn K mainGlobals "zip" = some none) (z4 : PySem.W.nsIn K mainGlobals "list" = some none) (z5 : PySem.W.nsIn K mainGlobals "tuple" = some none) (z6 : PySem.W.nsIn K mainGlobals "int" = some none) (z7 : PySem.W.nsIn K mainGlobals "isinstance" = some none) (z8 : PySem.W.nsIn K mainGlobals "enumerate" = some none) (z9 : PySem.W.nsIn K mainGlobals "range" = some none) (z10 : PySem.W.nsIn K mainGlobals "reversed" = some none) (z11 : PySem.W.nsIn K mainGlobals "ValueError" = some none) :
    ∃ fd : FuncData, (∀ (s : Shared) (v : Value), BindsTo s fd ⟨[v], []⟩ [("_law_script", v)]) ∧ ∀ base : Heap, K.In base → base.Ns mainGlobals mg → FnOk l.prog w K mg base CX0 8 fa fd ["_law_script"] (spLaw K) := by
  have e := hfa.symm.trans (PySem.W.mg_of X G a15)
  cases e
  have N : Names mg := ⟨PySem.W.mg_none_of X G z0, PySem.W.mg_none_of X G z1, PySem.W.mg_none_of X G z2, PySem.W.mg_none_of X G z3, PySem.W.mg_none_of X G z4, PySem.W.mg_none_of X G z5, PySem.W.mg_none_of X G z6, PySem.W.mg_none_of X G z7, PySem.W.mg_none_of X G z8, PySem.W.mg_none_of X G z9, PySem.W.mg_none_of X G z10, PySem.W.mg_none_of X G z11⟩
  have eT : ExcC K CT := ⟨xtov, xtsa, xtga, xtgt, xtmb, xtmo, xtcl, xcg, xct⟩
  have cT : CatC K CT := ⟨(PySem.W.any_some xtov).elim fun cd h => ⟨cd, h.1⟩, xttp, xtmb⟩
  have mT := PySem.W.mg_of X G aCT
  have F1 := fun_mk (st := sTou) l1 c1 k1
  have b1 := F1.binds (ps := ["placed", "row", "high"]) fun _ _ _ _ _ _ us hl => match us, hl with | [_, _, _], _ => rfl
  have m1 := PySem.W.mg_of X G a1
  have F2 := fun_mk (st := sTouching) l2 c2 k2
  have b2 := F2.binds (ps := ["floats", "standing", "side", "row", "high"]) fun _ _ _ _ _ _ us hl => match us, hl with | [_, _, _, _, _], _ => rfl
  have m2 := PySem.W.mg_of X G a2
  have F3 := fun_mk (st := sLEnd) l3 c3 k3
  have b3 := F3.binds (ps := ["placed"]) fun _ _ _ _ _ _ us hl => match us, hl with | [_], _ => rfl
  have m3 := PySem.W.mg_of X G a3
  have F4 := fun_mk (st := sREnd) l4 c4 k4
  have b4 := F4.binds (ps := ["placed"]) fun _ _ _ _ _ _ us hl => match us, hl with | [_], _ => rfl
  have m4 := PySem.W.mg_of X G a4
  have F5 := fun_mk (st := sNear) l5 c5 k5
  have b5 := F5.binds (ps := ["floats", "standing", "row", "high"]) fun _ _ _ _ _ _ us hl => match us, hl with | [_, _, _, _], _ => rfl
  have m5 := PySem.W.mg_of X G a5
  have F6 := fun_mk (st := sEdges) l6 c6 k6
  have b6 := F6.binds (ps := ["W", "floats", "standing", "row", "high"]) fun _ _ _ _ _ _ us hl => match us, hl with | [_, _, _, _, _], _ => rfl
  have m6 := PySem.W.mg_of X G a6
  have F7 := fun_mk (st := sAcross) l7 c7 k7
  have b7 := F7.binds (ps := ["side", "wide", "edges"]) fun _ _ _ _ _ _ us hl => match us, hl with | [_, _, _], _ => rfl
  have m7 := PySem.W.mg_of X G a7
  have F8 := fun_mk (st := sTriple) l8 c8 k8
  have b8 := F8.binds (ps := ["near"]) fun _ _ _ _ _ _ us hl => match us, hl with | [_], _ => rfl
  have m8 := PySem.W.mg_of X G a8
  have F9 := fun_mk (st := sStand) l9 c9 k9
  have b9 := F9.binds (ps := ["W", "floats", "standing", "row"]) fun _ _ _ _ _ _ us hl => match us, hl with | [_, _, _, _], _ => rfl
  have m9 := PySem.W.mg_of X G a9
  have F10 := fun_mk (st := sStandAll) l10 c10 k10
  have b10 := F10.binds (ps := ["W", "floats"]) fun _ _ _ _ _ _ us hl => match us, hl with | [_, _], _ => rfl
  have m10 := PySem.W.mg_of X G a10
  have F11 := fun_mk (st := sCell) l11 c11 k11
  have b11 := F11.binds (ps := ["_law_script", "_law_k"]) fun _ _ _ _ _ _ us hl => match us, hl with | [_, _], _ => rfl
  have m11 := PySem.W.mg_of X G a11
  have F12 := fun_mk (st := sNumbers) l12 c12 k12
  have b12 := F12.binds (ps := ["_law_cell", "_law_many"]) fun _ _ _ _ _ _ us hl => match us, hl with | [_, _], _ => rfl
  have m12 := PySem.W.mg_of X G a12
  have F13 := fun_mk (st := sLNames) l13 c13 k13
  have b13 := F13.binds (ps := ["_law_cell", "_law_many"]) fun _ _ _ _ _ _ us hl => match us, hl with | [_, _], _ => rfl
  have m13 := PySem.W.mg_of X G a13
  have F14 := fun_mk (st := sLTold) l14 c14 k14
  have b14 := F14.binds (ps := ["_law_wide", "_law_floats"]) fun _ _ _ _ _ _ us hl => match us, hl with | [_, _], _ => rfl
  have m14 := PySem.W.mg_of X G a14
  have F15 := fun_mk (st := sLaw) l15 c15 k15
  have F16 := fun_mk (st := sTooInit) l16 c16 k16
  have b16 := F16.binds (ps := ["self", "name"]) fun _ _ _ _ _ _ us hl => match us, hl with | [_, _], _ => rfl
  refine ⟨PySem.W.fnOf "law" "law" (defArgs sLaw) (defBody sLaw) (defScope sLaw) .none kV15 dc15 pm15 an15 cd15 ct15, fun s v => .of_eq rfl, fun base _ _ => ?_⟩
  have GT := ok_tou (P := l.prog) (w := w) (base := base) F1 N
  have GTg := ok_touching (P := l.prog) (w := w) (base := base) F2 N GT b1 m1 k1
  have GL := ok_lend (P := l.prog) (w := w) (mg := mg) (base := base) F3
  have GR := ok_rend (P := l.prog) (w := w) (mg := mg) (base := base) F4
  have GN := ok_near (P := l.prog) (w := w) (base := base) F5 N GTg b2 m2 k2 GR b4 m4 GL b3 m3
  have GE := ok_edges (P := l.prog) (w := w) (base := base) F6 GN b5 m5 k5 GR b4 m4 k4 GL b3 m3 k3
  have GS := ok_stand (P := l.prog) (w := w) (base := base) F9 N GE b6 m6 k6 GN b5 m5 k5 (ok_triple F8 N) b8 m8 k8 (ok_across F7) b7 m7 k7
  have GI := ok_too (P := l.prog) (w := w) (mg := mg) (base := base) F16 eT xnm
  have GA := ok_standAll (P := l.prog) (w := w) (base := base) F10 N xow i16 xtkp mT GI b16 GS b9 m9 k9
  have GD := ok_told (P := l.prog) (w := w) (base := base) F14 N GA b10 m10 k10 mT cT eT xhd xnm x11 xkv
  have GU := ok_numbers (P := l.prog) (w := w) (base := base) F12 N
  exact ok_law F15 N (ok_cell F11 N) b11 m11 k11 (ok_lnames F13 N GU b12 m12 k12) b13 m13 k13 GU b12 m12 k12 GD b14 m14 k14
theorem walk {l : PySem.W.OpenLaw} {q : Program} {loose : List Str} {XP : (Str → Option Value) → Heap → Prop} {YP : World → Heap → Prop} {d : DefRec} {K : Params → PySem.W.Frag} (hn : l.most = some 63) (hdf : d.params.defaults = [])
    (hY : ∀ (w : World) (h : Heap), YP w h → (K w.params).In h)
    (F : ∀ (w : World) (mg : Str → Option Value) (fa : Addr) (h : Heap), (K w.params).In h → h.Ns mainGlobals mg → mg d.name = some (.ref fa) →
      ∃ fd : FuncData, (∀ (s : Shared) (u : Value), BindsTo s fd ⟨[u], []⟩ [("_law_script", u)]) ∧ ∀ base : Heap, (K w.params).In base → base.Ns mainGlobals mg → FnOk l.prog w (K w.params) mg base CX0 8 fa fd ["_law_script"] (spLaw (K w.params))) :
    PySem.W.WalkO q loose XP YP l.row.toRowW d [] (fun f vs => PySem.call f vs) :=
  L2.walk_of (n := 63) (k := 8) (x := "_law_script") (CX := fun _ => CX0) (sp := fun w => spLaw (K w.params)) hn (by decide) hdf ⟨rfl, by decide, by decide⟩ hY F (fun _ _ a ns hl _ hS => ⟨a, ns, rfl, hS, hl, fun _ => rfl⟩) fun _ _ _ _ _ z => z
end B70
open PySem PySem.W PyProof.Rows
set_option maxRecDepth 100000 in
set_option maxHeartbeats 0 in
theorem PySem.Challenge.cw_boxgalley_k70_floats_too_wide_holds : PySem.Challenge.rw_boxgalley_k70_floats_too_wide.Holds := by
  w_on; o_law; k_head; (case hw => w_witness2)
  k_fill
  refine B70.walk (l := PySem.Challenge.rw_boxgalley_k70_floats_too_wide) rfl rfl (fun w h Y => PySem.W.kIn_of Y) ?F
  case F =>
    intro w mg fa h KX G hmg
    refine' B70.all_mk KX G hmg ?aCT ?a1 ?l1 ?c1 ?k1 ?a2 ?l2 ?c2 ?k2 ?a3 ?l3 ?c3 ?k3 ?a4 ?l4 ?c4 ?k4 ?a5 ?l5 ?c5 ?k5 ?a6 ?l6 ?c6 ?k6 ?a7 ?l7 ?c7 ?k7 ?a8 ?l8 ?c8 ?k8 ?a9 ?l9 ?c9 ?k9 ?a10 ?l10 ?c10 ?k10 ?a11 ?l11 ?c11 ?k11 ?a12 ?l12 ?c12 ?k12 ?a13 ?l13 ?c13 ?k13 ?a14 ?l14 ?c14 ?k14 ?a15 ?l15 ?c15 ?k15 ?a16 ?i16 ?l16 ?c16 ?k16 ?xtov ?xtsa ?xtga ?xtgt ?xtmb ?xtmo ?xtcl ?xttp ?xtkp ?xcg ?xct ?xow ?xhd ?xnm ?x11 ?xkv ?z0 ?z1 ?z2 ?z3 ?z4 ?z5 ?z6 ?z7 ?z8 ?z9 ?z10 ?z11
    (case aCT => k_is); (case a1 => k_is); (case l1 => k_is); (case c1 => k_is); (case k1 => k_is); (case a2 => k_is)
    (case l2 => k_is); (case c2 => k_is); (case k2 => k_is); (case a3 => k_is); (case l3 => k_is); (case c3 => k_is)
    (case k3 => k_is); (case a4 => k_is); (case l4 => k_is); (case c4 => k_is); (case k4 => k_is); (case a5 => k_is)
    (case l5 => k_is); (case c5 => k_is); (case k5 => k_is); (case a6 => k_is); (case l6 => k_is); (case c6 => k_is)
    (case k6 => k_is); (case a7 => k_is); (case l7 => k_is); (case c7 => k_is); (case k7 => k_is); (case a8 => k_is)
    (case l8 => k_is); (case c8 => k_is); (case k8 => k_is); (case a9 => k_is); (case l9 => k_is); (case c9 => k_is)
    (case k9 => k_is); (case a10 => k_is); (case l10 => k_is); (case c10 => k_is); (case k10 => k_is); (case a11 => k_is)
    (case l11 => k_is); (case c11 => k_is); (case k11 => k_is); (case a12 => k_is); (case l12 => k_is); (case c12 => k_is)
    (case k12 => k_is); (case a13 => k_is); (case l13 => k_is); (case c13 => k_is); (case k13 => k_is); (case a14 => k_is)
    (case l14 => k_is); (case c14 => k_is); (case k14 => k_is); (case a15 => k_is); (case l15 => k_is); (case c15 => k_is)
    (case k15 => k_is); (case a16 => k_is); (case i16 => k_is); (case l16 => k_is); (case c16 => k_is); (case k16 => k_is)
    (case xtov => rfl); (case xtsa => k_is); (case xtga => k_is); (case xtgt => k_is); (case xtmb => k_is); (case xtmo => k_is)
    (case xtcl => k_is); (case xttp => k_is); (case xtkp => k_is); (case xcg => k_is); (case xct => k_is); (case xow => with_unfolding_all exact Eq.refl true)
    (case xhd => k_is); (case xnm => k_is); (case x11 => k_is); (case xkv => rfl); (case z0 => k_is); (case z1 => k_is)
    (case z2 => k_is); (case z3 => k_is); (case z4 => k_is); (case z5 => k_is); (case z6 => k_is); (case z7 => k_is)
    (case z8 => k_is); (case z9 => k_is); (case z10 => k_is); (case z11 => k_is)
