import PyProof.Rows.All
import Wide.All
import OpenK.AllK
import Wide.FinOn
import Lean
import PyProof.EqAt
import PyProof.EqKinds
import PyProof.TupleCall
import PyProof.MinMaxWalk
import PyProof.NeKinds
import PyProof.Rows.ZipGen
import KE.KRevIter
import KE.KMinKey
import PyProof.Rows.Range3
import PyProof.IsRules
import PySem.Challenge.RW_boxgalley_k68_papers_of_floats
set_option Elab.async false
set_option linter.all false
set_option maxRecDepth 100000
namespace L2
open PySem PySem.Spec PyProof.Rows
abbrev Key := Sum Int Str
def keyIs : Key → Value → Bool
  | .inl k, v => Value.isInt k v
  | .inr x, v => Value.isStrOf x v
def keyH (w : World) : Key → Int
  | .inl k => hashInt k
  | .inr x => hashStr w x
theorem keyIs_shape : ∀ {k : Key} {v : Value}, keyIs k v = true → (∃ i t, k = Sum.inl i ∧ v = Value.int i t) ∨ (∃ x t, k = Sum.inr x ∧ v = Value.str x t)
  | .inl i, v, h => by
    obtain ⟨t, e⟩ := Value.isInt_shape (k := i) (v := v) h
    exact .inl ⟨i, t, rfl, e⟩
  | .inr x, v, h => by
    obtain ⟨t, e⟩ := Value.isStrOf_shape (x := x) (v := v) h
    exact .inr ⟨x, t, rfl, e⟩
theorem keyIs_int (i : Int) (t : Tok) : keyIs (.inl i) (.int i t) = true := by simp [keyIs, Value.isInt]
theorem keyIs_str (x : Str) (t : Tok) : keyIs (.inr x) (.str x t) = true := by simp [keyIs, Value.isStrOf]
theorem key_ll (a b : Int) : decide ((Sum.inl a : Key) = Sum.inl b) = (a == b) := by
  by_cases e : a = b
  · subst e; simp
  · have h : ¬ (Sum.inl a : Key) = Sum.inl b := fun q => e (Sum.inl.inj q)
    rw [decide_eq_false h]
    exact (beq_eq_false_iff_ne.mpr e).symm
theorem key_rr (a b : Str) : decide ((Sum.inr a : Key) = Sum.inr b) = decide (a = b) := by
  by_cases e : a = b
  · subst e; simp
  · have h : ¬ (Sum.inr a : Key) = Sum.inr b := fun q => e (Sum.inr.inj q)
    rw [decide_eq_false h, decide_eq_false e]
theorem key_lr (a : Int) (b : Str) : decide ((Sum.inl a : Key) = Sum.inr b) = false := decide_eq_false (fun q => nomatch q)
theorem key_rl (a : Str) (b : Int) : decide ((Sum.inr a : Key) = Sum.inl b) = false := decide_eq_false (fun q => nomatch q)
def mixKind (prog : Program) (w : World) : PySem.KeyKind prog w Key where
  is := keyIs
  hash := keyH w
  inj := fun v a b ha hb => by
    rcases keyIs_shape ha with ⟨i, t, rfl, rfl⟩ | ⟨x, t, rfl, rfl⟩
    · rcases keyIs_shape hb with ⟨j, u, rfl, e⟩ | ⟨y, u, rfl, e⟩
      · injection e with e1 _; rw [e1]
      · exact nomatch e
    · rcases keyIs_shape hb with ⟨j, u, rfl, e⟩ | ⟨y, u, rfl, e⟩
      · exact nomatch e
      · injection e with e1 _; rw [e1]
  byValue := fun k v h => by
    rcases keyIs_shape h with ⟨i, t, rfl, rfl⟩ | ⟨x, t, rfl, rfl⟩ <;> rfl
  pyHash := fun hv h => by
    rcases keyIs_shape hv with ⟨i, t, rfl, rfl⟩ | ⟨x, t, rfl, rfl⟩
    · exact wpAny_pyHash_int h
    · exact wpAny_pyHash_str h
  eqBool := fun hu hv h => by
    rcases keyIs_shape hu with ⟨i, t, rfl, rfl⟩ | ⟨x, t, rfl, rfl⟩
    · rcases keyIs_shape hv with ⟨j, u, rfl, rfl⟩ | ⟨y, u, rfl, rfl⟩
      · rw [key_ll] at h; exact wpAny_eqBool_int h
      · rw [key_lr] at h; exact SeqAt.EqAt.int_str i t y u _ _ _ _ h
    · rcases keyIs_shape hv with ⟨j, u, rfl, rfl⟩ | ⟨y, u, rfl, rfl⟩
      · rw [key_rl] at h; exact SeqAt.EqAt.str_int x t j u _ _ _ _ h
      · rw [key_rr] at h; exact wpAny_eqBool_str h
  «strs» := fun k x t v h => by
    rcases keyIs_shape h with ⟨i, u, rfl, e⟩ | ⟨y, u, rfl, e⟩
    · exact nomatch e
    · injection e with e1 _
      subst e1
      cases v <;> rfl
theorem mixKind_int (prog : Program) (w : World) (i : Int) (t : Tok) : (mixKind prog w).is (.inl i) (.int i t) = true := keyIs_int i t
theorem mixKind_str (prog : Program) (w : World) (x : Str) (t : Tok) : (mixKind prog w).is (.inr x) (.str x t) = true := keyIs_str x t
end L2
namespace L2
open PySem PySem.Spec PyProof.Rows
inductive V where
  | non | bl (b : Bool) | int (i : Int) | str (x : Str) | byt (b : Array UInt8) | flt (b : UInt64) | ref (a : Addr) | ty (n : String)
  deriving DecidableEq
def RelV : V → Value → Prop
  | .non, u => u = Value.none
  | .bl b, u => u = Value.bool b
  | .int i, u => ∃ t, u = Value.int i t
  | .str x, u => ∃ t, u = Value.str x t
  | .byt b, u => ∃ t, u = Value.bytes b t
  | .flt b, u => ∃ t, u = Value.float b t
  | .ref a, u => u = Value.ref a
  | .ty n, u => u = Value.type n
abbrev Vals : List V → List Value → Prop := Paired RelV
theorem Vals.length {xs : List V} {us : List Value} (r : Vals xs us) : xs.length = us.length := Paired.length r
theorem Vals.get : ∀ {xs : List V} {us : List Value} {i : Nat} {x : V}, Vals xs us → xs[i]? = some x → ∃ u, us[i]? = some u ∧ RelV x u
  | _, _, _, _, .nil, e => by simp at e
  | _, _, 0, _, .cons r _, e => by simp at e; subst e; exact ⟨_, rfl, r⟩
  | _, _, i + 1, x, .cons _ t, e => by
    obtain ⟨u, h1, h2⟩ := Vals.get (i := i) (x := x) t (by simpa using e)
    exact ⟨u, by simpa using h1, h2⟩
theorem Vals.set {x : V} {u : Value} (r : RelV x u) : ∀ {xs : List V} {us : List Value} (i : Nat), Vals xs us → Vals (xs.set i x) (us.set i u)
  | _, _, _, .nil => .nil
  | _, _, 0, .cons _ t => .cons r t
  | _, _, i + 1, .cons q t => .cons q (Vals.set r i t)
theorem Vals.append : ∀ {xs ys : List V} {us ws : List Value}, Vals xs us → Vals ys ws → Vals (xs ++ ys) (us ++ ws)
  | _, _, _, _, .nil, s => s
  | _, _, _, _, .cons r t, s => .cons r (Vals.append t s)
theorem Vals.take : ∀ {xs : List V} {us : List Value} (n : Nat), Vals xs us → Vals (xs.take n) (us.take n)
  | _, _, 0, _ => .nil
  | _, _, _ + 1, .nil => .nil
  | _, _, n + 1, .cons r t => .cons r (Vals.take n t)
theorem Vals.drop : ∀ {xs : List V} {us : List Value} (n : Nat), Vals xs us → Vals (xs.drop n) (us.drop n)
  | _, _, 0, r => r
  | _, _, _ + 1, .nil => .nil
  | _, _, n + 1, .cons _ t => Vals.drop n t
def RelO : Option V → Option Value → Prop
  | some v, some u => RelV v u
  | none, none => True
  | _, _ => False
def KV {κ : Type} : List (κ × V) → List (κ × Value) → Prop := Paired fun (p : κ × V) (q : κ × Value) => p.1 = q.1 ∧ RelV p.2 q.2
def kV : Key → V
  | .inl i => .int i
  | .inr x => .str x
inductive HO where
  /-- a list -/
  | lst (xs : List V)
  /-- a tuple (never changes) -/
  | tup (xs : List V)
  /-- a dict whose keys are ints and texts; one whose keys are tuples of ints and texts (the empty one is both) -/
  | dK (kvs : List (Key × V)) | dT (kvs : List (List Key × V))
  /-- a set of ints: its members, its size -/
  | set (S : Int → Bool) (n : Nat)
  /-- an instance of the class at C, its dict at dx, its attributes -/
  | ins (C dx : Addr) (fs : List (Str × V))
  /-- the dict of the instance at x -/
  | own (x : Addr)
  /-- the dict of an exception -/
  | xd (fs : List (Str × V))
  /-- a bound method, f of x -/
  | met (f x : Addr)
  /-- a range object lo, lo + 1, .. below hi -/
  | rng (lo hi : Int)
  /-- a thing that is known to the object (the script; a dict while a loop walks it): read, never written while it is so -/
  | frz (o : Obj) (u : HO)
  /-- a code object's table -/
  | tbl (ps : Array Value)
  /-- any other thing, by what is true of its one object (a def of one's own: SetO a S n := HO.ext fun h => ..) -/
  | ext (φ : Heap → Prop)
abbrev Hp := Addr → Option HO
def upd (H : Hp) (a : Addr) (o : HO) : Hp := fun b => if b = a then some o else H b
theorem upd_same {H : Hp} {a : Addr} {o : HO} : upd H a o a = some o := by unfold upd; rw [if_pos rfl]
theorem upd_ne {H : Hp} {a b : Addr} {o : HO} (h : b ≠ a) : upd H a o b = H b := by unfold upd; rw [if_neg h]
theorem ne_of {H : Hp} {a b : Addr} {o u : HO} (h : H a = some o) (h' : H b = some u) (d : o ≠ u) : a ≠ b := by
  intro e; subst e; rw [h] at h'; exact d (Option.some.inj h')
theorem ne_of_none {H : Hp} {a b : Addr} {o : HO} (h : H a = some o) (h' : H b = none) : a ≠ b := by
  intro e; subst e; rw [h] at h'; cases h'
section
variable (P : Program) (w : World)
def ObjOk (H : Hp) (h : Heap) (a : Addr) : HO → Prop
  | .lst xs => xs.length ≤ sizeLine ∧ ∃ (its : List Value) (n : Nat), Vals xs its ∧ h.get? a = some { cls := .type "list", data := .seq its.toArray n }
  | .tup xs => xs.length ≤ sizeLine ∧ ∃ its : List Value, Vals xs its ∧ IsTup h a its.toArray
  | .dK kvs => kvs.length ≤ sizeLine ∧ (a == sysModules) = false ∧ ∃ vs, KV kvs vs ∧ h.DictOf (mixKind P w) a vs
  | .dT kvs => kvs.length ≤ sizeLine ∧ (a == sysModules) = false ∧ ∃ xs : List (List Key × Addr × Value),
      Paired (fun (p : List Key × V) (q : List Key × Addr × Value) => p.1 = q.1 ∧ H q.2.1 = some (.tup (p.1.map kV)) ∧ RelV p.2 q.2.2) kvs xs ∧
      ∃ o es ep, h.get? a = some o ∧ o.ExactDict ∧ o.data = .dict es ep ∧ es.toList = xs.map (entryOfKey (tupleKind (mixKind P w))) ∧ (xs.map (·.1)).Nodup
  | .set S n => h.SetOf (intKind P w) a S n
  | .ins C dx fs => H dx = some (.own a) ∧ fs.length ≤ 1000 ∧ dx ≠ a ∧ h.get? a = some (PySem.W.instObj C dx) ∧
      ∃ mA, h.Ns1 dx mA ∧ (∀ f, RelO (fs.lookup f) (mA f)) ∧ PySem.Within mA (fs.map (·.1))
  | .own _ => ∃ o, h.get? a = some o
  | .xd fs => ∃ mA, h.Ns1 a mA ∧ ∀ f, RelO (fs.lookup f) (mA f)
  | .rng lo hi => ∃ t u v, h.get? a = some { cls := .type "range", data := .fields #[.int lo t, .int hi u, .int 1 v] }
  | .frz o u => h.get? a = some o ∧ ObjOk H h a u
  | .tbl ps => h.get? a = some { cls := .none, data := .fields ps }
  | .met f x => h.get? a = some (PySem.W.methodObj (.ref f) (.ref x))
  | .ext φ => φ h ∧ (∃ o, h.get? a = some o) ∧ ∀ h1 h2 : Heap, φ h1 → (∀ o, h1.get? a = some o → h2.get? a = some o) → φ h2
def HOk (H : Hp) (h : Heap) : Prop := ∀ a o, H a = some o → ObjOk P w H h a o
end
section
variable {P : Program} {w : World} {H H' : Hp} {h h' : Heap} {a : Addr} {o : HO}
theorem ObjOk.lt (x : ObjOk P w H h a o) : a < h.objs.size := by
  cases o with
  | lst xs => obtain ⟨_, _, _, _, e⟩ := x; exact Heap.lt_size e
  | tup xs => obtain ⟨_, _, _, p⟩ := x; exact p.lt
  | dK kvs => obtain ⟨_, _, _, _, o, _, _, e, _⟩ := x; exact Heap.lt_size e
  | dT kvs => obtain ⟨_, _, _, _, o, _, _, e, _⟩ := x; exact Heap.lt_size e
  | set S n => obtain ⟨o, _, _, _, e, _⟩ := x; exact Heap.lt_size e
  | ins C dx fs => obtain ⟨_, _, _, e, _⟩ := x; exact Heap.lt_size e
  | own y => obtain ⟨_, e⟩ := x; exact Heap.lt_size e
  | xd fs => obtain ⟨_, ⟨_, _, _, e, _⟩, _⟩ := x; exact Heap.lt_size e
  | rng lo hi => obtain ⟨_, _, _, e⟩ := x; exact Heap.lt_size e
  | frz ob u => obtain ⟨e, _⟩ := x; exact Heap.lt_size e
  | tbl ps => exact Heap.lt_size (show h.get? a = some _ from x)
  | met f y => exact Heap.lt_size (show h.get? a = some _ from x)
  | ext φ => obtain ⟨_, ⟨_, e⟩, _⟩ := x; exact Heap.lt_size e
theorem Paired.mapP {α β : Type} {F G : α → β → Prop} : ∀ {l₁ : List α} {l₂ : List β}, Paired F l₁ l₂ → (∀ a b, F a b → G a b) → Paired G l₁ l₂
  | _, _, .nil, _ => .nil
  | _, _, .cons r t, f => .cons (f _ _ r) (Paired.mapP t f)
theorem ObjOk.stay (x : ObjOk P w H h a o) (k : ∀ b u, (b = a ∨ H b = some (.own a)) → h.get? b = some u → h'.get? b = some u)
    (ho : ∀ b, H b = some (.own a) → H' b = some (.own a)) (ht : ∀ b xs, H b = some (.tup xs) → H' b = some (.tup xs)) : ObjOk P w H' h' a o := by
  induction o with
  | lst xs => obtain ⟨z, its, n, r, e⟩ := x; exact ⟨z, its, n, r, k _ _ (.inl rfl) e⟩
  | tup xs => obtain ⟨z, its, r, ob, e, c⟩ := x; exact ⟨z, its, r, ob, k _ _ (.inl rfl) e, c⟩
  | dK kvs => obtain ⟨z, y, vs, r, ob, es, ep, e, c⟩ := x; exact ⟨z, y, vs, r, ob, es, ep, k _ _ (.inl rfl) e, c⟩
  | dT kvs =>
    obtain ⟨z, y, xs, r, ob, es, ep, e, c⟩ := x
    exact ⟨z, y, xs, Paired.mapP r fun p q z => ⟨z.1, ht _ _ z.2.1, z.2.2⟩, ob, es, ep, k _ _ (.inl rfl) e, c⟩
  | set S n => obtain ⟨ob, es, ep, t, e, c⟩ := x; exact ⟨ob, es, ep, t, k _ _ (.inl rfl) e, c⟩
  | ins C dx fs =>
    obtain ⟨d, z, ne, e, mA, ⟨od, es, ep, e2, c⟩, r⟩ := x
    exact ⟨ho _ d, z, ne, k _ _ (.inl rfl) e, mA, ⟨od, es, ep, k _ _ (.inr d) e2, c⟩, r⟩
  | own y => obtain ⟨ob, e⟩ := x; exact ⟨ob, k _ _ (.inl rfl) e⟩
  | xd fs => obtain ⟨mA, ⟨od, es, ep, e, c⟩, r⟩ := x; exact ⟨mA, ⟨od, es, ep, k _ _ (.inl rfl) e, c⟩, r⟩
  | rng lo hi => obtain ⟨t, u, v, e⟩ := x; exact ⟨t, u, v, k _ _ (.inl rfl) e⟩
  | frz ob u ih => obtain ⟨e, q⟩ := x; exact ⟨k _ _ (.inl rfl) e, ih q⟩
  | tbl ps =>
    have e : h.get? a = some { cls := .none, data := .fields ps } := x
    show h'.get? a = some { cls := .none, data := .fields ps }
    exact k a _ (.inl rfl) e
  | met f y =>
    have e : h.get? a = some (PySem.W.methodObj (.ref f) (.ref y)) := x
    show h'.get? a = some (PySem.W.methodObj (.ref f) (.ref y))
    exact k a _ (.inl rfl) e
  | ext φ => obtain ⟨p, ⟨o, e⟩, st⟩ := x; exact ⟨st _ _ p fun o q => k _ _ (.inl rfl) q, ⟨o, k _ _ (.inl rfl) e⟩, st⟩
theorem HOk.lt (x : HOk P w H h) (e : H a = some o) : a < h.objs.size := (x a o e).lt
theorem HOk.fresh (x : HOk P w H h) (e : h.objs.size ≤ a) : H a = none := by
  cases q : H a with
  | none => rfl
  | some u => exact absurd (Nat.lt_of_lt_of_le (x.lt q) e) (Nat.lt_irrefl _)
theorem HOk.kept (x : HOk P w H h) (k : ∀ b u, h.get? b = some u → h'.get? b = some u) : HOk P w H h' := fun a o e =>
  (x a o e).stay (fun b u _ q => k b u q) (fun _ q => q) fun _ _ q => q
theorem HOk.laid (x : HOk P w H h) (k : ∀ b u, h.get? b = some u → h'.get? b = some u) (hp : h.objs.size ≤ a) (new : ObjOk P w (upd H a o) h' a o) : HOk P w (upd H a o) h' := fun b u e => by
  have hn := x.fresh hp
  by_cases hb : b = a
  · subst hb; rw [upd_same] at e; cases e; exact new
  · rw [upd_ne hb] at e
    exact (x b u e).stay (fun c v _ q => k c v q) (fun c q => by rw [upd_ne (ne_of_none q hn)]; exact q) fun c xs q => by rw [upd_ne (ne_of_none q hn)]; exact q
end
def Rd (H : Hp) (a : Addr) (u : HO) : Prop := H a = some u ∨ ∃ o, H a = some (.frz o u)
theorem Rd.ok {P : Program} {w : World} {H : Hp} {h : Heap} {a : Addr} {u : HO} (r : Rd H a u) (x : HOk P w H h) : ObjOk P w H h a u := by
  rcases r with r | ⟨o, r⟩
  · exact x a u r
  · obtain ⟨_, q⟩ := x a _ r
    exact q
def Mut : Option HO → Prop
  | some (.lst _) => True
  | some (.dK _) => True
  | some (.dT _) => True
  | some (.set _ _) => True
  | some (.ins _ _ _) => True
  | some (.ext _) => True
  | _ => False
section
variable {P : Program} {w : World} {H : Hp} {h h' : Heap} {x e : Addr} {o' : HO}
theorem HOk.write (ok : HOk P w H h) (mu : Mut (H x)) (he : e = x ∨ H e = some (.own x)) (k : ∀ b u, b ≠ e → h.get? b = some u → h'.get? b = some u) (heo : ∃ u, h'.get? e = some u)
    (new : ObjOk P w (upd H x o') h' x o') : HOk P w (upd H x o') h' := fun b u q => by
  have nown : ∀ c y, H c = some (.own y) → c ≠ x := fun c y r z => by subst z; rw [r] at mu; exact mu
  have ntup : ∀ c xs, H c = some (.tup xs) → c ≠ x := fun c xs r z => by subst z; rw [r] at mu; exact mu
  by_cases hb : b = x
  · subst hb; rw [upd_same] at q; cases q; exact new
  · rw [upd_ne hb] at q
    by_cases hbe : b = e
    · have q' : H b = some (.own x) := by
        rcases he with z | z
        · exact absurd (hbe.trans z) hb
        · rw [hbe]; exact z
      rw [q] at q'; cases q'
      obtain ⟨v, hv⟩ := heo
      exact ⟨v, by rw [hbe]; exact hv⟩
    · refine (ok b u q).stay (fun c v hc r => k c v ?_ r) (fun c r => by rw [upd_ne (nown c b r)]; exact r) fun c xs r => by rw [upd_ne (ntup c xs r)]; exact r
      rcases hc with rfl | hc
      · exact hbe
      · rintro rfl
        rcases he with z | z
        · exact nown c b hc z
        · rw [hc] at z; cases z; exact hb rfl
end
structure Un (fs ex : List Addr) (H H' : Hp) (h h' : Heap) : Prop where
  keep : ∀ b o, h.get? b = some o → H b = none → b ∉ fs → b ∉ ex → h'.get? b = some o
  slot : ∀ b o, h.get? b = some o → H b = none → b ∈ fs → b ∉ ex → ∃ sl, h'.get? b = some { o with slots := sl }
  free : ∀ b o, h.get? b = some o → H b = none → b ∉ ex → H' b = none
  there : ∀ b o, h.get? b = some o → b ∉ ex → ∃ o', h'.get? b = some o'
  tups : ∀ b xs, H b = some (.tup xs) → H' b = some (.tup xs)
  frzs : ∀ b o u, H b = some (.frz o u) → H' b = some (.frz o u)
  tbls : ∀ b ps, H b = some (.tbl ps) → ∃ more, H' b = some (.tbl (ps ++ more))
section
variable {fs fs' ex ex' : List Addr} {H H1 H2 : Hp} {h h1 h2 h' : Heap} {a x e : Addr} {o : HO}
theorem Un.any (u : Un fs ex H H1 h h1) {b : Addr} {ob : Obj} (q : h.get? b = some ob) (n : H b = none) (hx : b ∉ ex) : ∃ sl, h1.get? b = some { ob with slots := sl } := by
  by_cases hb : b ∈ fs
  · exact u.slot b ob q n hb hx
  · exact ⟨ob.slots, u.keep b ob q n hb hx⟩
theorem Un.kept (k : ∀ b u, h.get? b = some u → h'.get? b = some u) : Un fs ex H H h h' :=
  ⟨fun b ob q _ _ _ => k b ob q, fun b ob q _ _ _ => ⟨ob.slots, k b ob q⟩, fun _ _ _ n _ => n, fun b ob q _ => ⟨ob, k b ob q⟩, fun _ _ q => q, fun _ _ _ q => q, fun _ ps q => ⟨#[], by rw [q]; simp⟩⟩
theorem Un.refl : Un fs ex H H h h := Un.kept fun _ _ q => q
theorem Un.laid (k : ∀ b u, h.get? b = some u → h'.get? b = some u) (hp : h.objs.size ≤ a) (hn : H a = none) : Un fs ex H (upd H a o) h h' where
  keep := fun b u q _ _ _ => k b u q
  slot := fun b u q _ _ _ => ⟨u.slots, k b u q⟩
  free := fun b u q n _ => by rw [upd_ne (Nat.ne_of_lt (Nat.lt_of_lt_of_le (Heap.lt_size q) hp))]; exact n
  there := fun b u q _ => ⟨u, k b u q⟩
  tups := fun b xs q => by rw [upd_ne (ne_of_none q hn)]; exact q
  frzs := fun b u xs q => by rw [upd_ne (ne_of_none q hn)]; exact q
  tbls := fun b ps q => ⟨#[], by rw [upd_ne (ne_of_none q hn), q]; simp⟩
theorem Un.write (mu : Mut (H x)) (he : e = x ∨ H e = some (.own x)) (k : ∀ b u, b ≠ e → h.get? b = some u → h'.get? b = some u) (heo : ∃ u, h'.get? e = some u) : Un fs ex H (upd H x o) h h' := by
  have hx : ∀ b, H b = none → b ≠ x := fun b n z => by subst z; rw [n] at mu; exact mu
  have hb : ∀ b, H b = none → b ≠ e := fun b n z => by
    subst z
    rcases he with r | r
    · exact hx b n r
    · rw [n] at r; cases r
  have hm : ∀ b u, H b = some u → ¬ Mut (some u) → b ≠ x := fun b u q nm z => by subst z; rw [q] at mu; exact nm mu
  refine ⟨fun b u q n _ _ => k b u (hb b n) q, fun b u q n _ _ => ⟨u.slots, k b u (hb b n) q⟩, fun b u q n _ => by rw [upd_ne (hx b n)]; exact n, fun b u q _ => ?_,
    fun b xs q => by rw [upd_ne (hm b _ q fun z => z)]; exact q, fun b u xs q => by rw [upd_ne (hm b _ q fun z => z)]; exact q, fun b ps q => ⟨#[], by rw [upd_ne (hm b _ q fun z => z), q]; simp⟩⟩
  by_cases hbe : b = e
  · subst hbe; exact heo
  · exact ⟨u, k b u hbe q⟩
end
def trk (h : Heap) (H : Hp) : List Addr := (List.range h.objs.size).filter fun a => (H a).isSome
def hidT (h : Heap) (H : Hp) : Heap := PySem.W.hideAll h (trk h H)
theorem hidT_size (h : Heap) (H : Hp) : (hidT h H).objs.size = h.objs.size := PySem.W.hideAll_size _ _
theorem hidT_get {h : Heap} {H : Hp} {b : Addr} {o : Obj} (e : h.get? b = some o) (n : H b = none) : (hidT h H).get? b = some o :=
  PySem.W.hideAll_get _ e fun hm => by
    have q : (H b).isSome = true := (List.mem_filter.mp hm).2
    rw [n] at q; simp at q
theorem of_hidT {h : Heap} {H : Hp} {b : Addr} {o : Obj} (e : (hidT h H).get? b = some o) : h.get? b = some o ∧ H b = none := by
  have e' : h.get? b = some o := PySem.W.of_hideAll (trk h H) e
  refine ⟨e', ?_⟩
  cases q : H b with
  | none => rfl
  | some x =>
    have hm : b ∈ trk h H := List.mem_filter.mpr ⟨List.mem_range.mpr (Heap.lt_size e'), by simp [q]⟩
    have z : (hidT h H).get? b = none := PySem.W.hideAll_none (trk h H) hm
    rw [z] at e; cases e
end L2
namespace L2
open PySem PySem.Spec PyProof.Rows
structure Mod (K : PySem.W.Frag) (mg : Str → Option Value) (base : Heap) : Prop where
  kin : K.In base
  glob : base.Ns mainGlobals mg
  blt : ∃ mb, base.Ns builtinsNs mb ∧ ∀ x : Str, x ≠ "__name__" → mb x = bootBuiltins x
  nolimit : base.NoLimit
structure Cx where
  prog : Program
  w : World
  K : PySem.W.Frag
  mg : Str → Option Value
  base : Heap
  A : Around
  N : List Str
  s₀ : Shared
  H₀ : Hp
  env : Env
  outer : List Env
  stack : List Env
  ex : List Addr
  fn : Str → Bool
  calm : Bool
  pn : List (Addr × Obj)
  xe : Value → Shared → Prop
def frs (l : List Env) : List Addr := l.filterMap (·.frame)
abbrev Cx.fs (X : Cx) : List Addr := frs X.outer
def Vis (sc : Scope) (x : Str) : Prop := sc.names.lookup x = some .local ∨ sc.names.lookup x = some .cell ∨ sc.names.lookup x = some .free
def Loc (sc : Scope) (x : Str) : Prop := sc.names.lookup x = some .local ∨ sc.names.lookup x = some .cell
def Look (env : Env) (h : Heap) (m : Str → Option Value) (x : Str) (u : Value) : Prop :=
  (env.kindOf x = some .local ∧ m x = some u) ∨ ((env.kindOf x = some .cell ∨ env.kindOf x = some .free) ∧ ∃ c, env.cells.lookup x = some c ∧ h.IsCell c (some u))
structure Cx.Ok (X : Cx) : Prop where
  mod : Mod X.K X.mg X.base
  kind : X.env.scope.kind = .function
  glob : X.env.globals = mainGlobals
  blt : X.env.builtins = builtinsNs
  above : X.s₀.heap.objs.size ≤ X.env.locals
  inj : ∀ x y c, X.env.cells.lookup x = some c → X.env.cells.lookup y = some c → x = y
  has : ∀ x, (X.env.kindOf x = some .cell ∨ X.env.kindOf x = some .free) → ∃ c, X.env.cells.lookup x = some c
  cab : ∀ x c, X.fn x = true → X.env.cells.lookup x = some c → X.s₀.heap.objs.size ≤ c
  hd : X.calm = true → X.A.handled = none
  frames : X.A.frames = some X.stack
  stk : X.stack = X.outer ∨ (X.stack = X.env :: X.outer ∧ X.env.frame = some X.env.locals)
  exf : ∀ b ∈ X.ex, b ≠ X.env.locals ∧ ∀ x c, X.env.cells.lookup x = some c → c ≠ b
  bs : ∀ b o, X.base.get? b = some o → X.s₀.heap.get? b = some o ∧ X.H₀ b = none
  bsz : X.base.objs.size ≤ X.s₀.heap.objs.size
  noex : ∀ b o, X.base.get? b = some o → b ∉ X.ex
  exfs : ∀ b ∈ X.ex, b ∉ X.fs
  funs : X.s₀.heap.FunFrames X.base X.outer
  frf : ∀ b ∈ X.fs, X.H₀ b = none
structure Inv (X : Cx) (pins : List (Addr × Obj)) (σ : List (Option V)) (H : Hp) (s : Shared) : Prop where
  ok : X.Ok
  os : s.os = X.s₀.os
  bare : AllBare s.gens
  base : Un X.fs X.ex X.H₀ H X.s₀.heap s.heap
  loc : ∃ m, s.heap.Ns X.env.locals m ∧ ∀ (i : Nat) (x : Str) (v : V), X.N[i]? = some x → σ[i]? = some (some v) → Vis X.env.scope x → ∃ u, RelV v u ∧ Look X.env s.heap m x u
  cell : ∀ x c, X.env.cells.lookup x = some c → ∃ v, s.heap.IsCell c v
  free : H X.env.locals = none
  freeC : ∀ x c, X.env.cells.lookup x = some c → H c = none
  pin : ∀ p ∈ X.pn ++ pins, s.heap.get? p.1 = some p.2 ∧ H p.1 = none ∧ p.1 ≠ X.env.locals ∧ p.1 ∉ X.fs ∧ ∀ v, p.2.data ≠ .cell v
  hok : HOk X.prog X.w H s.heap
  len : σ.length = X.N.length
section
variable {X : Cx} {pins : List (Addr × Obj)} {σ : List (Option V)} {H H' : Hp} {s : Shared} {h' : Heap}
theorem Cx.Ok.nofr (ok : X.Ok) {b : Addr} {o : Obj} (e : X.base.get? b = some o) : b ∉ X.fs := fun hb => by
  have := (ok.funs.mem hb).1
  rw [e] at this; cases this
theorem Inv.bs (I : Inv X pins σ H s) : ∀ b o, X.base.get? b = some o → s.heap.get? b = some o ∧ H b = none := fun b o e =>
  ⟨I.base.keep b o (I.ok.bs b o e).1 (I.ok.bs b o e).2 (I.ok.nofr e) (I.ok.noex b o e), I.base.free b o (I.ok.bs b o e).1 (I.ok.bs b o e).2 (I.ok.noex b o e)⟩
theorem Inv.bk (I : Inv X pins σ H s) : ∀ b o, X.base.get? b = some o → s.heap.get? b = some o := fun b o e => (I.bs b o e).1
theorem Inv.mod (I : Inv X pins σ H s) : Mod X.K X.mg X.base := I.ok.mod
theorem Inv.kIn (I : Inv X pins σ H s) : X.K.In s.heap := I.ok.mod.kin.keeps I.bk
theorem Inv.lt (I : Inv X pins σ H s) : X.env.locals < s.heap.objs.size := let ⟨_, hn, _⟩ := I.loc; hn.lt
theorem Inv.sz (I : Inv X pins σ H s) : X.s₀.heap.objs.size ≤ s.heap.objs.size := Nat.le_trans I.ok.above (Nat.le_of_lt I.lt)
theorem Inv.nofs (I : Inv X pins σ H s) {a : Addr} (h : s.heap.objs.size ≤ a) : a ∉ X.fs := fun hb => by
  obtain ⟨_, o, ho, _⟩ := I.ok.funs.mem hb
  exact absurd (Nat.lt_of_lt_of_le (Heap.lt_size ho) (Nat.le_trans I.sz h)) (Nat.lt_irrefl _)
theorem Inv.cne (I : Inv X pins σ H s) : ∀ x c, X.env.cells.lookup x = some c → c ≠ X.env.locals := fun x c e z => by
  obtain ⟨v, o, ho, hd⟩ := I.cell x c e
  obtain ⟨m, ⟨o', es, ep, ho', hd', _⟩, _⟩ := I.loc
  rw [z, ho'] at ho; cases ho; rw [hd'] at hd; cases hd
theorem Inv.funs (I : Inv X pins σ H s) : s.heap.FunFrames X.base X.outer := by
  have all : ∀ (l : List Env), (∀ b ∈ frs l, b ∈ X.fs) → X.s₀.heap.FunFrames X.base l → s.heap.FunFrames X.base l := by
    intro l
    induction l with
    | nil => intro _ _; trivial
    | cons env r ih =>
      intro hs hl
      obtain ⟨hk, ⟨L, o, hf, hn, ho, hd⟩, hr⟩ := hl
      have hL : L ∈ X.fs := hs L (by unfold frs; rw [List.filterMap_cons, hf]; exact List.mem_cons_self)
      obtain ⟨sl, e⟩ := I.base.slot L o ho (I.ok.frf L hL) hL fun z => I.ok.exfs L z hL
      exact ⟨hk, ⟨L, _, hf, hn, e, hd⟩, ih (fun b hb => hs b (by unfold frs; rw [List.filterMap_cons, hf]; exact List.mem_cons_of_mem _ hb)) hr⟩
  exact all X.outer (fun _ hb => hb) I.ok.funs
theorem Inv.stack (I : Inv X pins σ H s) : s.heap.FunFrames X.base X.stack := by
  rcases I.ok.stk with e | ⟨e, hf⟩
  · rw [e]; exact I.funs
  · rw [e]
    obtain ⟨m, hn, _⟩ := I.loc
    refine .cons (by rw [I.ok.kind]; decide) hf hn ?_ I.funs
    exact Heap.get?_none_of_le (Nat.le_trans I.ok.bsz I.ok.above)
theorem Inv.stkSub (I : Inv X pins σ H s) : ∀ b ∈ frs X.stack, b ∈ X.env.locals :: X.fs := fun b hb => by
  rcases I.ok.stk with e | ⟨e, hf⟩
  · rw [e] at hb; exact List.mem_cons_of_mem _ hb
  · rw [e] at hb
    unfold frs at hb
    rw [List.filterMap_cons, hf] at hb
    exact hb
theorem Inv.stkFree (I : Inv X pins σ H s) : ∀ b ∈ frs X.stack, H b = none := fun b hb => by
  rcases List.mem_cons.mp (I.stkSub b hb) with e | hb
  · rw [e]; exact I.free
  · obtain ⟨_, o, ho, _⟩ := I.ok.funs.mem hb
    exact I.base.free b o ho (I.ok.frf b hb) fun z => I.ok.exfs b z hb
theorem Inv.step {g' : Array GenState} {t' : Nat} {d' : Drawn} {ch : List Addr} (I : Inv X pins σ H s)
    (hch : ∀ b ∈ ch, (b ∈ X.ex ∨ X.s₀.heap.objs.size ≤ b) ∧ b ≠ X.env.locals ∧ (∀ x c, X.env.cells.lookup x = some c → c ≠ b) ∧ ∀ p ∈ X.pn ++ pins, p.1 ≠ b)
    (keep : ∀ b o, b ≠ X.env.locals → b ∉ X.fs → b ∉ ch → s.heap.get? b = some o → H b = none → h'.get? b = some o)
    (slot : ∀ b o, b ≠ X.env.locals → b ∈ X.fs → b ∉ ch → s.heap.get? b = some o → H b = none → ∃ sl, h'.get? b = some { o with slots := sl }) (free : ∀ b o, b ∉ ch → s.heap.get? b = some o → H b = none → H' b = none)
    (there : ∀ b o, b ∉ ch → s.heap.get? b = some o → ∃ o', h'.get? b = some o')
    (tups : ∀ b xs, H b = some (.tup xs) → H' b = some (.tup xs)) (frzs : ∀ b o u, H b = some (.frz o u) → H' b = some (.frz o u)) (tbls : ∀ b ps, H b = some (.tbl ps) → ∃ more, H' b = some (.tbl (ps ++ more)))
    (ns : ∀ m, s.heap.Ns X.env.locals m → h'.Ns X.env.locals m) (hok : HOk X.prog X.w H' h') (hg : AllBare g') :
    Inv X pins σ H' { s with heap := h', gens := g', drawn := d', toks := t' } := by
  have neL : ∀ b o, X.s₀.heap.get? b = some o → b ≠ X.env.locals := fun b o e => Nat.ne_of_lt (Nat.lt_of_lt_of_le (Heap.lt_size e) I.ok.above)
  have neC : ∀ b o, X.s₀.heap.get? b = some o → b ∉ X.ex → b ∉ ch := fun b o e hx hb => by
    rcases (hch b hb).1 with z | z
    · exact hx z
    · exact absurd (Nat.lt_of_lt_of_le (Heap.lt_size e) z) (Nat.lt_irrefl _)
  have cellK : ∀ x c, X.env.cells.lookup x = some c → ∀ v, s.heap.IsCell c v → h'.IsCell c v := fun x c e v ⟨o, ho, hd⟩ => by
    have nch : c ∉ ch := fun z => (hch c z).2.2.1 x c e rfl
    by_cases hc : c ∈ X.fs
    · obtain ⟨sl, q⟩ := slot c o (I.cne x c e) hc nch ho (I.freeC x c e)
      exact ⟨_, q, hd⟩
    · exact ⟨o, keep c o (I.cne x c e) hc nch ho (I.freeC x c e), hd⟩
  refine ⟨I.ok, I.os, hg, ⟨fun b o e n hb hx => ?_, fun b o e n hb hx => ?_, fun b o e n hx => ?_, fun b o e hx => ?_, fun b xs e => tups b xs (I.base.tups b xs e), fun b o xs e => frzs b o xs (I.base.frzs b o xs e), fun b ps e => ?_⟩, ?_, fun x c e => ?_, ?_, fun x c e => ?_, fun p hp => ?_, hok, I.len⟩
  · exact keep b o (neL b o e) hb (neC b o e hx) (I.base.keep b o e n hb hx) (I.base.free b o e n hx)
  · obtain ⟨sl, e1⟩ := I.base.slot b o e n hb hx
    obtain ⟨sl', e2⟩ := slot b _ (neL b o e) hb (neC b o e hx) e1 (I.base.free b o e n hx)
    exact ⟨sl', e2⟩
  · obtain ⟨o', e1⟩ := I.base.there b o e hx
    exact free b o' (neC b o e hx) e1 (I.base.free b o e n hx)
  · obtain ⟨o', e1⟩ := I.base.there b o e hx
    exact there b o' (neC b o e hx) e1
  · obtain ⟨m1, e1⟩ := I.base.tbls b ps e
    obtain ⟨m2, e2⟩ := tbls b _ e1
    exact ⟨m1 ++ m2, by rw [e2, Array.append_assoc]⟩
  · obtain ⟨m, hn, hl⟩ := I.loc
    refine ⟨m, ns m hn, fun i x v e1 e2 e3 => ?_⟩
    obtain ⟨u, r, l⟩ := hl i x v e1 e2 e3
    refine ⟨u, r, ?_⟩
    rcases l with l | ⟨k, c, e, z⟩
    · exact .inl l
    · exact .inr ⟨k, c, e, cellK x c e _ z⟩
  · obtain ⟨v, z⟩ := I.cell x c e
    exact ⟨v, cellK x c e v z⟩
  · obtain ⟨m, ⟨o, _, _, ho, _⟩, _⟩ := I.loc
    exact free _ o (fun z => (hch _ z).2.1 rfl) ho I.free
  · obtain ⟨v, o, ho, hd⟩ := I.cell x c e
    exact free c o (fun z => (hch c z).2.2.1 x c e rfl) ho (I.freeC x c e)
  · obtain ⟨e, n, ne, nf, d⟩ := I.pin p hp
    have nch : p.1 ∉ ch := fun z => (hch p.1 z).2.2.2 p hp rfl
    exact ⟨keep p.1 p.2 ne nf nch e n, free p.1 p.2 nch e n, ne, nf, d⟩
theorem Inv.un {t' : Nat} (I : Inv X pins σ H s) (u : Un X.fs [] H H' s.heap h') (hok : HOk X.prog X.w H' h') : Inv X pins σ H' { s with heap := h', toks := t' } := by
  obtain ⟨m, ⟨o, es, ep, ho, r⟩, _⟩ := id I.loc
  obtain ⟨sl, hL⟩ := u.any ho I.free (by simp)
  exact I.step (g' := s.gens) (d' := s.drawn) (ch := []) (fun _ z => nomatch z) (fun b o _ hb _ e n => u.keep b o e n hb (by simp)) (fun b o _ hb _ e n => u.slot b o e n hb (by simp)) (fun b o _ e n => u.free b o e n (by simp)) (fun b o _ e => u.there b o e (by simp)) u.tups u.frzs u.tbls (fun m' hm => by
    obtain ⟨o', es', ep', ho', r'⟩ := hm
    rw [ho] at ho'; cases ho'
    exact ⟨_, es', ep', hL, r'⟩) hok I.bare
theorem Inv.call {g' : Array GenState} {t' : Nat} {d' : Drawn} {ch : List Addr} (I : Inv X pins σ H s) (u : Un (frs X.stack) ch H H' s.heap h') (hok : HOk X.prog X.w H' h') (hg : AllBare g')
    (hch : ∀ b ∈ ch, (b ∈ X.ex ∨ X.s₀.heap.objs.size ≤ b) ∧ b ≠ X.env.locals ∧ (∀ x c, X.env.cells.lookup x = some c → c ≠ b) ∧ ∀ p ∈ X.pn ++ pins, p.1 ≠ b) :
    Inv X pins σ H' { s with heap := h', gens := g', drawn := d', toks := t' } := by
  obtain ⟨m, ⟨o, es, ep, ho, r⟩, _⟩ := id I.loc
  obtain ⟨sl, hL⟩ := u.any ho I.free fun z => (hch _ z).2.1 rfl
  exact I.step (ch := ch) hch (fun b o hL hb hc e n => u.keep b o e n (fun z => (List.mem_cons.mp (I.stkSub b z)).elim hL hb) hc) (fun b o _ _ hc e n => u.any e n hc) (fun b o hc e n => u.free b o e n hc) (fun b o hc e => u.there b o e hc) u.tups u.frzs u.tbls (fun m' hm => by
    obtain ⟨o', es', ep', ho', r'⟩ := hm
    rw [ho] at ho'; cases ho'
    exact ⟨_, es', ep', hL, r'⟩) hok hg
theorem Inv.turned {t' : Nat} {it : Addr} (I : Inv X pins σ H s) (k : ∀ b o, b ≠ it → s.heap.get? b = some o → h'.get? b = some o) (hn : H it = none) (hL : it ≠ X.env.locals)
    (h1 : it ∈ X.ex ∨ X.s₀.heap.objs.size ≤ it) (h2 : ∀ x c, X.env.cells.lookup x = some c → c ≠ it) (h3 : ∀ p ∈ X.pn ++ pins, p.1 ≠ it) : Inv X pins σ H { s with heap := h', toks := t' } := by
  have nit : ∀ b u, H b = some u → b ≠ it := fun b u e z => by rw [z, hn] at e; cases e
  refine I.step (g' := s.gens) (d' := s.drawn) (ch := [it]) (fun b hb => ?_) (fun b o _ _ hc e _ => k b o (fun z => hc (by simp [z])) e) (fun b o _ _ hc e _ => ⟨o.slots, k b o (fun z => hc (by simp [z])) e⟩) (fun _ _ _ _ n => n)
    (fun b o hc e => ⟨o, k b o (fun z => hc (by simp [z])) e⟩) (fun _ _ e => e) (fun _ _ _ e => e) (fun b ps e => ⟨#[], by rw [e]; simp⟩) (fun m hm => ?_) (fun b u e => ?_) I.bare
  · have e : b = it := by simpa using hb
    subst e
    exact ⟨h1, hL, h2, h3⟩
  · obtain ⟨o, es, ep, ho, r⟩ := hm
    exact ⟨o, es, ep, k _ o (Ne.symm hL) ho, r⟩
  · refine (I.hok b u e).stay (fun c v hc q => k c v ?_ q) (fun _ q => q) fun _ _ q => q
    rcases hc with z | z
    · rw [z]; exact nit b u e
    · exact nit c _ z
theorem Inv.tok (I : Inv X pins σ H s) (t : Nat) : Inv X pins σ H { s with toks := t } := I.un (h' := s.heap) (t' := t) Un.refl I.hok
theorem Inv.kept {t' : Nat} (I : Inv X pins σ H s) (k : ∀ b u, s.heap.get? b = some u → h'.get? b = some u) : Inv X pins σ H { s with heap := h', toks := t' } := I.un (Un.kept k) (I.hok.kept k)
theorem Inv.laid {a : Addr} {o : HO} {t' : Nat} (I : Inv X pins σ H s) (k : ∀ b u, s.heap.get? b = some u → h'.get? b = some u) (hp : s.heap.objs.size ≤ a) (new : ObjOk X.prog X.w (upd H a o) h' a o) :
    Inv X pins σ (upd H a o) { s with heap := h', toks := t' } := I.un (Un.laid k hp (I.hok.fresh hp)) (I.hok.laid k hp new)
theorem Inv.write {x e : Addr} {o : HO} {t' : Nat} (I : Inv X pins σ H s) (mu : Mut (H x)) (he : e = x ∨ H e = some (.own x)) (k : ∀ b u, b ≠ e → s.heap.get? b = some u → h'.get? b = some u) (heo : ∃ u, h'.get? e = some u)
    (new : ObjOk X.prog X.w (upd H x o) h' x o) : Inv X pins σ (upd H x o) { s with heap := h', toks := t' } := I.un (Un.write mu he k heo) (I.hok.write mu he k heo new)
theorem Inv.pins_of {pins' : List (Addr × Obj)} (I : Inv X pins σ H s) (h : ∀ p ∈ pins', s.heap.get? p.1 = some p.2 ∧ H p.1 = none ∧ p.1 ≠ X.env.locals ∧ p.1 ∉ X.fs ∧ ∀ v, p.2.data ≠ .cell v) : Inv X pins' σ H s :=
  ⟨I.ok, I.os, I.bare, I.base, I.loc, I.cell, I.free, I.freeC, fun p hp => (List.mem_append.mp hp).elim (fun z => I.pin p (List.mem_append_left _ z)) (h p), I.hok, I.len⟩
theorem nodup_ix {N : List Str} (hN : N.Nodup) {i j : Nat} {x : Str} (a : N[i]? = some x) (b : N[j]? = some x) : i = j := by
  obtain ⟨h1, e1⟩ := List.getElem?_eq_some_iff.mp a
  obtain ⟨h2, e2⟩ := List.getElem?_eq_some_iff.mp b
  exact (List.getElem_inj hN).mp (e1.trans e2.symm)
theorem store_ok2 {M : Model} {A : Around} {E : Value → Shared → Prop} {i : Nat} {x : Str} {v : V} {u : Value} {Q : Unit → Shared → Prop} (I : Inv X pins σ H s) (hN : X.N.Nodup) (hi : X.N[i]? = some x) (hx : Loc X.env.scope x) (r : RelV v u)
    (h : ∀ s', Inv X pins (σ.set i (some v)) H s' → (∃ a, Heap.SameBut a s.heap s'.heap ∧ (a = X.env.locals ∨ X.env.cells.lookup x = some a)) → Q () s') (hf : X.fn x = true ∨ X.env.scope.names.lookup x = some .local := by first | exact .inl rfl | exact .inr rfl | assumption) : wpAny M A (storeName X.env x u) Q E s := by
  obtain ⟨m, hn, hl⟩ := id I.loc
  have hcls : (X.env.scope.kind == .class || (X.env.scope.kind == .module && X.env.locals != X.env.globals)) = false := by rw [I.ok.kind]; rfl
  have hiσ : i < σ.length := by rw [I.len]; exact (List.getElem?_eq_some_iff.mp hi).1
  have cne := I.cne
  have tracked : ∀ {a : Addr} {h' : Heap}, (∃ o, s.heap.get? a = some o ∧ H a = none) → Heap.SameBut a s.heap h' → HOk X.prog X.w H h' := fun {a h'} ha hs b ob e => by
    obtain ⟨_, _, hfree⟩ := ha
    refine (I.hok b ob e).stay (fun c w' hc q => (hs.2 c ?_).trans q) (fun _ q => q) fun _ _ q => q
    rintro rfl
    rcases hc with rfl | hc
    · rw [hfree] at e; cases e
    · rw [hfree] at hc; cases hc
  rcases hx with hk | hk
  · refine wpAny_storeName_local hk hn (fun h' hn' hs => ?_) hcls
    obtain ⟨oL, _, _, hoL, _⟩ := id hn
    refine h _ ⟨I.ok, I.os, I.bare, ⟨fun b o e n hb hx => ?_, fun b o e n hb hx => ?_, I.base.free, fun b o e hx => ?_, I.base.tups, I.base.frzs, I.base.tbls⟩, ⟨_, hn', fun j y v' e1 e2 e3 => ?_⟩, fun y c e => ?_, I.free, I.freeC, fun p hp => ?_, tracked ⟨oL, hoL, I.free⟩ hs, by simpa using I.len⟩ ⟨_, hs, .inl rfl⟩
    · exact (hs.2 b (Nat.ne_of_lt (Nat.lt_of_lt_of_le (Heap.lt_size e) I.ok.above))).trans (I.base.keep b o e n hb hx)
    · obtain ⟨sl, e1⟩ := I.base.slot b o e n hb hx
      exact ⟨sl, (hs.2 b (Nat.ne_of_lt (Nat.lt_of_lt_of_le (Heap.lt_size e) I.ok.above))).trans e1⟩
    · obtain ⟨o', e1⟩ := I.base.there b o e hx
      exact ⟨o', (hs.2 b (Nat.ne_of_lt (Nat.lt_of_lt_of_le (Heap.lt_size e) I.ok.above))).trans e1⟩
    · by_cases hj : j = i
      · subst hj
        rw [hi] at e1; cases e1
        rw [List.getElem?_set_self hiσ] at e2
        cases e2
        exact ⟨u, r, .inl ⟨hk, by simp⟩⟩
      · rw [List.getElem?_set_ne (Ne.symm hj)] at e2
        obtain ⟨u', r', q⟩ := hl j y v' e1 e2 e3
        refine ⟨u', r', ?_⟩
        rcases q with ⟨k, e⟩ | ⟨k, c, e, z⟩
        · refine .inl ⟨k, ?_⟩
          have : y ≠ x := fun e => hj (nodup_ix hN e1 (e ▸ hi))
          simp [this, e]
        · exact .inr ⟨k, c, e, z.sameBut hs (cne y c e)⟩
    · obtain ⟨w', z⟩ := I.cell y c e
      exact ⟨w', z.sameBut hs (cne y c e)⟩
    · obtain ⟨e, n, ne, nf, d⟩ := I.pin p hp
      exact ⟨(hs.2 p.1 ne).trans e, n, ne, nf, d⟩
  · have hfn : X.fn x = true := by
      rcases hf with z | z
      · exact z
      · rw [z] at hk; cases hk
    obtain ⟨c, hc⟩ := I.ok.has x (.inl hk)
    obtain ⟨w', z⟩ := I.cell x c hc
    refine wpAny_storeName_cell I.ok.kind hk hc z (fun h' hc' hs => ?_)
    obtain ⟨oc, hoc, hocd⟩ := id z
    refine h { s with heap := h' } ⟨I.ok, I.os, I.bare, ⟨fun b o e n hb hx => ?_, fun b o e n hb hx => ?_, I.base.free, fun b o e hx => ?_, I.base.tups, I.base.frzs, I.base.tbls⟩, ⟨m, hn.sameBut hs (Ne.symm (cne x c hc)), fun j y v' e1 e2 e3 => ?_⟩, fun y c' e => ?_, I.free, I.freeC, fun p hp => ?_, tracked ⟨oc, hoc, I.freeC x c hc⟩ hs, by simpa using I.len⟩ ⟨c, hs, .inr hc⟩
    · exact (hs.2 b (Nat.ne_of_lt (Nat.lt_of_lt_of_le (Heap.lt_size e) (I.ok.cab x c hfn hc)))).trans (I.base.keep b o e n hb hx)
    · obtain ⟨sl, e1⟩ := I.base.slot b o e n hb hx
      exact ⟨sl, (hs.2 b (Nat.ne_of_lt (Nat.lt_of_lt_of_le (Heap.lt_size e) (I.ok.cab x c hfn hc)))).trans e1⟩
    · obtain ⟨o', e1⟩ := I.base.there b o e hx
      exact ⟨o', (hs.2 b (Nat.ne_of_lt (Nat.lt_of_lt_of_le (Heap.lt_size e) (I.ok.cab x c hfn hc)))).trans e1⟩
    · by_cases hj : j = i
      · subst hj
        rw [hi] at e1; cases e1
        rw [List.getElem?_set_self hiσ] at e2
        cases e2
        exact ⟨u, r, .inr ⟨.inl hk, c, hc, hc'⟩⟩
      · rw [List.getElem?_set_ne (Ne.symm hj)] at e2
        obtain ⟨u', r', q⟩ := hl j y v' e1 e2 e3
        refine ⟨u', r', ?_⟩
        rcases q with q | ⟨k, c', e, z'⟩
        · exact .inl q
        · refine .inr ⟨k, c', e, z'.sameBut hs ?_⟩
          rintro rfl
          exact hj (nodup_ix hN e1 (I.ok.inj _ _ _ e hc ▸ hi))
    · by_cases hcc : c' = c
      · subst hcc; exact ⟨_, hc'⟩
      · obtain ⟨w2, z2⟩ := I.cell y c' e
        exact ⟨w2, z2.sameBut hs hcc⟩
    · obtain ⟨e, n, ne, nf, d⟩ := I.pin p hp
      refine ⟨(hs.2 p.1 ?_).trans e, n, ne, nf, d⟩
      intro q
      rw [q, hoc] at e
      have q' : oc = p.2 := Option.some.inj e
      exact d w' (by rw [← q']; exact hocd)
theorem store_ok {M : Model} {A : Around} {E : Value → Shared → Prop} {i : Nat} {x : Str} {v : V} {u : Value} {Q : Unit → Shared → Prop} (I : Inv X pins σ H s) (hN : X.N.Nodup) (hi : X.N[i]? = some x) (hx : Loc X.env.scope x) (r : RelV v u)
    (h : ∀ s', Inv X pins (σ.set i (some v)) H s' → Q () s') (hf : X.fn x = true ∨ X.env.scope.names.lookup x = some .local := by first | exact .inl rfl | exact .inr rfl | assumption) : wpAny M A (storeName X.env x u) Q E s :=
  store_ok2 I hN hi hx r (fun s' I' _ => h s' I') hf
theorem Inv.call' {s' : Shared} {ch : List Addr} (I : Inv X pins σ H s) (ho : s'.os = s.os) (u : Un (frs X.stack) ch H H' s.heap s'.heap) (hok : HOk X.prog X.w H' s'.heap) (hg : AllBare s'.gens)
    (hch : ∀ b ∈ ch, (b ∈ X.ex ∨ X.s₀.heap.objs.size ≤ b) ∧ b ≠ X.env.locals ∧ (∀ x c, X.env.cells.lookup x = some c → c ≠ b) ∧ ∀ p ∈ X.pn ++ pins, p.1 ≠ b) : Inv X pins σ H' s' := by
  obtain ⟨h', g', d', t', o'⟩ := s'
  have e : o' = s.os := ho
  subst e
  exact I.call (g' := g') (t' := t') (d' := d') u hok hg hch
end
abbrev XK := Value → Option Addr → Hp → Prop
abbrev St := List (Option V)
abbrev VK := V → Hp → Prop
abbrev TE := St → Hp → VK → Prop
abbrev TT := St → Hp → (Bool → Hp → Prop) → Prop
abbrev TA := St → Hp → (List V → Hp → Prop) → Prop
structure Ends where
  nx : St → Hp → Prop
  rt : VK
  bk : St → Hp → Prop := fun _ _ => False
  ct : St → Hp → Prop := fun _ _ => False
abbrev TS := Ends → St → Hp → Prop
def EP (X : Cx) (pins : List (Addr × Obj)) (σ : St) (Q : VK) (u : Value) (s' : Shared) : Prop := ∃ v H', Inv X pins σ H' s' ∧ RelV v u ∧ Q v H'
def TP (X : Cx) (pins : List (Addr × Obj)) (σ : St) (Q : Bool → Hp → Prop) (b : Bool) (s' : Shared) : Prop := ∃ H', Inv X pins σ H' s' ∧ Q b H'
def AP (X : Cx) (pins : List (Addr × Obj)) (σ : St) (Q : List V → Hp → Prop) (us : List Value) (s' : Shared) : Prop := ∃ vs H', Inv X pins σ H' s' ∧ Vals vs us ∧ Q vs H'
def SP (X : Cx) (pins : List (Addr × Obj)) (D : Ends) (f : Flow) (s' : Shared) : Prop :=
  match f with
  | .next => ∃ σ' H', Inv X pins σ' H' s' ∧ D.nx σ' H'
  | .brk => ∃ σ' H', Inv X pins σ' H' s' ∧ D.bk σ' H'
  | .cont => ∃ σ' H', Inv X pins σ' H' s' ∧ D.ct σ' H'
  | .ret u => ∃ v σ' H', Inv X pins σ' H' s' ∧ RelV v u ∧ D.rt v H'
def PE (X : Cx) (e : Expr) (t : TE) : Prop :=
  ∀ (pins : List (Addr × Obj)) (s : Shared) (σ : St) (H : Hp) (Q : VK), Inv X pins σ H s → t σ H Q → wpAny (model X.prog X.w) X.A (eval e X.env) (EP X pins σ Q) X.xe s
def PT (X : Cx) (e : Expr) (t : TT) : Prop :=
  ∀ (pins : List (Addr × Obj)) (s : Shared) (σ : St) (H : Hp) (Q : Bool → Hp → Prop), Inv X pins σ H s → t σ H Q → wpAny (model X.prog X.w) X.A (isTrue e X.env (eval e X.env)) (TP X pins σ Q) X.xe s
def PW (X : Cx) (e : Expr) (t : TT) : Prop :=
  ∀ (whole : Sem Value) (pins : List (Addr × Obj)) (s : Shared) (σ : St) (H : Hp) (Q : Bool → Hp → Prop), Inv X pins σ H s → t σ H Q → wpAny (model X.prog X.w) X.A (isTrue e X.env whole) (TP X pins σ Q) X.xe s
theorem PW.pt {X : Cx} {e : Expr} {t : TT} (h : PW X e t) : PT X e t := h _
def PA (X : Cx) (es : List Expr) (t : TA) : Prop :=
  ∀ (pos : Pos) (pins : List (Addr × Obj)) (s : Shared) (σ : St) (H : Hp) (Q : List V → Hp → Prop), Inv X pins σ H s → t σ H Q → wpAny (model X.prog X.w) X.A (spliced (backTo pos (starEach es X.env))) (AP X pins σ Q) X.xe s
def PS (X : Cx) (st : Stmt) (t : TS) : Prop :=
  ∀ (pins : List (Addr × Obj)) (s : Shared) (σ : St) (H : Hp) (D : Ends), Inv X pins σ H s → t D σ H → wpAny (model X.prog X.w) X.A (exec st X.env) (SP X pins D) X.xe s
def PSs (X : Cx) (st : List Stmt) (t : TS) : Prop :=
  ∀ (pins : List (Addr × Obj)) (s : Shared) (σ : St) (H : Hp) (D : Ends), Inv X pins σ H s → t D σ H → wpAny (model X.prog X.w) X.A (execs st X.env) (SP X pins D) X.xe s
theorem thn {α : Type} {t : Sem α} {Q Q' : α → Shared → Prop} {M : Model} {A : Around} {E : Value → Shared → Prop} {s : Shared} (h : wpAny M A t Q E s) (hQ : ∀ a s, Q a s → Q' a s) : wpAny M A t Q' E s := wpAny_mono h hQ fun _ _ x => x
end L2
namespace L2
open PySem PySem.Spec PyProof.Rows
section
variable {X : Cx}
def tVar (i : Nat) : TE := fun σ H Q => ∃ v, σ[i]? = some (some v) ∧ Q v H
def tC (v : V) : TE := fun _ H Q => Q v H
theorem pe_var {i : Nat} {x : Str} {pos : Pos} (hN : X.N[i]? = some x) (hv : Vis X.env.scope x) (hd : (x == ("__debug__" : Str)) = false := by decide) (hcd : (x == ("__classdict__" : Str)) = false := by decide) : PE X (.Name x pos) (tVar i) := by
  intro pins s σ H Q I h
  obtain ⟨v, e, h⟩ := h
  obtain ⟨m, hn, hl⟩ := I.loc
  obtain ⟨u, r, l⟩ := hl i x v hN e hv
  have fin : EP X pins σ Q u s := ⟨v, H, I, r, h⟩
  rcases l with ⟨hk, hm⟩ | ⟨hk, c, hc, hcell⟩
  · exact wpAny_Name (wpAny_loadName_local I.ok.kind hk hn hm fin) hd
  · rcases hk with hk | hk
    · exact wpAny_Name (wpAny_loadName_cell I.ok.kind hk hc hcell fin) hd
    · exact wpAny_Name (wpAny_loadName_free I.ok.kind hk hc hcell fin hcd) hd
theorem pe_int {i j pos} : PE X (.Constant (.int i) j pos) (tC (.int i)) := fun _ _ _ H _ I h => wpAny_Constant_int ⟨.int i, H, I.tok _, ⟨_, rfl⟩, h⟩
theorem pe_bl {b j pos} : PE X (.Constant (.bool b) j pos) (tC (.bl b)) := fun _ _ _ H _ I h => Constant_bool ⟨.bl b, H, I, rfl, h⟩
theorem pe_non {j pos} : PE X (.Constant .none j pos) (tC .non) := fun _ _ _ H _ I h => Constant_none ⟨.non, H, I, rfl, h⟩
theorem pe_str {x j pos} : PE X (.Constant (.str x) j pos) (tC (.str x)) := fun _ _ _ H _ I h => Calls.Constant_str ⟨.str x, H, I.tok _, ⟨_, rfl⟩, h⟩
def Gl (X : Cx) (x : Str) : Prop := X.env.kindOf x = some .globalImplicit
theorem ld_glob {E : Value → Shared → Prop} {pins : List (Addr × Obj)} {s : Shared} {σ : St} {H : Hp} {x : Str} {u : Value} {pos : Pos} {Q : Value → Shared → Prop} (I : Inv X pins σ H s) (hg : Gl X x) (hm : X.mg x = some u) (h : Q u s)
    (hd : (x == ("__debug__" : Str)) = false := by decide) : wpAny (model X.prog X.w) X.A (eval (.Name x pos) X.env) Q E s :=
  Calls.Name_function_global I.ok.kind hg (Calls.loadGlobal_global (by rw [I.ok.glob]; exact I.mod.glob.keeps I.bk) hm h) hd
theorem ld_blt {E : Value → Shared → Prop} {pins : List (Addr × Obj)} {s : Shared} {σ : St} {H : Hp} {x : Str} {u : Value} {pos : Pos} {Q : Value → Shared → Prop} (I : Inv X pins σ H s) (hg : Gl X x) (hm : X.mg x = none) (hv : bootBuiltins x = some u) (h : Q u s)
    (hn : x ≠ "__name__" := by decide) (hd : (x == ("__debug__" : Str)) = false := by decide) : wpAny (model X.prog X.w) X.A (eval (.Name x pos) X.env) Q E s := by
  obtain ⟨mb, h1, h2⟩ := I.mod.blt
  exact Calls.Name_function_global I.ok.kind hg (Calls.loadGlobal_builtin (by rw [I.ok.glob]; exact I.mod.glob.keeps I.bk) hm (by rw [I.ok.blt]; exact h1.keeps I.bk) ((h2 x hn).trans hv) h) hd
theorem pe_glob {x : Str} {v : V} {u : Value} {pos : Pos} (hg : Gl X x) (hm : X.mg x = some u) (r : RelV v u) (hd : (x == ("__debug__" : Str)) = false := by decide) : PE X (.Name x pos) (tC v) :=
  fun _ _ _ H _ I h => ld_glob I hg hm ⟨v, H, I, r, h⟩ hd
theorem pe_bltn {x : Str} {v : V} {u : Value} {pos : Pos} (hg : Gl X x) (hm : X.mg x = none) (hv : bootBuiltins x = some u) (r : RelV v u) (hn : x ≠ "__name__" := by decide) (hd : (x == ("__debug__" : Str)) = false := by decide) : PE X (.Name x pos) (tC v) :=
  fun _ _ _ H _ I h => ld_blt I hg hm hv ⟨v, H, I, r, h⟩ hn hd
variable {a b : Expr} {ta tb : TE} {pos : Pos}
def PC (X : Cx) (op : CmpOp) (a b : Expr) (t : TE) : Prop :=
  ∀ (pins : List (Addr × Obj)) (s : Shared) (σ : St) (H : Hp) (Q : VK), Inv X pins σ H s → t σ H Q →
    wpAny (model X.prog X.w) X.A (eval a X.env) (fun v s₁ => wpAny (model X.prog X.w) X.A (eval b X.env) (fun u s₂ => wpAny (model X.prog X.w) X.A (compareOp op v u) (EP X pins σ Q) X.xe s₂) X.xe s₁) X.xe s
theorem nobehind (b : Expr) {op : CmpOp} (h : op ≠ .In) (h2 : op ≠ .NotIn) : behindInMarks op b = false := by
  have e1 : (op == CmpOp.In) = false := by cases op <;> first | rfl | exact absurd rfl h
  have e2 : (op == CmpOp.NotIn) = false := by cases op <;> first | rfl | exact absurd rfl h2
  cases b <;> simp [behindInMarks, e1, e2]
def tIsN (ta : TE) : TE := fun σ H Q => ta σ H fun x H1 => Q (.bl (decide (x = .non))) H1
def tNotN (ta : TE) : TE := fun σ H Q => ta σ H fun x H1 => Q (.bl (!decide (x = .non))) H1
theorem RelV.none_iff {x : V} {v : Value} (r : RelV x v) : (v == Value.none) = decide (x = .non) := by
  cases x with
  | non => cases r; rfl
  | bl _ => cases r; rfl
  | int _ => obtain ⟨t, rfl⟩ := r; rfl
  | str _ => obtain ⟨t, rfl⟩ := r; rfl
  | byt _ => obtain ⟨t, rfl⟩ := r; rfl
  | flt _ => obtain ⟨t, rfl⟩ := r; rfl
  | ref _ => cases r; rfl
  | ty _ => cases r; rfl
theorem pc_isN {j pos'} (ha : PE X a ta) : PC X .Is a (.Constant .none j pos') (tIsN ta) := by
  intro pins s σ H Q I h
  refine thn (ha pins s σ H _ I h) fun v s1 ⟨x, H1, I1, r1, q1⟩ => ?_
  exact Constant_none (is_none_gen ⟨.bl _, H1, I1, by rw [r1.none_iff]; rfl, q1⟩)
theorem pc_notN {j pos'} (ha : PE X a ta) : PC X .IsNot a (.Constant .none j pos') (tNotN ta) := by
  intro pins s σ H Q I h
  refine thn (ha pins s σ H _ I h) fun v s1 ⟨x, H1, I1, r1, q1⟩ => ?_
  exact Constant_none (isnot_none_gen ⟨.bl _, H1, I1, by rw [r1.none_iff]; rfl, q1⟩)
def tB (t : TE) : TT := fun σ H Q => t σ H fun x H1 => ∃ c, x = .bl c ∧ Q c H1
theorem pe_cmp {op : CmpOp} {t : TE} (h : PC X op a b t) (h1 : behindInMarks op b = false := by first | exact nobehind _ (by decide) (by decide) | rfl) : PE X (.Compare a [op] [b] pos) t := fun pins s σ H Q I hw => wpAny_Compare1 (h pins s σ H Q I hw) h1
theorem pt_cmp {op : CmpOp} {t : TE} (h : PC X op a b t) (h1 : behindInMarks op b = false := by first | exact nobehind _ (by decide) (by decide) | rfl) : PT X (.Compare a [op] [b] pos) (tB t) := by
  intro pins s σ H Q I hw
  refine wpAny_isTrue_Compare1 (thn (h pins s σ H _ I hw) fun v s1 h1 => thn h1 fun u s2 h2 => thn h2 fun c s3 ⟨x, H1, I1, r1, q1⟩ => ?_) h1
  obtain ⟨d, rfl, q⟩ := q1
  cases r1
  exact wpAny_truthy_bool ⟨H1, I1, q⟩
theorem pt_val {e : Expr} {t : TE} (h : PE X e t) (he : ∀ whole, isTrue e X.env whole = (do let v ← whole; standAt e.pos; holding [v] (truthy v)) := by intro _; rfl) : PT X e (tB t) := by
  intro pins s σ H Q I hw
  refine isTrue_plain (thn (h pins s σ H _ I hw) fun v s1 ⟨x, H1, I1, r1, q1⟩ => ?_) (he _)
  obtain ⟨d, rfl, q⟩ := q1
  cases r1
  exact wpAny_truthy_bool ⟨H1, I1, q⟩
variable {tA tB' : TT} {rest : List Expr}
def tAnd (t u : TT) : TT := fun σ H Q => t σ H fun c H1 => if c = true then u σ H1 Q else Q false H1
def tOr (t u : TT) : TT := fun σ H Q => t σ H fun c H1 => if c = true then Q true H1 else u σ H1 Q
def tNot (t : TT) : TT := fun σ H Q => t σ H fun c H1 => Q (!c) H1
theorem pw_and1 (ha : PT X a tA) : PW X (.BoolOp .And [a] pos) tA := by
  intro wh pins s σ H Q I h
  refine isTrue_and (thn (ha pins s σ H Q I h) fun c s1 e => ?_)
  cases c with
  | true => exact isTrue_and_nil e
  | false => exact e
theorem pw_or1 (ha : PT X a tA) : PW X (.BoolOp .Or [a] pos) tA := by
  intro wh pins s σ H Q I h
  refine isTrue_or (thn (ha pins s σ H Q I h) fun c s1 e => ?_)
  cases c with
  | false => exact isTrue_or_nil e
  | true => exact e
theorem pw_and (ha : PT X a tA) (hb : PW X (.BoolOp .And (b :: rest) pos) tB') : PW X (.BoolOp .And (a :: b :: rest) pos) (tAnd tA tB') := by
  intro wh pins s σ H Q I h
  refine isTrue_and (thn (ha pins s σ H _ I h) fun c s1 ⟨H1, I1, q1⟩ => ?_)
  cases c with
  | true => exact hb wh pins s1 σ H1 Q I1 q1
  | false => exact ⟨H1, I1, q1⟩
theorem pw_or (ha : PT X a tA) (hb : PW X (.BoolOp .Or (b :: rest) pos) tB') : PW X (.BoolOp .Or (a :: b :: rest) pos) (tOr tA tB') := by
  intro wh pins s σ H Q I h
  refine isTrue_or (thn (ha pins s σ H _ I h) fun c s1 ⟨H1, I1, q1⟩ => ?_)
  cases c with
  | true => exact ⟨H1, I1, q1⟩
  | false => exact hb wh pins s1 σ H1 Q I1 q1
theorem pt_not (ha : PT X a tA) : PT X (.UnaryOp .Not a pos) (tNot tA) := by
  intro pins s σ H Q I h
  exact isTrue_not (ha pins s σ H (fun c H1 => Q (!c) H1) I h)
def tAndV (ta tb : TE) : TE := fun σ H Q => ta σ H fun x H1 => ∃ c, x = .bl c ∧ if c = true then tb σ H1 Q else Q (.bl false) H1
def tNotV (ta : TE) : TE := fun σ H Q => ta σ H fun x H1 => ∃ c, x = .bl c ∧ Q (.bl (!c)) H1
theorem pe_one {op} {t : TE} (h : PE X a t) : PE X (.BoolOp op [a] pos) t := fun pins s σ H Q I hw => BoolOp_one (h pins s σ H Q I hw)
theorem pe_and (ha : PE X a ta) (hb : PE X (.BoolOp .And (b :: rest) pos) tb) : PE X (.BoolOp .And (a :: b :: rest) pos) (tAndV ta tb) := by
  intro pins s σ H Q I h
  refine BoolOp_and (thn (ha pins s σ H _ I h) fun v s1 ⟨x, H1, I1, r1, q1⟩ => ?_)
  obtain ⟨c, rfl, q1⟩ := q1
  cases r1
  refine wpAny_truthy_bool ?_
  cases c with
  | true => exact hb pins s1 σ H1 Q I1 q1
  | false => exact ⟨.bl false, H1, I1, rfl, q1⟩
theorem pe_not (ha : PE X a ta) : PE X (.UnaryOp .Not a pos) (tNotV ta) := by
  intro pins s σ H Q I h
  refine UnaryOp_ (thn (ha pins s σ H _ I h) fun v s1 ⟨x, H1, I1, r1, q1⟩ => ?_)
  obtain ⟨c, rfl, q1⟩ := q1
  cases r1
  exact not_of (wpAny_truthy_bool ⟨.bl (!c), H1, I1, rfl, q1⟩)
def tIf (t : TT) (ta tb : TE) : TE := fun σ H Q => t σ H fun c H1 => if c = true then ta σ H1 Q else tb σ H1 Q
theorem pe_ifExp {c : Expr} (hc : PT X c tA) (ha : PE X a ta) (hb : PE X b tb) : PE X (.IfExp c a b pos) (tIf tA ta tb) := by
  intro pins s σ H Q I h
  refine wpAny_IfExp (thn (hc pins s σ H _ I h) fun d s1 ⟨H1, I1, q1⟩ => ?_)
  cases d with
  | true => exact ha pins s1 σ H1 Q I1 q1
  | false => exact hb pins s1 σ H1 Q I1 q1
end
end L2
namespace L2
open PySem PySem.Spec PyProof.Rows
def SqL (K : PySem.W.Frag) (H : Hp) (a : Addr) (xs : List V) : Prop :=
  Rd H a (.lst xs) ∨
    ∃ (o : Obj) (its : Array Value) (n : Nat), K.lookup a = some o ∧ o.cls = .type "list" ∧ o.dict = none ∧ o.data = .seq its n ∧ its.size ≤ sizeLine ∧ Vals xs its.toList
def SqT (K : PySem.W.Frag) (H : Hp) (a : Addr) (xs : List V) : Prop :=
  Rd H a (.tup xs) ∨
    ∃ (o : Obj) (its : Array Value) (n : Nat), K.lookup a = some o ∧ o.cls = .type "tuple" ∧ o.data = .seq its n ∧ its.size ≤ sizeLine ∧ Vals xs its.toList
def absV : Value → Option V
  | .none => some .non
  | .bool b => some (.bl b)
  | .int i _ => some (.int i)
  | .str x _ => some (.str x)
  | .bytes b _ => some (.byt b)
  | .float b _ => some (.flt b)
  | .ref a => some (.ref a)
  | .type n => some (.ty n)
  | _ => none
theorem RelV.abs {x : V} {u : Value} (r : RelV x u) : absV u = some x := by
  cases x with
  | non => cases r; rfl
  | bl _ => cases r; rfl
  | int _ => obtain ⟨t, rfl⟩ := r; rfl
  | str _ => obtain ⟨t, rfl⟩ := r; rfl
  | byt _ => obtain ⟨t, rfl⟩ := r; rfl
  | flt _ => obtain ⟨t, rfl⟩ := r; rfl
  | ref _ => cases r; rfl
  | ty _ => cases r; rfl
theorem RelV.inj {x y : V} {u : Value} (r : RelV x u) (q : RelV y u) : x = y := Option.some.inj (r.abs.symm.trans q.abs)
theorem Vals.inj : ∀ {xs ys : List V} {us : List Value}, Vals xs us → Vals ys us → xs = ys
  | _, _, _, .nil, .nil => rfl
  | _, _, _, .cons r t, .cons r' t' => by rw [r.inj r', Vals.inj t t']
section
variable {X : Cx} {pins : List (Addr × Obj)} {σ : St} {H : Hp} {s : Shared} {a : Addr} {xs ys : List V}
theorem SqL.of {K : PySem.W.Frag} (h : H a = some (.lst xs)) : SqL K H a xs := .inl (.inl h)
theorem SqT.of {K : PySem.W.Frag} (h : H a = some (.tup xs)) : SqT K H a xs := .inl (.inl h)
theorem Inv.list (I : Inv X pins σ H s) (h : SqL X.K H a xs) : ∃ its : List Value, Vals xs its ∧ PlainL s.heap a its.toArray ∧ xs.length ≤ sizeLine := by
  rcases h with h | ⟨o, its, n, hk, hc, hd, hs, hz, r⟩
  · obtain ⟨z, its, n, r, e⟩ := h.ok I.hok
    exact ⟨its, r, ⟨_, n, e, rfl, rfl, rfl⟩, z⟩
  · refine ⟨its.toList, r, ⟨o, n, I.kIn a o hk, hc, hd, by simpa using hs⟩, ?_⟩
    have e := r.length
    simp only [Array.length_toList] at e
    omega
theorem Inv.tuple (I : Inv X pins σ H s) (h : SqT X.K H a xs) : ∃ its : List Value, Vals xs its ∧ IsTup s.heap a its.toArray ∧ xs.length ≤ sizeLine := by
  rcases h with h | ⟨o, its, n, hk, hc, hs, hz, r⟩
  · obtain ⟨z, its, r, p⟩ := h.ok I.hok
    exact ⟨its, r, p, z⟩
  · refine ⟨its.toList, r, ⟨o, I.kIn a o hk, hc, n, by simpa using hs⟩, ?_⟩
    have e := r.length
    simp only [Array.length_toList] at e
    omega
theorem Inv.list_inj (I : Inv X pins σ H s) (h : SqL X.K H a xs) (h' : SqL X.K H a ys) : xs = ys := by
  obtain ⟨its, r, ⟨o, n, e, _, _, d⟩, _⟩ := I.list h
  obtain ⟨its', r', ⟨o', n', e', _, _, d'⟩, _⟩ := I.list h'
  rw [e] at e'; cases e'
  rw [d] at d'
  injection d' with d1 _
  have : its = its' := by simpa using congrArg Array.toList d1
  subst this
  exact r.inj r'
theorem Inv.tuple_inj (I : Inv X pins σ H s) (h : SqT X.K H a xs) (h' : SqT X.K H a ys) : xs = ys := by
  obtain ⟨its, r, ⟨o, e, _, n, d⟩, _⟩ := I.tuple h
  obtain ⟨its', r', ⟨o', e', _, n', d'⟩, _⟩ := I.tuple h'
  rw [e] at e'; cases e'
  rw [d] at d'
  injection d' with d1 _
  have : its = its' := by simpa using congrArg Array.toList d1
  subst this
  exact r.inj r'
end
abbrev Cx.wish (X : Cx) (E : Value → Shared → Prop) : Cx := { X with xe := E }
abbrev Cx.nox (X : Cx) : Cx := X.wish fun _ _ => False
theorem Cx.Ok.wish {X : Cx} (ok : X.Ok) (E : Value → Shared → Prop) : (X.wish E).Ok :=
  ⟨ok.mod, ok.kind, ok.glob, ok.blt, ok.above, ok.inj, ok.has, ok.cab, ok.hd, ok.frames, ok.stk, ok.exf, ok.bs, ok.bsz, ok.noex, ok.exfs, ok.funs, ok.frf⟩
theorem Cx.Ok.unwish {X : Cx} {E : Value → Shared → Prop} (ok : (X.wish E).Ok) : X.Ok :=
  ⟨ok.mod, ok.kind, ok.glob, ok.blt, ok.above, ok.inj, ok.has, ok.cab, ok.hd, ok.frames, ok.stk, ok.exf, ok.bs, ok.bsz, ok.noex, ok.exfs, ok.funs, ok.frf⟩
section
variable {X : Cx} {pins : List (Addr × Obj)} {σ : St} {H : Hp} {s : Shared} {E : Value → Shared → Prop}
theorem Inv.wish (I : Inv X pins σ H s) (E : Value → Shared → Prop) : Inv (X.wish E) pins σ H s := ⟨I.ok.wish E, I.os, I.bare, I.base, I.loc, I.cell, I.free, I.freeC, I.pin, I.hok, I.len⟩
theorem Inv.unwish (I : Inv (X.wish E) pins σ H s) : Inv X pins σ H s := ⟨I.ok.unwish, I.os, I.bare, I.base, I.loc, I.cell, I.free, I.freeC, I.pin, I.hok, I.len⟩
theorem SP.unwish {D : Ends} {f : Flow} {s' : Shared} (h : SP (X.wish E) pins D f s') : SP X pins D f s' := by
  cases f with
  | next => obtain ⟨σ', H', I, q⟩ := h; exact ⟨σ', H', I.unwish, q⟩
  | brk => obtain ⟨σ', H', I, q⟩ := h; exact ⟨σ', H', I.unwish, q⟩
  | cont => obtain ⟨σ', H', I, q⟩ := h; exact ⟨σ', H', I.unwish, q⟩
  | ret u => obtain ⟨v, σ', H', I, r, q⟩ := h; exact ⟨v, σ', H', I.unwish, r, q⟩
theorem PSs.nox {st : List Stmt} {t : TS} (h : PSs X.nox st t) : PSs X st t := fun pins s σ H D I hw =>
  wpAny_mono (h pins s σ H D (I.wish _) hw) (fun _ _ q => q.unwish) fun _ _ z => False.elim z
end
section
variable {X : Cx} {st : Stmt} {rest : List Stmt} {t u : TS} {e : Expr} {te : TE} {pos : Pos}
def tNext : TS := fun D σ H => D.nx σ H
def tSeq (t u : TS) : TS := fun D σ H => t { D with nx := u D } σ H
theorem pss_nil : PSs X [] tNext := fun _ _ σ H _ I h => wpAny_execs_nil ⟨σ, H, I, h⟩
theorem pss_cons (h1 : PS X st t) (h2 : PSs X rest u) : PSs X (st :: rest) (tSeq t u) := by
  intro pins s σ H D I h
  refine wpAny_execs_cons (thn (h1 pins s σ H { D with nx := u D } I h) fun f s1 q => ?_)
  cases f with
  | next =>
    obtain ⟨σ', H', I', q⟩ := q
    exact h2 pins s1 σ' H' D I' q
  | ret v => exact q
  | brk => exact q
  | cont => exact q
theorem pss_one (h1 : PS X st t) : PSs X [st] t := by
  intro pins s σ H D I h
  refine wpAny_execs_cons (thn (h1 pins s σ H D I h) fun f s1 q => ?_)
  cases f with
  | next => exact wpAny_execs_nil q
  | ret v => exact q
  | brk => exact q
  | cont => exact q
theorem Inv.quiet {pins : List (Addr × Obj)} {σ : St} {H : Hp} {s : Shared} (I : Inv X pins σ H s) : interactive X.env = false := by simp [interactive, I.ok.kind]
def tDrop (te : TE) : TS := fun D σ H => te σ H fun _ H1 => D.nx σ H1
theorem ps_expr (he : PE X e te) (hs : swapsWith e none pos.line X.env = pure false := by rfl) : PS X (.Expr e pos) (tDrop te) := by
  intro pins s σ H D I h
  exact wpAny_Expr_any (thn (he pins s σ H _ I h) fun v s1 ⟨x, H1, I1, r1, q1⟩ => ⟨σ, H1, I1, q1⟩) I.quiet hs
def tRet (te : TE) : TS := fun D σ H => te σ H D.rt
theorem ps_ret (he : PE X e te) : PS X (.Return (some e) pos) (tRet te) := by
  intro pins s σ H D I h
  exact wpAny_Return_some (thn (he pins s σ H _ I h) fun v s1 ⟨x, H1, I1, r1, q1⟩ => ⟨x, σ, H1, I1, r1, q1⟩)
def tIfS (c : TT) (t u : TS) : TS := fun D σ H => c σ H fun b H1 => if b = true then t D σ H1 else u D σ H1
theorem ps_if {c : Expr} {a b : List Stmt} {tc : TT} (hc : PT X c tc) (ha : PSs X a t) (hb : PSs X b u) : PS X (.If c a b pos) (tIfS tc t u) := by
  intro pins s σ H D I h
  refine wpAny_If (thn (hc pins s σ H _ I h) fun d s1 ⟨H1, I1, q1⟩ => ?_)
  cases d with
  | true => exact ha pins s1 σ H1 D I1 q1
  | false => exact hb pins s1 σ H1 D I1 q1
def tNever : TS := fun _ _ _ => False
theorem ps_never : PS X st tNever := fun _ _ _ _ _ _ h => h.elim
end
abbrev TG := V → St → Hp → (St → Hp → Prop) → Prop
abbrev TGs := List V → St → Hp → (St → Hp → Prop) → Prop
def PG (X : Cx) (target : Expr) (t : TG) : Prop :=
  ∀ (pins : List (Addr × Obj)) (s : Shared) (σ : St) (H : Hp) (v : V) (u : Value) (Q : St → Hp → Prop), Inv X pins σ H s → RelV v u → t v σ H Q →
    wpAny (model X.prog X.w) X.A (assign target X.env u) (fun _ s' => ∃ σ' H', Inv X pins σ' H' s' ∧ Q σ' H') X.xe s
def PGs (X : Cx) (ts : List Expr) (t : TGs) : Prop :=
  ∀ (pins : List (Addr × Obj)) (s : Shared) (σ : St) (H : Hp) (vs : List V) (us : List Value) (Q : St → Hp → Prop), Inv X pins σ H s → Vals vs us → t vs σ H Q →
    wpAny (model X.prog X.w) X.A (assignInOrder ((assignEach ts X.env).map (·.2)) us) (fun _ s' => ∃ σ' H', Inv X pins σ' H' s' ∧ Q σ' H') X.xe s
abbrev TSet := V → V → V → Hp → (Hp → Prop) → Prop
def PSet (X : Cx) (t : TSet) : Prop :=
  ∀ (pins : List (Addr × Obj)) (s : Shared) (σ : St) (H : Hp) (o i v : V) (ov iv u : Value) (Q : Hp → Prop), Inv X pins σ H s → RelV o ov → RelV i iv → RelV v u → t o i v H Q →
    wpAny (model X.prog X.w) X.A (setItem ov iv u) (fun _ s' => ∃ H', Inv X pins σ H' s' ∧ Q H') X.xe s
section
variable {X : Cx} {pos : Pos}
def gName (i : Nat) : TG := fun v σ H Q => Q (σ.set i (some v)) H
theorem pg_name {i : Nat} {x : Str} (hN : X.N.Nodup) (hi : X.N[i]? = some x) (hx : Loc X.env.scope x) (hf : X.fn x = true ∨ X.env.scope.names.lookup x = some .local := by first | exact .inl rfl | exact .inr rfl | assumption) : PG X (.Name x pos) (gName i) := by
  intro pins s σ H v u Q I r h
  exact wpAny_assign_Name (store_ok I hN hi hx r (fun s' I' => ⟨_, H, I', h⟩) hf)
def gNil : TGs := fun vs σ H Q => vs = [] ∧ Q σ H
def gCons (t : TG) (u : TGs) : TGs := fun vs σ H Q => ∃ v r, vs = v :: r ∧ t v σ H fun σ' H' => u r σ' H' Q
theorem pgs_nil : PGs X [] gNil := by
  intro pins s σ H vs us Q I r h
  obtain ⟨e, h⟩ := h
  subst e
  cases r
  exact assignInOrder_nil ⟨σ, H, I, h⟩
theorem pgs_cons {e : Expr} {es : List Expr} {t : TG} {u : TGs} (h1 : PG X e t) (h2 : PGs X es u)
    (hs : (assignEach (e :: es) X.env).map (·.2) = assign e X.env :: (assignEach es X.env).map (·.2) := by rfl) : PGs X (e :: es) (gCons t u) := by
  intro pins s σ H vs us Q I r h
  obtain ⟨v, vr, e1, h⟩ := h
  subst e1
  cases r with
  | cons r rr =>
    rw [hs]
    refine assignInOrder_cons (thn (h1 pins s σ H _ _ _ I r h) fun _ s1 ⟨σ1, H1, I1, q1⟩ => ?_)
    exact h2 pins s1 σ1 H1 _ _ Q I1 rr q1
def gTup (K : PySem.W.Frag) (n : Nat) (t : TGs) : TG := fun v σ H Q => ∃ a xs, v = .ref a ∧ SqT K H a xs ∧ xs.length = n ∧ t xs σ H Q
theorem pg_tup {es : List Expr} {k : Nat} {t : TGs} {n : Nat} (hc : X.calm = true) (h : PGs X es t)
    (hn : (assignEach es X.env).length = n := by rfl) (hst : (assignEach es X.env).findIdx? (·.1) = none := by rfl) : PG X (.Tuple es k pos) (gTup X.K n t) := by
  intro pins s σ H v u Q I r hw
  obtain ⟨a, xs, e1, hq, hl, hw⟩ := hw
  subst e1
  cases r
  obtain ⟨its, rv, ht, hz⟩ := I.tuple hq
  refine assign_Tuple_tuple (I.ok.hd hc) ht (by simp [hn, ← hl, rv.length]) hst fun h' hx => ?_
  have I1 : Inv X pins σ H { s with heap := h' } := I.kept (t' := s.toks) fun b o e => hx b o (Nat.ne_of_lt (Heap.lt_size e)) e
  exact h pins _ σ H xs _ Q I1 (by simpa using rv) hw
def gSub (to ti : TE) (t : TSet) : TG := fun v σ H Q => to σ H fun o H1 => ti σ H1 fun i H2 => t o i v H2 fun H3 => Q σ H3
theorem pg_sub {o i : Expr} {to ti : TE} {t : TSet} (ho : PE X o to) (hi : PE X i ti) (hs : PSet X t)
    (ha : ∀ v, assign (.Subscript o i pos) X.env v = (do
      let ov ← holding [v] (eval o X.env)
      let iv ← holding [v, ov] (eval i X.env)
      standAt pos
      holding [v, ov, iv] (setItem ov iv v)
      release [v, ov, iv] []) := by intro _; rfl) : PG X (.Subscript o i pos) (gSub to ti t) := by
  intro pins s σ H v u Q I r h
  rw [ha]
  refine wpAny_bind (wpAny_holding (thn (ho pins s σ H _ I h) fun ov s1 ⟨x, H1, I1, r1, q1⟩ => ?_))
  refine wpAny_bind (wpAny_holding (thn (hi pins s1 σ H1 _ I1 q1) fun iv s2 ⟨y, H2, I2, r2, q2⟩ => ?_))
  refine wpAny_bind (wpAny_standAt (wpAny_bind (wpAny_holding (thn (hs pins s2 σ H2 x y v ov iv u _ I2 r1 r2 r q2) fun _ s3 ⟨H3, I3, q3⟩ => ?_))))
  exact wpAny_release ⟨σ, H3, I3, q3⟩
def tAsg (te : TE) (g : TG) : TS := fun D σ H => te σ H fun x H1 => g x σ H1 D.nx
theorem ps_asg {tg e : Expr} {te : TE} {g : TG} (he : PE X e te) (hg : PG X tg g) (hs : swapsWithSole [tg] e pos.line X.env = pure false := by rfl) (hw : swappedStores [tg] e X.env = pure none := by rfl)
    (h1 : (assignEach [tg] X.env).map (·.2) = [assign tg X.env] := by rfl) : PS X (.Assign [tg] e pos) (tAsg te g) := by
  intro pins s σ H D I h
  refine wpAny_Assign_stores (thn (he pins s σ H _ I h) fun v s1 ⟨x, H1, I1, r1, q1⟩ => ?_) hs hw
  rw [h1]
  exact thn (hg pins s1 σ H1 x v _ I1 r1 q1) fun _ s2 q => q
theorem ps_set {i : Nat} {x : Str} {e : Expr} {te : TE} {pos' : Pos} (hN : X.N.Nodup) (hi : X.N[i]? = some x) (hx : Loc X.env.scope x) (he : PE X e te) (hs : swapsWith e (some (.Name x pos')) pos.line X.env = pure false := by rfl) (hf : X.fn x = true ∨ X.env.scope.names.lookup x = some .local := by first | exact .inl rfl | exact .inr rfl | assumption) :
    PS X (.Assign [.Name x pos'] e pos) (tAsg te (gName i)) := by
  intro pins s σ H D I h
  refine wpAny_Assign_Name (thn (he pins s σ H _ I h) fun v s1 ⟨y, H1, I1, r1, q1⟩ => ?_) hs
  exact store_ok I1 hN hi hx r1 (fun s2 I2 => ⟨_, H1, I2, q1⟩) hf
end
section
variable {X : Cx} {pos : Pos}
def tWhile (c : TT) (tb : TS) : TS := fun D σ H => ∃ W : Nat → St → Hp → Prop, (∃ m, W m σ H) ∧ ∀ m σ H, W m σ H →
  c σ H fun b H1 => if b = true then ∃ N : St → Hp → Prop, (∀ σ' H', N σ' H' → ∃ m', m' < m ∧ W m' σ' H') ∧ tb { D with nx := N, ct := N, bk := D.nx } σ H1 else D.nx σ H1
theorem ps_while {c : Expr} {body : List Stmt} {tc : TT} {tb : TS} (hp : PassesOwn (model X.prog X.w) X.A X.env X.xe) (hc : PT X c tc) (hb : PSs X body tb) : PS X (.While c body [] pos) (tWhile tc tb) := by
  intro pins s σ H D I h
  obtain ⟨W, ⟨m0, w0⟩, turn⟩ := h
  refine wpAny_While (codeAny_whileLoop (fun n s' => ∃ σ' H', Inv X pins σ' H' s' ∧ W n σ' H') ?_ m0 ⟨σ, H, I, w0⟩)
  rintro n s1 ⟨σ1, H1, I1, w1⟩
  refine wpAny_passesOwn hp (thn (hc pins s1 σ1 H1 _ I1 (turn n σ1 H1 w1)) fun b s2 ⟨H2, I2, q2⟩ => ?_)
  cases b with
  | true =>
    obtain ⟨N, hN, q2⟩ := q2
    rw [if_pos rfl]
    refine wpAny_passesOwn hp (thn (hb pins s2 σ1 H2 _ I2 q2) fun f s3 q3 => ?_)
    cases f with
    | next =>
      obtain ⟨σ3, H3, I3, n3⟩ := q3
      obtain ⟨m', hm, w3⟩ := hN σ3 H3 n3
      exact ⟨m', hm, σ3, H3, I3, w3⟩
    | cont =>
      obtain ⟨σ3, H3, I3, n3⟩ := q3
      obtain ⟨m', hm, w3⟩ := hN σ3 H3 n3
      exact ⟨m', hm, σ3, H3, I3, w3⟩
    | brk => exact q3
    | ret v => exact q3
  | false =>
    rw [if_neg Bool.false_ne_true]
    exact wpAny_execs_nil ⟨σ1, H2, I2, q2⟩
end
structure It where
  go : Nat → Hp → Prop
  yld : Nat → Hp → V → Hp → Prop
  stop : Nat → Hp → Prop
def FpOk (X : Cx) (pins : List (Addr × Obj)) (H : Hp) (b : Addr) : Prop :=
  H b = none ∧ b ≠ X.env.locals ∧ b ∉ X.fs ∧ (b ∈ X.ex ∨ X.s₀.heap.objs.size ≤ b) ∧ (∀ x c, X.env.cells.lookup x = some c → c ≠ b) ∧ ∀ p ∈ X.pn ++ pins, p.1 ≠ b
theorem Inv.fpOk {X : Cx} {pins : List (Addr × Obj)} {σ : St} {H H' : Hp} {s : Shared} {b : Addr} (I : Inv X pins σ H s) (hb : s.heap.objs.size ≤ b) (hn : H' b = none) : FpOk X pins H' b := by
  refine ⟨hn, Nat.ne_of_gt (Nat.lt_of_lt_of_le I.lt hb), I.nofs hb, .inr (Nat.le_trans I.sz hb), fun x c e z => ?_, fun p hp z => ?_⟩
  · obtain ⟨v, q⟩ := I.cell x c e
    exact absurd (Nat.lt_of_lt_of_le q.lt (by rw [z]; exact hb)) (Nat.lt_irrefl _)
  · exact absurd (Nat.lt_of_lt_of_le (Heap.lt_size (I.pin p hp).1) (by rw [z]; exact hb)) (Nat.lt_irrefl _)
structure Turn (P : Program) (w : World) (K : PySem.W.Frag) (tg : Expr) (J : It) (fp : List Addr) (it : Addr) (tn : Nat → Heap → Prop) : Prop where
  mem : it ∈ fp
  obj : ∀ i h, tn i h → ∀ b ∈ fp, ∃ o, h.get? b = some o ∧ ∀ v, o.data ≠ .cell v
  keep : ∀ i h h', tn i h → (∀ b ∈ fp, ∀ o, h.get? b = some o → h'.get? b = some o) → tn i h'
  item : ∀ (X : Cx), X.prog = P → X.w = w → X.K = K → X.calm = true → ∀ (i : Nat) (pins : List (Addr × Obj)) (s : Shared) (σ : St) (H : Hp) (E : Value → Shared → Prop), Inv X pins σ H s → (∀ b ∈ fp, FpOk X pins H b) → tn i s.heap → J.go i H →
    wpAny (model P w) X.A (pyNext (.ref it)) (fun r s1 => ∃ u, r = some u ∧
      wpAny (model P w) X.A (letOwnedTupleGo tg (.ref it) u) (fun _ s2 => ∃ x H', Inv X pins σ H' s2 ∧ RelV x u ∧ J.yld i H x H' ∧ tn (i + 1) s2.heap ∧ ∀ b ∈ fp, H' b = none) E s1) E s
  done : ∀ (X : Cx), X.prog = P → X.w = w → X.K = K → X.calm = true → ∀ (i : Nat) (pins : List (Addr × Obj)) (s : Shared) (σ : St) (H : Hp) (E : Value → Shared → Prop), Inv X pins σ H s → (∀ b ∈ fp, FpOk X pins H b) → tn i s.heap → J.stop i H →
    wpAny (model P w) X.A (pyNext (.ref it)) (fun r s1 => r = none ∧ Inv X pins σ H s1) E s
  self : ∀ (A : Around) (i : Nat) (s : Shared) (Q : Value → Shared → Prop) (E : Value → Shared → Prop), tn i s.heap → Q (.ref it) s → wpAny (model P w) A (pyIter (.ref it)) Q E s
abbrev TI := St → Hp → (It → Hp → Prop) → Prop
def PIE (X : Cx) (pins : List (Addr × Obj)) (σ : St) (tg : Expr) (R : It → Hp → Prop) (itv : Value) (s2 : Shared) : Prop :=
  ∃ (it : Addr) (fp : List Addr) (tn : Nat → Heap → Prop) (J : It) (H' : Hp), itv = .ref it ∧ Inv X pins σ H' s2 ∧ Turn X.prog X.w X.K tg J fp it tn ∧ tn 0 s2.heap ∧ (∀ b ∈ fp, FpOk X pins H' b) ∧ R J H'
def PI (X : Cx) (tg iter : Expr) (wi : TI) : Prop :=
  ∀ (pins : List (Addr × Obj)) (s : Shared) (σ : St) (H : Hp) (R : It → Hp → Prop), Inv X pins σ H s → wi σ H R →
    wpAny (model X.prog X.w) X.A (eval iter X.env) (fun v s1 => wpAny (model X.prog X.w) X.A (pyIter v) (PIE X pins σ tg R) X.xe s1) X.xe s
theorem go_of {M : Model} {A : Around} {E : Value → Shared → Prop} {s : Shared} {tg : Expr} {it : Addr} {u : Value} {o : Obj} {n : String} {vs : Array Value} {Q : Unit → Shared → Prop} (ho : s.heap.get? it = some o) (hc : o.cls = .type n) (hd : o.data = .fields vs)
    (hn : ["enumerate", "zip", "dict_itemiterator", "dict_reverseitemiterator", "odict_iterator", "itertools.zip_longest", "itertools.pairwise"].contains n = false) (hQ : Q () s) : wpAny M A (letOwnedTupleGo tg (.ref it) u) Q E s := by
  unfold letOwnedTupleGo
  cases tg <;> first
    | exact wpAny_pure hQ
    | (cases u <;> first
        | exact wpAny_pure hQ
        | (refine wpAny_bind (wpAny_load ho ?_)
           rw [hc, hd]
           show wpAny M A (if (["enumerate", "zip", "dict_itemiterator", "dict_reverseitemiterator", "odict_iterator", "itertools.zip_longest", "itertools.pairwise"].contains n && vs[0]? == some (rawInt _)) = true then _ else _) Q E s
           rw [if_neg (by intro h; rw [hn, Bool.false_and] at h; cases h)]
           exact wpAny_pure hQ))
def Itl (K : PySem.W.Frag) (a : Addr) : It :=
  ⟨fun i H => ∃ xs x, SqL K H a xs ∧ xs[i]? = some x, fun i H x H' => H' = H ∧ ∀ xs, SqL K H a xs → xs[i]? = some x, fun i H => ∃ xs, SqL K H a xs ∧ xs.length ≤ i⟩
def Itt (K : PySem.W.Frag) (a : Addr) : It :=
  ⟨fun i H => ∃ xs x, SqT K H a xs ∧ xs[i]? = some x, fun i H x H' => H' = H ∧ ∀ xs, SqT K H a xs → xs[i]? = some x, fun i H => ∃ xs, SqT K H a xs ∧ xs.length ≤ i⟩
def Itr (lo : Int) (n : Nat) : It := ⟨fun i _ => i < n, fun i H x H' => H' = H ∧ x = .int (lo + i), fun i _ => n ≤ i⟩
theorem turn_list {P : Program} {w : World} {K : PySem.W.Frag} {tg : Expr} (a it : Addr) : Turn P w K tg (Itl K a) [it] it (fun i h => h.IsListIter it a i) where
  mem := by simp
  obj := fun i h st b hb => by
    have e : b = it := by simpa using hb
    subst e
    obtain ⟨o, e, c, d⟩ := st
    exact ⟨o, e, fun v z => by rw [d] at z; cases z⟩
  keep := fun i h h' st k => st.at fun o e => k it (by simp) o e
  item := by
    intro X hP hw hK hc i pins s σ H E I hf st hg
    subst hP hw hK
    obtain ⟨xs, x, hq, hx⟩ := hg
    obtain ⟨its, rv, p, hz⟩ := I.list hq
    obtain ⟨u, hu, ru⟩ := rv.get hx
    obtain ⟨f0, f1, f2, f3, f4, f5⟩ := hf it (by simp)
    refine wpAny_pyNext_list_item st p.isList (x := u) (by simpa using hu) fun h' st' sb => ?_
    have I1 : Inv X pins σ H { s with heap := h' } := I.turned (t' := s.toks) (fun b o hb e => (sb.2 b hb).trans e) f0 f1 f3 f4 f5
    obtain ⟨o, e, c, d⟩ := id st'
    exact ⟨u, rfl, go_of (s := { s with heap := h' }) e c d (by decide) ⟨x, H, I1, ru, ⟨rfl, fun ys hy => by rw [I.list_inj hy hq]; exact hx⟩, st', fun b hb => (hf b hb).1⟩⟩
  done := by
    intro X hP hw hK hc i pins s σ H E I hf st hg
    subst hP hw hK
    obtain ⟨xs, hq, hx⟩ := hg
    obtain ⟨its, rv, p, hz⟩ := I.list hq
    obtain ⟨f0, f1, f2, f3, f4, f5⟩ := hf it (by simp)
    have hl := rv.length
    exact wpAny_pyNext_list_end (I.ok.hd hc) st p.isList (by simp; omega) fun h' eb => ⟨rfl, I.turned (t' := s.toks) (fun b o hb e => eb b o hb e) f0 f1 f3 f4 f5⟩
  self := fun _ _ _ _ _ st h => wpAny_pyIter_listiter st h
theorem turn_tuple {P : Program} {w : World} {K : PySem.W.Frag} {tg : Expr} (a it : Addr) : Turn P w K tg (Itt K a) [it] it (fun i h => h.IsTupleIter it a i) where
  mem := by simp
  obj := fun i h st b hb => by
    have e : b = it := by simpa using hb
    subst e
    obtain ⟨o, e, c, d⟩ := st
    exact ⟨o, e, fun v z => by rw [d] at z; cases z⟩
  keep := fun i h h' st k => st.at fun o e => k it (by simp) o e
  item := by
    intro X hP hw hK hc i pins s σ H E I hf st hg
    subst hP hw hK
    obtain ⟨xs, x, hq, hx⟩ := hg
    obtain ⟨its, rv, p, hz⟩ := I.tuple hq
    obtain ⟨u, hu, ru⟩ := rv.get hx
    obtain ⟨f0, f1, f2, f3, f4, f5⟩ := hf it (by simp)
    refine wpAny_pyNext_tuple_item st (show s.heap.IsTuple a its.toArray from p) (x := u) (by simpa using hu) fun h' st' sb => ?_
    have I1 : Inv X pins σ H { s with heap := h' } := I.turned (t' := s.toks) (fun b o hb e => (sb.2 b hb).trans e) f0 f1 f3 f4 f5
    obtain ⟨o, e, c, d⟩ := id st'
    exact ⟨u, rfl, go_of (s := { s with heap := h' }) e c d (by decide) ⟨x, H, I1, ru, ⟨rfl, fun ys hy => by rw [I.tuple_inj hy hq]; exact hx⟩, st', fun b hb => (hf b hb).1⟩⟩
  done := by
    intro X hP hw hK hc i pins s σ H E I hf st hg
    subst hP hw hK
    obtain ⟨xs, hq, hx⟩ := hg
    obtain ⟨its, rv, p, hz⟩ := I.tuple hq
    obtain ⟨f0, f1, f2, f3, f4, f5⟩ := hf it (by simp)
    have hl := rv.length
    exact wpAny_pyNext_tuple_end (I.ok.hd hc) st (show s.heap.IsTuple a its.toArray from p) (by simp; omega) fun h' eb => ⟨rfl, I.turned (t' := s.toks) (fun b o hb e => eb b o hb e) f0 f1 f3 f4 f5⟩
  self := fun _ _ _ _ _ st h => wpAny_pyIter_tupleiter st h
theorem turn_range {P : Program} {w : World} {K : PySem.W.Frag} {tg : Expr} (it : Addr) (lo : Int) (n : Nat) : Turn P w K tg (Itr lo n) [it] it (fun i h => IsRangeIter h it (lo + (i : Nat) * 1) ((n : Int) - (i : Nat)) 1) where
  mem := by simp
  obj := fun i h st b hb => by
    have e : b = it := by simpa using hb
    subst e
    exact ⟨_, st, fun v z => by
      have z' : Data.fields _ = Data.cell v := z
      cases z'⟩
  keep := fun i h h' st k => k it (by simp) _ st
  item := by
    intro X hP hw hK hc i pins s σ H E I hf st hg
    subst hP hw hK
    obtain ⟨f0, f1, f2, f3, f4, f5⟩ := hf it (by simp)
    have W := Walks.range (prog := X.prog) (w := X.w) (I.ok.hd hc) it lo 1 n
    refine W.item i s _ _ hg st fun v h' tk hv st' kk => ?_
    obtain ⟨t, rfl⟩ := hv
    have I1 : Inv X pins σ H { s with heap := h', toks := tk } := I.turned (fun b o hb e => kk b o (by simpa using hb) e) f0 f1 f3 f4 f5
    refine ⟨_, rfl, go_of (s := { s with heap := h', toks := tk }) (n := "range_iterator") st' rfl rfl (by decide) ⟨.int (lo + i), H, I1, ⟨t, ?_⟩, ⟨rfl, rfl⟩, st', fun b hb => (hf b hb).1⟩⟩
    rw [Int.mul_one]
  done := by
    intro X hP hw hK hc i pins s σ H E I hf st hg
    subst hP hw hK
    obtain ⟨f0, f1, f2, f3, f4, f5⟩ := hf it (by simp)
    exact wpAny_pyNext_range_end (I.ok.hd hc) st (by have : n ≤ i := hg; omega) fun h' eb => ⟨rfl, I.turned (t' := s.toks) (fun b o hb e => eb b o hb e) f0 f1 f3 f4 f5⟩
  self := fun _ _ _ _ _ st h => wpAny_pyIter_rangeiter st h
end L2
namespace L2
open PySem PySem.Spec PyProof.Rows
section
variable {X : Cx} {tg : Expr}
def iList (K : PySem.W.Frag) (tl : TE) : TI := fun σ H R => tl σ H fun x H1 => ∃ a, x = .ref a ∧ (∃ xs, SqL K H1 a xs) ∧ R (Itl K a) H1
def iTup (K : PySem.W.Frag) (tl : TE) : TI := fun σ H R => tl σ H fun x H1 => ∃ a, x = .ref a ∧ (∃ xs, SqT K H1 a xs) ∧ R (Itt K a) H1
theorem pi_list {l : Expr} {tl : TE} (hl : PE X l tl) : PI X tg l (iList X.K tl) := by
  intro pins s σ H R I h
  refine thn (hl pins s σ H _ I h) fun v s1 ⟨x, H1, I1, r1, q1⟩ => ?_
  obtain ⟨a, e, ⟨xs, hq⟩, q⟩ := q1
  subst e
  cases r1
  obtain ⟨its, rv, p, hz⟩ := I1.list hq
  refine wpAny_pyIter_list p.isList ?_
  refine ⟨s1.heap.objs.size, [s1.heap.objs.size], _, _, H1, rfl, I1.kept (t' := s1.toks) fun b o e => Heap.get?_push_of_some _ e, turn_list a _, ⟨_, Heap.get?_push_size _ rfl, rfl, rfl⟩, fun b hb => ?_, q⟩
  have e : b = s1.heap.objs.size := by simpa using hb
  subst e
  exact I1.fpOk (Nat.le_refl _) (I1.hok.fresh (Nat.le_refl _))
theorem pi_tup {l : Expr} {tl : TE} (hl : PE X l tl) : PI X tg l (iTup X.K tl) := by
  intro pins s σ H R I h
  refine thn (hl pins s σ H _ I h) fun v s1 ⟨x, H1, I1, r1, q1⟩ => ?_
  obtain ⟨a, e, ⟨xs, hq⟩, q⟩ := q1
  subst e
  cases r1
  obtain ⟨its, rv, p, hz⟩ := I1.tuple hq
  refine wpAny_pyIter_tuple (show s1.heap.IsTuple a its.toArray from p) ?_
  refine ⟨s1.heap.objs.size, [s1.heap.objs.size], _, _, H1, rfl, I1.kept (t' := s1.toks) fun b o e => Heap.get?_push_of_some _ e, turn_tuple a _, ⟨_, Heap.get?_push_size _ rfl, rfl, rfl⟩, fun b hb => ?_, q⟩
  have e : b = s1.heap.objs.size := by simpa using hb
  subst e
  exact I1.fpOk (Nat.le_refl _) (I1.hok.fresh (Nat.le_refl _))
theorem range_it {pins : List (Addr × Obj)} {σ : St} {H : Hp} {s : Shared} {R : It → Hp → Prop} {E : Value → Shared → Prop} {lo hi : Int} {t u v : Tok} {tk : Nat} (I : Inv X pins σ H s) (h1 : -(2 ^ 62) ≤ lo) (h2 : lo < 2 ^ 62) (h3 : -(2 ^ 62) ≤ hi) (h4 : hi < 2 ^ 62)
    (q : R (Itr lo (hi - lo).toNat) H) : wpAny (model X.prog X.w) X.A (pyIter (.ref s.heap.objs.size)) (PIE X pins σ tg R) E { s with heap := s.heap.push { cls := .type "range", data := .fields #[.int lo t, .int hi u, .int 1 v] }, toks := tk } := by
  refine wpAny_pyIter_range (IsRange.new ..) (small_one h1 h2 h3 h4) ?_
  have I1 : Inv X pins σ H { s with heap := s.heap.push { cls := .type "range", data := .fields #[.int lo t, .int hi u, .int 1 v] }, toks := tk } := I.kept fun b o e => Heap.get?_push_of_some _ e
  refine ⟨(s.heap.push { cls := .type "range", data := .fields #[.int lo t, .int hi u, .int 1 v] }).objs.size, [(s.heap.push { cls := .type "range", data := .fields #[.int lo t, .int hi u, .int 1 v] }).objs.size], _, _, H, rfl,
    I1.kept (t' := tk) fun b o e => Heap.get?_push_of_some _ e, turn_range _ lo (hi - lo).toNat, ?_, fun b hb => ?_, q⟩
  · have e1 : lo + ((0 : Nat) : Int) * 1 = lo := by simp
    have e2 : (((hi - lo).toNat : Nat) : Int) - ((0 : Nat) : Int) = Builtin.Range.rangeSize lo hi 1 := by rw [rangeSize_one]; split <;> omega
    show IsRangeIter _ _ (lo + ((0 : Nat) : Int) * 1) ((((hi - lo).toNat : Nat) : Int) - ((0 : Nat) : Int)) 1
    rw [e1, e2]
    exact Heap.get?_push_size _ rfl
  · have e : b = (s.heap.push { cls := .type "range", data := .fields #[.int lo t, .int hi u, .int 1 v] }).objs.size := by simpa using hb
    subst e
    exact I1.fpOk (Nat.le_refl _) (I1.hok.fresh (Nat.le_refl _))
def iRng1 (ta : TA) : TI := fun σ H R => ta σ H fun vs H1 => ∃ j : Int, vs = [.int j] ∧ -(2 ^ 62) ≤ j ∧ j < 2 ^ 62 ∧ R (Itr 0 j.toNat) H1
theorem pi_range1 {a : Expr} {ta : TA} {p pos : Pos} (hg : Gl X "range") (hm : X.mg "range" = none) (ha : PA X [a] ta) (hs : starEach [a] X.env = [(false, eval a X.env)] := by rfl) : PI X tg (.Call (.Name "range" p) [a] [] pos) (iRng1 ta) := by
  intro pins s σ H R I h
  refine Call_ (ld_blt I hg hm boot_range (PyProof.Rows.callWith_type1 (thn (ha pos pins s σ H _ I h) fun us s1 ⟨vs, H1, I1, r1, q1⟩ => ?_) hs rfl))
  obtain ⟨j, e, q1, q2, q⟩ := q1
  subst e
  cases r1 with
  | cons r rr =>
    cases rr
    obtain ⟨t, rfl⟩ := r
    exact call_range_1 (range_it I1 (by omega) (by omega) q1 q2 (by simpa using q))
def tFor (wi : TI) (g : TG) (tb : TS) : TS := fun D σ H => wi σ H fun J H1 => ∃ W : Nat → Nat → St → Hp → Prop, (∃ m, W 0 m σ H1) ∧ ∀ i m σ H, W i m σ H →
  (J.stop i H ∧ D.nx σ H) ∨ (J.go i H ∧ ∃ N : St → Hp → Prop, (∀ σ' H', N σ' H' → ∃ m', m' < m ∧ W (i + 1) m' σ' H') ∧ ∀ x H', J.yld i H x H' → g x σ H' fun σ2 H2 => tb { D with nx := N, ct := N, bk := D.nx } σ2 H2)
def pinsAt (fp : List Addr) (h : Heap) : List (Addr × Obj) := fp.filterMap fun b => (h.get? b).map fun o => (b, o)
theorem mem_pinsAt {fp : List Addr} {h : Heap} {b : Addr} {o : Obj} (hb : b ∈ fp) (e : h.get? b = some o) : (b, o) ∈ pinsAt fp h := List.mem_filterMap.mpr ⟨b, hb, by rw [e]; rfl⟩
theorem of_pinsAt {fp : List Addr} {h : Heap} {p : Addr × Obj} (hp : p ∈ pinsAt fp h) : p.1 ∈ fp ∧ h.get? p.1 = some p.2 := by
  obtain ⟨b, hb, e⟩ := List.mem_filterMap.mp hp
  cases q : h.get? b with
  | none => rw [q] at e; cases e
  | some o =>
    rw [q] at e
    have e' : (b, o) = p := Option.some.inj e
    subst e'
    exact ⟨hb, q⟩
theorem Inv.pinned {pins : List (Addr × Obj)} {σ : St} {H : Hp} {s : Shared} {fp : List Addr} (I : Inv X pins σ H s) (hf : ∀ b ∈ fp, FpOk X pins H b) (ho : ∀ b ∈ fp, ∃ o, s.heap.get? b = some o ∧ ∀ v, o.data ≠ .cell v) : Inv X (pins ++ pinsAt fp s.heap) σ H s :=
  I.pins_of fun p hp => (List.mem_append.mp hp).elim (fun z => I.pin p (List.mem_append_right _ z)) fun z => by
    obtain ⟨hb, e⟩ := of_pinsAt z
    obtain ⟨f0, f1, f2, _⟩ := hf p.1 hb
    obtain ⟨o, e', d⟩ := ho p.1 hb
    rw [e] at e'; cases e'
    exact ⟨e, f0, f1, f2, d⟩
theorem Inv.unpinned {pins pl : List (Addr × Obj)} {σ : St} {H : Hp} {s : Shared} (I : Inv X (pins ++ pl) σ H s) : Inv X pins σ H s := I.pins_of fun p hp => I.pin p (List.mem_append_right _ (List.mem_append_left _ hp))
theorem ps_for {iter : Expr} {body : List Stmt} {wi : TI} {g : TG} {tb : TS} {pos : Pos} (hp : PassesOwn (model X.prog X.w) X.A X.env X.xe) (hc : X.calm = true) (hi : PI X tg iter wi) (hg : PG X tg g) (hb : PSs X body tb)
    (hs : ∀ x, foldedSetIterable iter X.env x = pure x := by intro _; rfl) : PS X (.For tg iter body [] pos) (tFor wi g tb) := by
  intro pins s σ H D I h
  refine wpAny_For (thn (hi pins s σ H _ I h) fun v s1 h1 => thn h1 fun itv s2 h2 => ?_) hs
  obtain ⟨it, fp, tn, J, H2, e, I2, T, st2, f2, W, ⟨m0, w0⟩, turn⟩ := h2
  subst e
  -- what stays true of the iterator's objects through the loop
  have stat : ∀ {H' : Hp}, (∀ b ∈ fp, H' b = none) → ∀ b ∈ fp, FpOk X pins H' b := fun hn b hb => ⟨hn b hb, (f2 b hb).2⟩
  refine codeAny_forLoop_any (fun n s' => ∃ i σ' H', Inv X pins σ' H' s' ∧ tn i s'.heap ∧ (∀ b ∈ fp, H' b = none) ∧ W i n σ' H') ?_ m0 ⟨0, σ, H2, I2, st2, fun b hb => (f2 b hb).1, w0⟩
  rintro n s3 ⟨i, σ3, H3, I3, st3, fr3, w3⟩
  rcases turn i n σ3 H3 w3 with ⟨stop, qn⟩ | ⟨go, N, hN, step⟩
  · refine wpAny_passesOwn hp (thn (T.done X rfl rfl rfl hc i pins s3 σ3 H3 X.xe I3 (stat fr3) st3 stop) fun r s4 ⟨hr, I4⟩ => ?_)
    subst hr
    exact wpAny_execs_nil ⟨σ3, H3, I4, qn⟩
  · refine wpAny_passesOwn hp (thn (T.item X rfl rfl rfl hc i pins s3 σ3 H3 X.xe I3 (stat fr3) st3 go) fun r s4 ⟨u, hr, h4⟩ => ?_)
    subst hr
    refine wpAny_passesOwn hp (thn h4 fun _ s5 ⟨x, H5, I5, r5, y5, st5, fr5⟩ => ?_)
    have I5' := I5.pinned (stat fr5) (T.obj _ _ st5)
    refine wpAny_passesOwn hp (thn (hg _ s5 σ3 H5 x u _ I5' r5 (step x H5 y5)) fun _ s6 ⟨σ6, H6, I6, q6⟩ => ?_)
    refine wpAny_passesOwn hp (thn (hb _ s6 σ6 H6 _ I6 q6) fun f s7 q7 => ?_)
    have again : ∀ {σ7 : St} {H7 : Hp}, Inv X (pins ++ pinsAt fp s5.heap) σ7 H7 s7 → N σ7 H7 → ∃ m, m < n ∧ ∃ i σ' H', Inv X pins σ' H' s7 ∧ tn i s7.heap ∧ (∀ b ∈ fp, H' b = none) ∧ W i m σ' H' := fun {σ7 H7} I7 n7 => by
      obtain ⟨m', hm, w7⟩ := hN σ7 H7 n7
      refine ⟨m', hm, i + 1, σ7, H7, I7.unpinned, T.keep _ _ _ st5 fun b hb o e => (I7.pin (b, o) (List.mem_append_right _ (List.mem_append_right _ (mem_pinsAt hb e)))).1, fun b hb => ?_, w7⟩
      obtain ⟨o, e, d⟩ := T.obj _ _ st5 b hb
      exact (I7.pin (b, o) (List.mem_append_right _ (List.mem_append_right _ (mem_pinsAt hb e)))).2.1
    cases f with
    | next => obtain ⟨σ7, H7, I7, n7⟩ := q7; exact again I7 n7
    | cont => obtain ⟨σ7, H7, I7, n7⟩ := q7; exact again I7 n7
    | brk => obtain ⟨σ7, H7, I7, q7⟩ := q7; exact ⟨σ7, H7, I7.unpinned, q7⟩
    | ret v => obtain ⟨x7, σ7, H7, I7, r7, q7⟩ := q7; exact ⟨x7, σ7, H7, I7.unpinned, r7, q7⟩
end
theorem for_list {K : PySem.W.Frag} {a : Addr} {xs : List V} {g : TG} {tb : TS} {D : Ends} {σ : St} {H : Hp} (Pv : Nat → St → Hp → Prop) (h0 : Pv 0 σ H) (hl : ∀ i σ H, i ≤ xs.length → Pv i σ H → SqL K H a xs)
    (hs : ∀ i x σ H, xs[i]? = some x → Pv i σ H → g x σ H fun σ2 H2 => tb { D with nx := Pv (i + 1), ct := Pv (i + 1), bk := D.nx } σ2 H2) (hd : ∀ σ H, Pv xs.length σ H → D.nx σ H) :
    ∃ W : Nat → Nat → St → Hp → Prop, (∃ m, W 0 m σ H) ∧ ∀ i m σ H, W i m σ H →
      ((Itl K a).stop i H ∧ D.nx σ H) ∨ ((Itl K a).go i H ∧ ∃ N : St → Hp → Prop, (∀ σ' H', N σ' H' → ∃ m', m' < m ∧ W (i + 1) m' σ' H') ∧ ∀ x H', (Itl K a).yld i H x H' → g x σ H' fun σ2 H2 => tb { D with nx := N, ct := N, bk := D.nx } σ2 H2) := by
  refine ⟨fun i m σ H => m = xs.length - i ∧ i ≤ xs.length ∧ Pv i σ H, ⟨xs.length, by simp, Nat.zero_le _, h0⟩, ?_⟩
  rintro i m σ H ⟨rfl, hi, p⟩
  have q := hl i σ H hi p
  by_cases hlt : i < xs.length
  · refine .inr ⟨⟨xs, xs[i], q, by simp [hlt]⟩, Pv (i + 1), fun σ' H' p' => ⟨xs.length - (i + 1), by omega, rfl, hlt, p'⟩, fun x H' y => ?_⟩
    obtain ⟨e, y⟩ := y
    subst e
    exact hs i x σ _ (y xs q) p
  · have e : i = xs.length := by omega
    subst e
    exact .inl ⟨⟨xs, q, Nat.le_refl _⟩, hd σ H p⟩
theorem for_range {lo : Int} {n : Nat} {g : TG} {tb : TS} {D : Ends} {σ : St} {H : Hp} (Pv : Nat → St → Hp → Prop) (h0 : Pv 0 σ H)
    (hs : ∀ i σ H, i < n → Pv i σ H → g (.int (lo + i)) σ H fun σ2 H2 => tb { D with nx := Pv (i + 1), ct := Pv (i + 1), bk := D.nx } σ2 H2) (hd : ∀ σ H, Pv n σ H → D.nx σ H) :
    ∃ W : Nat → Nat → St → Hp → Prop, (∃ m, W 0 m σ H) ∧ ∀ i m σ H, W i m σ H →
      ((Itr lo n).stop i H ∧ D.nx σ H) ∨ ((Itr lo n).go i H ∧ ∃ N : St → Hp → Prop, (∀ σ' H', N σ' H' → ∃ m', m' < m ∧ W (i + 1) m' σ' H') ∧ ∀ x H', (Itr lo n).yld i H x H' → g x σ H' fun σ2 H2 => tb { D with nx := N, ct := N, bk := D.nx } σ2 H2) := by
  refine ⟨fun i m σ H => m = n - i ∧ i ≤ n ∧ Pv i σ H, ⟨n, by simp, Nat.zero_le _, h0⟩, ?_⟩
  rintro i m σ H ⟨rfl, hi, p⟩
  by_cases hlt : i < n
  · refine .inr ⟨hlt, Pv (i + 1), fun σ' H' p' => ⟨n - (i + 1), by omega, rfl, hlt, p'⟩, fun x H' y => ?_⟩
    obtain ⟨e, y⟩ := y
    subst e y
    exact hs i σ _ hlt p
  · have e : i = n := by omega
    subst e
    exact .inl ⟨Nat.le_refl _, hd σ H p⟩
end L2
namespace L2
open PySem PySem.Spec PyProof.Rows
abbrev R2 := V → V → Hp → VK → Prop
def OpR (X : Cx) (f : Value → Value → Sem Value) (r : R2) : Prop :=
  ∀ (pins : List (Addr × Obj)) (s : Shared) (σ : St) (H : Hp) (x y : V) (v u : Value) (Q : VK), Inv X pins σ H s → RelV x v → RelV y u → r x y H Q →
    wpAny (model X.prog X.w) X.A (f v u) (EP X pins σ Q) X.xe s
def UnR (X : Cx) (f : Value → Sem Value) (r : V → Hp → VK → Prop) : Prop :=
  ∀ (pins : List (Addr × Obj)) (s : Shared) (σ : St) (H : Hp) (x : V) (v : Value) (Q : VK), Inv X pins σ H s → RelV x v → r x H Q →
    wpAny (model X.prog X.w) X.A (f v) (EP X pins σ Q) X.xe s
def CallR (X : Cx) (f : Value) (r : List V → Hp → VK → Prop) : Prop :=
  ∀ (pins : List (Addr × Obj)) (s : Shared) (σ : St) (H : Hp) (xs : List V) (us : List Value) (Q : VK), Inv X pins σ H s → Vals xs us → r xs H Q →
    wpAny (model X.prog X.w) X.A (call f us) (EP X pins σ Q) X.xe s
def tOp (r : R2) (ta tb : TE) : TE := fun σ H Q => ta σ H fun x H1 => tb σ H1 fun y H2 => r x y H2 Q
def tUn (r : V → Hp → VK → Prop) (ta : TE) : TE := fun σ H Q => ta σ H fun x H1 => r x H1 Q
def rI (C : Int → Int → Prop) (g : Int → Int → V) : R2 := fun x y H Q => ∃ i j, x = .int i ∧ y = .int j ∧ C i j ∧ Q (g i j) H
def rI0 (g : Int → Int → V) : R2 := fun x y H Q => ∃ i j, x = .int i ∧ y = .int j ∧ Q (g i j) H
def rU (g : Int → V) : V → Hp → VK → Prop := fun x H Q => ∃ i, x = .int i ∧ Q (g i) H
section
variable {X : Cx} {a b c : Expr} {ta tb tc : TE} {pos : Pos}
theorem binT (ha : PE X a ta) (hb : PE X b tb) {pins : List (Addr × Obj)} {s : Shared} {σ : St} {H : Hp} {R : V → V → Hp → Prop} (I : Inv X pins σ H s)
    (h : ta σ H fun x H1 => tb σ H1 fun y H2 => R x y H2) {Q : Value → Shared → Prop} {f : Value → Value → Sem Value}
    (hf : ∀ v u s2 x y H2, Inv X pins σ H2 s2 → RelV x v → RelV y u → R x y H2 → wpAny (model X.prog X.w) X.A (f v u) Q X.xe s2) :
    wpAny (model X.prog X.w) X.A (eval a X.env) (fun v s₁ => wpAny (model X.prog X.w) X.A (eval b X.env) (fun u s₂ => wpAny (model X.prog X.w) X.A (f v u) Q X.xe s₂) X.xe s₁) X.xe s := by
  refine thn (ha pins s σ H _ I h) fun v s1 ⟨x, H1, I1, r1, q1⟩ => ?_
  refine thn (hb pins s1 σ H1 _ I1 q1) fun u s2 ⟨y, H2, I2, r2, q2⟩ => ?_
  exact hf v u s2 x y H2 I2 r1 r2 q2
theorem pe_op {op : Operator} {r : R2} (ho : OpR X (binaryOp op) r) (ha : PE X a ta) (hb : PE X b tb) : PE X (.BinOp a op b pos) (tOp r ta tb) := by
  intro pins s σ H Q I h
  exact wpAny_BinOp (binT ha hb I h fun v u s2 x y H2 I2 rx ry q => ho pins s2 σ H2 x y v u Q I2 rx ry q)
theorem pe_un {op : UnaryOp} {r : V → Hp → VK → Prop} (ho : UnR X (unaryOp op) r) (ha : PE X a ta) : PE X (.UnaryOp op a pos) (tUn r ta) := by
  intro pins s σ H Q I h
  exact UnaryOp_ (thn (ha pins s σ H _ I h) fun v s1 ⟨x, H1, I1, r1, q1⟩ => ho pins s1 σ H1 x v Q I1 r1 q1)
theorem opI {f : Value → Value → Sem Value} {C : Int → Int → Prop} {g : Int → Int → Int}
    (rule : ∀ (i j : Int) (t u : Tok) (s : Shared) (Q : Value → Shared → Prop) (E : Value → Shared → Prop), C i j → Q (.int (g i j) s.toks) { s with toks := s.toks + 1 } → wpAny (model X.prog X.w) X.A (f (.int i t) (.int j u)) Q E s) :
    OpR X f (rI C fun i j => .int (g i j)) := by
  intro pins s σ H x y v u Q I rx ry h
  obtain ⟨i, j, rfl, rfl, hc, q⟩ := h
  obtain ⟨t, rfl⟩ := rx
  obtain ⟨t', rfl⟩ := ry
  exact rule i j t t' s _ _ hc ⟨.int (g i j), H, I.tok _, ⟨_, rfl⟩, q⟩
theorem opI0 {f : Value → Value → Sem Value} {g : Int → Int → Int}
    (rule : ∀ (i j : Int) (t u : Tok) (s : Shared) (Q : Value → Shared → Prop) (E : Value → Shared → Prop), Q (.int (g i j) s.toks) { s with toks := s.toks + 1 } → wpAny (model X.prog X.w) X.A (f (.int i t) (.int j u)) Q E s) :
    OpR X f (rI0 fun i j => .int (g i j)) := by
  intro pins s σ H x y v u Q I rx ry h
  obtain ⟨i, j, rfl, rfl, q⟩ := h
  obtain ⟨t, rfl⟩ := rx
  obtain ⟨t', rfl⟩ := ry
  exact rule i j t t' s _ _ ⟨.int (g i j), H, I.tok _, ⟨_, rfl⟩, q⟩
theorem opB0 {f : Value → Value → Sem Value} {g : Int → Int → Bool}
    (rule : ∀ (i j : Int) (t u : Tok) (s : Shared) (Q : Value → Shared → Prop) (E : Value → Shared → Prop), Q (.bool (g i j)) s → wpAny (model X.prog X.w) X.A (f (.int i t) (.int j u)) Q E s) :
    OpR X f (rI0 fun i j => .bl (g i j)) := by
  intro pins s σ H x y v u Q I rx ry h
  obtain ⟨i, j, rfl, rfl, q⟩ := h
  obtain ⟨t, rfl⟩ := rx
  obtain ⟨t', rfl⟩ := ry
  exact rule i j t t' s _ _ ⟨.bl (g i j), H, I, rfl, q⟩
def CDiv (i j : Int) : Prop := 0 < j ∧ j < 1073741824
def CPow (i j : Int) : Prop := 0 ≤ j ∧ j ≤ 1000000 ∧ i.natAbs < 2 ^ 64
def CMul (i j : Int) : Prop := (-(2 ^ 64) < i ∧ i < 2 ^ 64) ∨ (-(2 ^ 64) < j ∧ j < 2 ^ 64)
theorem CMul.ok {i j : Int} (h : CMul i j) : IntMulOk i j := by
  rcases h with ⟨h1, h2⟩ | ⟨h1, h2⟩
  · exact .of_left (intBits_le_64 h1 h2)
  · exact .of_right (intBits_le_64 h1 h2)
theorem op_add : OpR X (binaryOp .Add) (rI0 fun i j => .int (i + j)) := opI0 fun _ _ _ _ _ _ _ q => add_int q
theorem op_sub : OpR X (binaryOp .Sub) (rI0 fun i j => .int (i - j)) := opI0 fun _ _ _ _ _ _ _ q => sub_int q
theorem op_mul : OpR X (binaryOp .Mult) (rI CMul fun i j => .int (i * j)) := opI fun _ _ _ _ _ _ _ hc q => mul_int q hc.ok
theorem op_fdiv : OpR X (binaryOp .FloorDiv) (rI CDiv fun i j => .int (i / j)) := opI fun i j _ _ _ _ _ hc q => by
  have h1 : (0 : Int) < j := hc.1
  have h2 : j < 1073741824 := hc.2
  exact floordiv_int (by omega) (by rw [Int.fdiv_eq_ediv_of_nonneg i (by omega)]; exact q) (.inl (PyProof.noPylong_small (by omega)))
theorem op_mod : OpR X (binaryOp .Mod) (rI (fun _ j => 0 < j) fun i j => .int (i % j)) := opI fun i j _ _ _ _ _ hc q => by
  have h1 : (0 : Int) < j := hc
  exact mod_int' (by omega) (by rw [Int.fmod_eq_emod_of_nonneg i (by omega)]; exact q)
theorem op_pow : OpR X (binaryOp .Pow) (rI CPow fun i j => .int (i ^ j.toNat)) := opI fun _ _ _ _ _ _ _ hc q => pow_int_small hc.1 hc.2.1 hc.2.2 q
theorem unI {f : Value → Sem Value} {g : Int → Int}
    (rule : ∀ (i : Int) (t : Tok) (s : Shared) (Q : Value → Shared → Prop) (E : Value → Shared → Prop), Q (.int (g i) s.toks) { s with toks := s.toks + 1 } → wpAny (model X.prog X.w) X.A (f (.int i t)) Q E s) :
    UnR X f (rU fun i => .int (g i)) := by
  intro pins s σ H x v Q I rx h
  obtain ⟨i, rfl, q⟩ := h
  obtain ⟨t, rfl⟩ := rx
  exact rule i t s _ _ ⟨.int (g i), H, I.tok _, ⟨_, rfl⟩, q⟩
theorem un_neg : UnR X (unaryOp .USub) (rU fun i => .int (-i)) := unI fun _ _ _ _ _ q => neg_int q
end
def scal : V → V → Bool
  | .non, .non => true | .non, .int _ => true | .int _, .non => true | .non, .bl _ => true | .bl _, .non => true | .non, .str _ => true | .str _, .non => true
  | .int _, .int _ => true | .bl _, .bl _ => true | .str _, .str _ => true | .byt _, .byt _ => true
  | .int _, .str _ => true | .str _, .int _ => true | .bl _, .str _ => true | .str _, .bl _ => true
  | _, _ => false
def rEq : R2 := fun x y H Q => scal x y = true ∧ Q (.bl (decide (x = y))) H
def rNe : R2 := fun x y H Q => scal x y = true ∧ Q (.bl (!decide (x = y))) H
theorem dec_int {i j : Int} : decide (V.int i = V.int j) = (i == j) := by
  rw [Bool.eq_iff_iff]
  simp
theorem dec_bl {i j : Bool} : decide (V.bl i = V.bl j) = (i == j) := by
  rw [Bool.eq_iff_iff]
  simp
theorem dec_str {i j : Str} : decide (V.str i = V.str j) = (i == j) := by
  rw [Bool.eq_iff_iff]
  simp
theorem dec_byt {i j : Array UInt8} : decide (V.byt i = V.byt j) = (i.toList == j.toList) := by
  rw [Bool.eq_iff_iff]
  cases i
  cases j
  simp
section
variable {X : Cx} {a b c : Expr} {ta tb tc : TE} {pos : Pos}
theorem fin_bl {pins : List (Addr × Obj)} {σ : St} {H : Hp} {s : Shared} {Q : VK} {k k' : Bool} (I : Inv X pins σ H s) (q : Q (.bl k) H) (e : k = k') : EP X pins σ Q (.bool k') s := by
  subst e
  exact ⟨.bl k, H, I, rfl, q⟩
theorem op_eq : OpR X (compareOp .Eq) rEq := by
  intro pins s σ H x y v u Q I rx ry h
  obtain ⟨hs, q⟩ := h
  cases x with
  | non =>
    cases rx
    cases y with
    | non => cases ry; exact PySem.EqNone.eq_none_none (fin_bl I q (by simp))
    | bl j => cases ry; exact PySem.EqNone.eq_none_bool (fin_bl I q (by simp))
    | int j => obtain ⟨t', rfl⟩ := ry; exact PySem.EqNone.eq_none_int (fin_bl I q (by simp))
    | str j => obtain ⟨t', rfl⟩ := ry; exact PySem.EqNone.eq_none_str (fin_bl I q (by simp))
    | _ => exact absurd (show false = true from hs) Bool.false_ne_true
  | bl i =>
    cases rx
    cases y with
    | non => cases ry; exact PySem.EqNone.eq_bool_none (fin_bl I q (by simp))
    | bl j => cases ry; exact eq_bool (fin_bl I q dec_bl)
    | str j => obtain ⟨t', rfl⟩ := ry; exact PySem.EqMixed.eq_bool_str (fin_bl I q (by simp))
    | _ => exact absurd (show false = true from hs) Bool.false_ne_true
  | int i =>
    obtain ⟨t, rfl⟩ := rx
    cases y with
    | non => cases ry; exact PySem.EqNone.eq_int_none (fin_bl I q (by simp))
    | int j => obtain ⟨t', rfl⟩ := ry; exact eq_int (fin_bl I q dec_int)
    | str j => obtain ⟨t', rfl⟩ := ry; exact PySem.EqMixed.eq_int_str (fin_bl I q (by simp))
    | _ => exact absurd (show false = true from hs) Bool.false_ne_true
  | str i =>
    obtain ⟨t, rfl⟩ := rx
    cases y with
    | non => cases ry; exact PySem.EqNone.eq_str_none (fin_bl I q (by simp))
    | bl j => cases ry; exact PySem.EqMixed.eq_str_bool (fin_bl I q (by simp))
    | int j => obtain ⟨t', rfl⟩ := ry; exact PySem.EqMixed.eq_str_int (fin_bl I q (by simp))
    | str j => obtain ⟨t', rfl⟩ := ry; exact eq_str (fin_bl I q dec_str)
    | _ => exact absurd (show false = true from hs) Bool.false_ne_true
  | byt i =>
    obtain ⟨t, rfl⟩ := rx
    cases y with
    | byt j => obtain ⟨t', rfl⟩ := ry; exact PySem.W.eq_bytes (fin_bl I q dec_byt)
    | _ => exact absurd (show false = true from hs) Bool.false_ne_true
  | _ => cases y <;> exact absurd (show false = true from hs) Bool.false_ne_true
theorem op_ne : OpR X (compareOp .NotEq) rNe := by
  intro pins s σ H x y v u Q I rx ry h
  obtain ⟨hs, q⟩ := h
  cases x with
  | non =>
    cases rx
    cases y with
    | non => cases ry; exact PySem.EqNone.ne_none_none (fin_bl I q (by simp))
    | bl j => cases ry; exact PySem.EqNone.ne_none_bool (fin_bl I q (by simp))
    | int j => obtain ⟨t', rfl⟩ := ry; exact PySem.EqNone.ne_none_int (fin_bl I q (by simp))
    | str j => obtain ⟨t', rfl⟩ := ry; exact PySem.EqNone.ne_none_str (fin_bl I q (by simp))
    | _ => exact absurd (show false = true from hs) Bool.false_ne_true
  | bl i =>
    cases rx
    cases y with
    | non => cases ry; exact PySem.EqNone.ne_bool_none (fin_bl I q (by simp))
    | bl j => cases ry; exact ne_bool (fin_bl I q (congrArg not dec_bl))
    | str j => obtain ⟨t', rfl⟩ := ry; exact PySem.EqMixed.ne_bool_str (fin_bl I q (by simp))
    | _ => exact absurd (show false = true from hs) Bool.false_ne_true
  | int i =>
    obtain ⟨t, rfl⟩ := rx
    cases y with
    | non => cases ry; exact PySem.EqNone.ne_int_none (fin_bl I q (by simp))
    | int j => obtain ⟨t', rfl⟩ := ry; exact ne_int (fin_bl I q (congrArg not dec_int))
    | str j => obtain ⟨t', rfl⟩ := ry; exact PySem.EqMixed.ne_int_str (fin_bl I q (by simp))
    | _ => exact absurd (show false = true from hs) Bool.false_ne_true
  | str i =>
    obtain ⟨t, rfl⟩ := rx
    cases y with
    | non => cases ry; exact PySem.EqNone.ne_str_none (fin_bl I q (by simp))
    | bl j => cases ry; exact PySem.EqMixed.ne_str_bool (fin_bl I q (by simp))
    | int j => obtain ⟨t', rfl⟩ := ry; exact PySem.EqMixed.ne_str_int (fin_bl I q (by simp))
    | str j => obtain ⟨t', rfl⟩ := ry; exact ne_str (fin_bl I q (congrArg not dec_str))
    | _ => exact absurd (show false = true from hs) Bool.false_ne_true
  | byt i =>
    obtain ⟨t, rfl⟩ := rx
    cases y with
    | byt j => obtain ⟨t', rfl⟩ := ry; exact PySem.W.ne_bytes (fin_bl I q (congrArg not dec_byt))
    | _ => exact absurd (show false = true from hs) Bool.false_ne_true
  | _ => cases y <;> exact absurd (show false = true from hs) Bool.false_ne_true
theorem op_lt : OpR X (compareOp .Lt) (rI0 fun i j => .bl (decide (i < j))) := opB0 fun _ _ _ _ _ _ _ q => lt_int q
theorem op_le : OpR X (compareOp .LtE) (rI0 fun i j => .bl (decide (i ≤ j))) := opB0 fun _ _ _ _ _ _ _ q => le_int q
theorem op_gt : OpR X (compareOp .Gt) (rI0 fun i j => .bl (decide (j < i))) := opB0 fun _ _ _ _ _ _ _ q => gt_int q
theorem nomark (b : Expr) {op : CmpOp} (h : op ≠ .In := by decide) (h2 : op ≠ .NotIn := by decide) : behindInMarks op b = false := by
  have e1 : (op == CmpOp.In) = false := by cases op <;> first | rfl | exact absurd rfl h
  have e2 : (op == CmpOp.NotIn) = false := by cases op <;> first | rfl | exact absurd rfl h2
  cases b <;> simp [behindInMarks, e1, e2]
theorem pe_cmpR {op : CmpOp} {r : R2} (ho : OpR X (compareOp op) r) (ha : PE X a ta) (hb : PE X b tb) (hm : behindInMarks op b = false) : PE X (.Compare a [op] [b] pos) (tOp r ta tb) := by
  intro pins s σ H Q I h
  exact wpAny_Compare1 (binT ha hb I h fun v u s2 x y H2 I2 rx ry q => ho pins s2 σ H2 x y v u Q I2 rx ry q) hm
def tTest (t : TE) : TT := fun σ H Q => t σ H fun x H' => ∃ k, x = .bl k ∧ Q k H'
theorem pt_cmpR {op : CmpOp} {r : R2} (ho : OpR X (compareOp op) r) (ha : PE X a ta) (hb : PE X b tb) (hm : behindInMarks op b = false) : PT X (.Compare a [op] [b] pos) (tTest (tOp r ta tb)) := by
  intro pins s σ H Q I h
  refine wpAny_isTrue_Compare1 (thn (ha pins s σ H _ I h) fun v s1 ⟨x, H1, I1, r1, q1⟩ => thn (hb pins s1 σ H1 _ I1 q1) fun u s2 ⟨y, H2, I2, r2, q2⟩ =>
    thn (ho pins s2 σ H2 x y v u _ I2 r1 r2 q2) fun c s3 ⟨z, H3, I3, r3, k, e, q3⟩ => ?_) hm
  subst e
  cases r3
  exact wpAny_truthy_bool ⟨H3, I3, q3⟩
theorem line63 : (sizeLine : Nat) < 2 ^ 63 := by rw [sizeLine_eq]; decide
theorem op_add_str : OpR X (binaryOp .Add) (fun x y H Q => ∃ i j, x = .str i ∧ y = .str j ∧ i.length + j.length ≤ sizeLine ∧ Q (.str (i ++ j)) H) := by
  intro pins s σ H x y v u Q I rx ry h
  obtain ⟨i, j, rfl, rfl, hz, q⟩ := h
  obtain ⟨t, rfl⟩ := rx
  obtain ⟨t', rfl⟩ := ry
  exact add_str (fun t' tk => ⟨.str (i ++ j), H, I.tok _, ⟨_, rfl⟩, q⟩) hz
theorem vals1 {x : V} {us : List Value} (r : Vals [x] us) : ∃ u, us = [u] ∧ RelV x u := by
  cases r with
  | cons r1 r2 => cases r2; exact ⟨_, rfl, r1⟩
theorem vals2 {x y : V} {us : List Value} (r : Vals [x, y] us) : ∃ u w', us = [u, w'] ∧ RelV x u ∧ RelV y w' := by
  cases r with
  | cons r1 r2 =>
    cases r2 with
    | cons r3 r4 => cases r4; exact ⟨_, _, rfl, r1, r3⟩
theorem call_max2 (hc : X.calm = true) : CallR X (.builtin "max") (fun xs H Q => ∃ i j, xs = [.int i, .int j] ∧ Q (.int (if j > i then j else i)) H) := by
  intro pins s σ H xs us Q I r h
  obtain ⟨i, j, rfl, q⟩ := h
  obtain ⟨u, w', rfl, ⟨t, rfl⟩, ⟨t', rfl⟩⟩ := vals2 r
  refine max_two_ints (I.ok.hd hc) fun h' tk k => ⟨_, H, I.kept k, ?_, q⟩
  by_cases hj : j > i
  · rw [if_pos hj, if_pos hj]; exact ⟨_, rfl⟩
  · rw [if_neg hj, if_neg hj]; exact ⟨_, rfl⟩
theorem call_min2 (hc : X.calm = true) : CallR X (.builtin "min") (fun xs H Q => ∃ i j, xs = [.int i, .int j] ∧ Q (.int (if j < i then j else i)) H) := by
  intro pins s σ H xs us Q I r h
  obtain ⟨i, j, rfl, q⟩ := h
  obtain ⟨u, w', rfl, ⟨t, rfl⟩, ⟨t', rfl⟩⟩ := vals2 r
  refine min_two_ints (I.ok.hd hc) fun h' tk k => ⟨_, H, I.kept k, ?_, q⟩
  by_cases hj : j < i
  · rw [if_pos hj, if_pos hj]; exact ⟨_, rfl⟩
  · rw [if_neg hj, if_neg hj]; exact ⟨_, rfl⟩
theorem call_int1 : CallR X (.type "int") (fun xs H Q => (∃ i, xs = [.int i] ∧ Q (.int i) H) ∨ ∃ k, xs = [.bl k] ∧ Q (.int (if k then 1 else 0)) H) := by
  intro pins s σ H xs us Q I r h
  rcases h with ⟨i, rfl, q⟩ | ⟨k, rfl, q⟩
  · obtain ⟨u, rfl, t, rfl⟩ := vals1 r
    exact call_int_int ⟨.int i, H, I, ⟨_, rfl⟩, q⟩
  · obtain ⟨u, rfl, r1⟩ := vals1 r
    cases r1
    exact call_int_bool ⟨.int (if k then 1 else 0), H, I.tok _, ⟨_, rfl⟩, q⟩
end
end L2
namespace L2
open PySem PySem.Spec PyProof.Rows
structure ObjM (h : Heap) (x dx C : Addr) (mA : Str → Option Value) : Prop where
  obj : h.get? x = some (PySem.W.instObj C dx)
  ns : h.Ns1 dx mA
  ne : dx ≠ x
theorem lookIn_ns {h : Heap} {dx : Addr} {mA : Str → Option Value} (n : h.Ns1 dx mA) : ∃ od, h.get? dx = some od ∧ ∀ name, PySem.W.lookIn name od = some (mA name) := by
  obtain ⟨o, es, ep, ho, hd, hk, _, hm⟩ := n
  refine ⟨o, ho, fun name => ?_⟩
  have e := hm name
  unfold nsFind findBy at e
  rw [← Array.find?_toList] at e
  unfold PySem.W.lookIn
  rw [hd]
  dsimp only
  split
  · rename_i y q
    rw [q] at e
    exact congrArg some e
  · rename_i q
    rw [q] at e
    have a : es.toList.any (·.refKey) = false := by
      rw [List.any_eq_false]
      intro y hy
      obtain ⟨z, t, hkey⟩ := hk y (Array.mem_toList_iff.mp hy)
      simp [DictEntry.refKey, hkey]
    have a' : ¬ es.toList.any (·.refKey) = true := by rw [a]; exact Bool.false_ne_true
    rw [if_neg a']
    exact congrArg some e
theorem ObjM.look {h : Heap} {x dx C : Addr} {mA : Str → Option Value} (I : ObjM h x dx C mA) : ∃ od, PySem.W.InstAt h x (PySem.W.instObj C dx) C (some od) ∧ ∀ name, PySem.W.lookIn name od = some (mA name) :=
  let ⟨od, ho, hl⟩ := lookIn_ns I.ns
  ⟨od, ⟨I.obj, rfl, rfl, ho⟩, hl⟩
section
variable {prog : Program} {w : World} {A : Around} {E : Value → Shared → Prop} {s : Shared} {K : PySem.W.Frag} {x dx C f : Addr} {mA : Str → Option Value} {name : Str} {v : Value}
end
theorem RelO.some_of {v : V} {o : Option Value} (r : RelO (some v) o) : ∃ u, o = some u ∧ RelV v u := by
  cases o with
  | none => exact (show False from r).elim
  | some u => exact ⟨u, rfl, r⟩
section
variable {P : Program} {w : World} {H H' : Hp} {h h' : Heap} {a C dx : Addr} {fs fs' : List (Str × V)}
theorem ins_get (hok : HOk P w H h) (e : H a = some (.ins C dx fs)) : ∃ mA, ObjM h a dx C mA ∧ (∀ f, RelO (fs.lookup f) (mA f)) ∧ PySem.Within mA (fs.map (·.1)) ∧ fs.length ≤ 1000 ∧ H dx = some (.own a) := by
  obtain ⟨d, z, ne, ob, mA, n, r, q⟩ := (show ObjOk P w H h a (.ins C dx fs) from hok a _ e)
  exact ⟨mA, ⟨ob, n, ne⟩, r, q, z, d⟩
end
structure Cls (K : PySem.W.Frag) (C : Addr) : Prop where
  pg : PySem.W.plainGet K C Str.empty = true
  hd : PySem.W.hasDictIn K C = true
  po : PySem.W.plainOver K C = true
  sa : PySem.W.findIn K (.ref C) "__setattr__" = some (some (.builtin "object.__setattr__"))
theorem Cls.get {K : PySem.W.Frag} {C : Addr} (c : Cls K C) (f : Str) : PySem.W.plainGet K C f = true := c.pg
structure Con (K : PySem.W.Frag) (C : Addr) (f : Str) (v : V) (u : Value) : Prop where
  at_ : PySem.W.findIn K (.ref C) f = some (some u)
  rel : RelV v u
  get : PySem.W.specialIn K u "__get__" = some none
  cp : PySem.W.copiedNames.contains f = false
structure Meth (K : PySem.W.Frag) (C : Addr) (m : Str) (f : Addr) : Prop where
  at_ : PySem.W.findIn K (.ref C) m = some (some (.ref f))
  fn : PySem.W.isFn K (.ref f) = true
  kp : PySem.W.keepIn K (.ref f) = true
section
variable {X : Cx} {pins : List (Addr × Obj)} {σ : St} {H : Hp} {s : Shared} {a C dx : Addr} {fs : List (Str × V)} {f : Str} {v : V} {A : Around} {E : Value → Shared → Prop}
end
section
variable {X : Cx} {o e value : Expr} {f : Str} {pos pos' tpos : Pos} {ta tv : TE}
end
section
variable {X : Cx} {pins : List (Addr × Obj)} {σ : St} {H : Hp} {s : Shared} {A : Around} {E : Value → Shared → Prop} {Q : Value → Shared → Prop} {c : Value} {b : Bool}
inductive TyOf (K : PySem.W.Frag) (H : Hp) : V → Value → Prop where
  | non : TyOf K H .non (.type "NoneType")
  | bl (x : Bool) : TyOf K H (.bl x) (.type "bool")
  | int (i : Int) : TyOf K H (.int i) (.type "int")
  | str (x : Str) : TyOf K H (.str x) (.type "str")
  | flt (x : UInt64) : TyOf K H (.flt x) (.type "float")
  | lst {a : Addr} {xs : List V} (e : H a = some (.lst xs)) : TyOf K H (.ref a) (.type "list")
  | frz {a : Addr} {o : Obj} {xs : List V} (e : H a = some (.frz o (.lst xs))) : TyOf K H (.ref a) (.type "list")
  | tup {a : Addr} {xs : List V} (e : H a = some (.tup xs)) : TyOf K H (.ref a) (.type "tuple")
  | dK {a : Addr} {kvs : List (Key × V)} (e : H a = some (.dK kvs)) : TyOf K H (.ref a) (.type "dict")
  | dT {a : Addr} {kvs : List (List Key × V)} (e : H a = some (.dT kvs)) : TyOf K H (.ref a) (.type "dict")
  | ins {a C dx : Addr} {fs : List (Str × V)} (e : H a = some (.ins C dx fs)) (cl : Cls K C) (ha : PySem.W.findIn K (.ref C) "__class__" = some (some (.builtin "object.__class__")))
      (hn : PySem.W.specialIn K (.builtin "object.__class__") "__get__" = some (some (.builtin "getset_descriptor.__get__"))) (htk : PySem.W.takesIn K (.builtin "object.__class__") = some true)
      (hm : PySem.W.mroIn K C (.type "object") = some true) : TyOf K H (.ref a) (.ref C)
theorem isinst_ok {x : V} {u t : Value} (I : Inv X pins σ H s) (rx : RelV x u) (ty : TyOf X.K H x t) (e : PySem.W.kitOne X.K t c = some b) (h : ∀ tk, Q (.bool b) { s with toks := tk }) :
    wpAny (model X.prog X.w) A (call (.builtin "isinstance") [u, c]) Q E s := by
  cases ty with
  | non => cases (show u = Value.none from rx); exact PySem.W.kia_one PySem.W.kitx_none I.kIn True.intro e (fun z => nomatch z) h
  | bl y => cases (show u = Value.bool y from rx); exact PySem.W.kia_one PySem.W.kitx_bool I.kIn True.intro e (fun z => nomatch z) h
  | int i => obtain ⟨t, q⟩ := (show ∃ t, u = Value.int i t from rx); cases q; exact PySem.W.kia_one PySem.W.kitx_int I.kIn True.intro e (fun z => nomatch z) h
  | str y => obtain ⟨t, q⟩ := (show ∃ t, u = Value.str y t from rx); cases q; exact PySem.W.kia_one PySem.W.kitx_str I.kIn True.intro e (fun z => nomatch z) h
  | flt y => obtain ⟨t, q⟩ := (show ∃ t, u = Value.float y t from rx); cases q; exact PySem.W.kia_one PySem.W.kitx_float I.kIn True.intro e (fun z => nomatch z) h
  | @lst a xs ea =>
    cases (show u = Value.ref a from rx)
    obtain ⟨_, _, n, _, h1⟩ := (show ObjOk X.prog X.w H s.heap a (.lst xs) from I.hok a _ ea)
    exact PySem.W.kia_one PySem.W.kitx_list I.kIn ⟨_, h1, rfl⟩ e (fun z => nomatch z) h
  | @frz a ob xs ea =>
    cases (show u = Value.ref a from rx)
    obtain ⟨_, _, _, n, _, h1⟩ := (show ObjOk X.prog X.w H s.heap a (.frz ob (.lst xs)) from I.hok a _ ea)
    exact PySem.W.kia_one PySem.W.kitx_list I.kIn ⟨_, h1, rfl⟩ e (fun z => nomatch z) h
  | @tup a xs ea =>
    cases (show u = Value.ref a from rx)
    obtain ⟨_, _, _, p⟩ := (show ObjOk X.prog X.w H s.heap a (.tup xs) from I.hok a _ ea)
    obtain ⟨o, h1, h2, _⟩ := p
    exact PySem.W.kia_one PySem.W.kitx_tuple I.kIn ⟨o, h1, h2⟩ e (fun z => nomatch z) h
  | @dK a kvs ea =>
    cases (show u = Value.ref a from rx)
    obtain ⟨_, _, vs, _, p⟩ := (show ObjOk X.prog X.w H s.heap a (.dK kvs) from I.hok a _ ea)
    obtain ⟨o, es, ep, h1, h2, _⟩ := p
    exact PySem.W.kia_one PySem.W.kitx_dict I.kIn ⟨o, h1, h2.1⟩ e (fun z => nomatch z) h
  | @dT a kvs ea =>
    cases (show u = Value.ref a from rx)
    obtain ⟨_, _, xs, _, o, es, ep, h1, h2, _⟩ := (show ObjOk X.prog X.w H s.heap a (.dT kvs) from I.hok a _ ea)
    exact PySem.W.kia_one PySem.W.kitx_dict I.kIn ⟨o, h1, h2.1⟩ e (fun z => nomatch z) h
  | @ins a C dx fs ea cl ha hn htk hm =>
    cases (show u = Value.ref a from rx)
    obtain ⟨mA, O, _⟩ := ins_get I.hok ea
    obtain ⟨od, J, _⟩ := O.look
    exact PySem.W.kia_one (PySem.W.kitx_own (cl.get _) cl.hd ha hn htk hm) I.kIn J e (fun z => nomatch z) h
end
end L2
namespace L2
open PySem PySem.Spec PyProof.Rows
structure Room (k : Nat) (A : Around) : Prop where
  hd : A.handled = none
  dp : A.depth + 3 * k + 5 < recursionLimit
  un : A.units + 16 * k + 200 < cLine
theorem Room.mono {j k : Nat} {A : Around} (r : Room k A) (h : j ≤ k) : Room j A := ⟨r.hd, by have := r.dp; omega, by have := r.un; omega⟩
theorem Room.deeper {k : Nat} {A : Around} (r : Room (k + 1) A) (env : Env) : Room k (A.deeper env) :=
  ⟨r.hd, by have := r.dp; show A.depth + 1 + 3 * k + 5 < _; omega, by have := r.un; show A.units + 3 + 16 * k + 200 < _; omega⟩
theorem Room.in1 {k : Nat} {A : Around} (r : Room (k + 1) A) : Room k A.in1 :=
  ⟨r.hd, by have := r.dp; show A.depth + 3 * k + 5 < _; omega, by have := r.un; show A.units + 1 + 16 * k + 200 < _; omega⟩
theorem Room.depth {k : Nat} {A : Around} (r : Room k A) : A.depth < recursionLimit := by have := r.dp; omega
theorem Room.units {k : Nat} {A : Around} (r : Room k A) : A.units + 64 < cLine := by have := r.un; omega
def tNil : TA := fun _ H Q => Q [] H
def tCons (ta : TE) (tr : TA) : TA := fun σ H Q => ta σ H fun x H1 => tr σ H1 fun xs H2 => Q (x :: xs) H2
section
variable {X : Cx} {e : Expr} {es : List Expr} {te : TE} {t : TA} {pos : Pos}
theorem pa_nil : PA X [] tNil := fun _ _ _ _ H Q I h => Calls.spliced_nil ⟨[], H, I, .nil, h⟩
theorem pa_cons (ha : PE X e te) (hr : PA X es t) (hs : starEach (e :: es) X.env = (false, eval e X.env) :: starEach es X.env := by rfl) : PA X (e :: es) (tCons te t) := by
  intro pos pins s σ H Q I h
  rw [hs]
  show wpAny _ _ (spliced ((false, eval e X.env) :: backTo pos (starEach es X.env))) _ _ s
  refine Calls.spliced_cons (thn (ha pins s σ H _ I h) fun u s1 ⟨x, H1, I1, r1, q1⟩ => ?_)
  exact thn (hr pos pins s1 σ H1 _ I1 q1) fun us s2 ⟨xs, H2, I2, r2, q2⟩ => ⟨x :: xs, H2, I2, .cons r1 r2, q2⟩
def tTup (t : TA) : TE := fun σ H Q => t σ H fun xs H1 => xs.length ≤ sizeLine ∧ ∀ p, H1 p = none → Q (.ref p) (upd H1 p (.tup xs))
def tLst (t : TA) : TE := fun σ H Q => t σ H fun xs H1 => xs.length ≤ sizeLine ∧ ∀ p, H1 p = none → Q (.ref p) (upd H1 p (.lst xs))
theorem pe_tup {x1} (h : PA X es t) : PE X (.Tuple es x1 pos) (tTup t) := by
  intro pins s σ H Q I hq
  refine wpAny_Tuple_spliced (thn (h pos pins s σ H _ I hq) fun us s1 ⟨xs, H1, I1, r, z, q⟩ => ⟨by rw [← r.length]; exact z, ?_⟩)
  have hf : H1 s1.heap.objs.size = none := I1.hok.fresh (Nat.le_refl _)
  refine ⟨.ref s1.heap.objs.size, upd H1 s1.heap.objs.size (.tup xs), I1.laid (t' := s1.toks) (fun b u e => Heap.get?_push_of_some _ e) (Nat.le_refl _) ?_, rfl, q _ hf⟩
  exact ⟨z, us, r, ⟨_, Heap.get?_push_size _ rfl, rfl, _, rfl⟩⟩
theorem pe_lst (h : PA X es t) : PE X (.List es pos) (tLst t) := by
  intro pins s σ H Q I hq
  refine wpAny_List_spliced (thn (h pos pins s σ H _ I hq) fun us s1 ⟨xs, H1, I1, r, z, q⟩ => ⟨by rw [← r.length]; exact z, ?_⟩)
  have hf : H1 s1.heap.objs.size = none := I1.hok.fresh (Nat.le_refl _)
  refine ⟨.ref s1.heap.objs.size, upd H1 s1.heap.objs.size (.lst xs), I1.laid (t' := s1.toks) (fun b u e => Heap.get?_push_of_some _ e) (Nat.le_refl _) ?_, rfl, q _ hf⟩
  exact ⟨z, us, 0, r, Heap.get?_push_size _ rfl⟩
end
abbrev Sp := List V → Hp → VK → XK → Prop
abbrev CXT := List Env → Hp → Shared → XK → Value → Shared → Prop
structure Env0 (P : Program) (w : World) (K : PySem.W.Frag) (mg : Str → Option Value) (base : Heap) (A : Around) (outer : List Env) (s : Shared) (H : Hp) : Prop where
  frames : A.frames = some outer
  mod : Mod K mg base
  bs : ∀ b o, base.get? b = some o → s.heap.get? b = some o ∧ H b = none
  bsz : base.objs.size ≤ s.heap.objs.size
  funs : s.heap.FunFrames base outer
  frf : ∀ b ∈ frs outer, H b = none
  hok : HOk P w H s.heap
  bare : AllBare s.gens
def CE (outer : List Env) (P : Program) (w : World) (H : Hp) (s : Shared) (Q : VK) (u : Value) (s' : Shared) : Prop :=
  ∃ v H', s'.os = s.os ∧ AllBare s'.gens ∧ Un (frs outer) [] H H' s.heap s'.heap ∧ HOk P w H' s'.heap ∧ RelV v u ∧ Q v H'
def CR (CX : CXT) (outer : List Env) (P : Program) (w : World) (H : Hp) (s : Shared) (Q : VK) (E : XK) (r : Result) (s' : Shared) : Prop :=
  match r with
  | .ok (.ret u) => CE outer P w H s Q u s'
  | .ok _ => False
  | .error e => CX outer H s E e s'
structure FnOk (P : Program) (w : World) (K : PySem.W.Frag) (mg : Str → Option Value) (base : Heap) (CX : CXT) (k : Nat) (f : Addr) (fd : FuncData) (ps : List Str) (sp : Sp) : Prop where
  len : ∀ vs H Q E, sp vs H Q E → vs.length = ps.length
  run : ∀ (A : Around) (outer : List Env) (s : Shared) (H : Hp) (args : Args) (us : List Value) (vs : List V) (Q : VK) (E : XK), Room k A → Env0 P w K mg base A outer s H → BindsTo s fd args (ps.zip us) → Vals vs us → sp vs H Q E →
    codeAny (model P w) A (.call (.ref f) args) (CR CX outer P w H s Q E) s
section
variable {X : Cx} {pins : List (Addr × Obj)} {σ : St} {H : Hp} {s s' : Shared}
theorem Inv.env0 (I : Inv X pins σ H s) : Env0 X.prog X.w X.K X.mg X.base X.A X.stack s H :=
  ⟨I.ok.frames, I.ok.mod, I.bs, Nat.le_trans I.ok.bsz I.sz, I.stack, I.stkFree, I.hok, I.bare⟩
theorem Inv.after {Q : VK} {u : Value} (I : Inv X pins σ H s) (h : CE X.stack X.prog X.w H s Q u s') : EP X pins σ Q u s' := by
  obtain ⟨v, H', os, bare, un, hok, r, q⟩ := h
  obtain ⟨hh, g, d, t, os'⟩ := s'
  obtain rfl : os' = s.os := os
  exact ⟨v, H', I.call (h' := hh) (g' := g) (d' := d) (t' := t) (ch := []) un hok bare (fun b z => absurd z (by simp)), r, q⟩
end
def tCall (sp : Sp) (dvs : List V) (E : XK) (t : TA) : TE := fun σ H Q => t σ H fun vs H1 => sp (vs ++ dvs) H1 Q E
def Binds (K : PySem.W.Frag) (fd : FuncData) (ps : List Str) (ds : List Value) : Prop :=
  ∀ (s : Shared) (us : List Value), K.In s.heap → (us ++ ds).length = ps.length → BindsTo s fd ⟨us, []⟩ (ps.zip (us ++ ds))
theorem Binds.all {K : PySem.W.Frag} {fd : FuncData} {ps : List Str} (h : ∀ us : List Value, us.length = ps.length → bindArgs fd ⟨us, []⟩ = pure (ps.zip us)) : Binds K fd ps [] := fun s us _ hl => by
  rw [List.append_nil] at hl ⊢
  exact .of_eq (h us hl)
def Passes (CX : CXT) (X : Cx) (E : XK) : Prop := ∀ (pins : List (Addr × Obj)) (σ : St) (H : Hp) (s : Shared) (e : Value) (s' : Shared), Inv X pins σ H s → CX X.stack H s E e s' → X.xe e s'
section
variable {X : Cx} {CX : CXT} {k : Nat} {f C : Addr} {fd : FuncData} {ps : List Str} {sp : Sp} {dvs : List V} {ds : List Value} {E : XK} {x m : Str} {p pos apos : Pos} {e o : Expr} {es : List Expr} {ta : TE} {t : TA}
theorem run_fn {pins : List (Addr × Obj)} {σ : St} {H : Hp} {s : Shared} {Q : VK} {us : List Value} {vs : List V} (F : FnOk X.prog X.w X.K X.mg X.base CX k f fd ps sp) (hr : Room k X.A) (hb : Binds X.K fd ps ds) (hd : Vals dvs ds) (hx : Passes CX X E)
    (I : Inv X pins σ H s) (r : Vals vs us) (h : sp (vs ++ dvs) H Q E) : wpAny (model X.prog X.w) X.A (call (.ref f) us) (EP X pins σ Q) X.xe s := by
  have r2 : Vals (vs ++ dvs) (us ++ ds) := r.append hd
  have hl : (us ++ ds).length = ps.length := by rw [← r2.length]; exact F.len _ _ _ _ h
  refine wpAny_call (codeAny_mono (F.run X.A X.stack s H ⟨us, []⟩ (us ++ ds) (vs ++ dvs) Q E hr I.env0 (hb s us I.kIn hl) r2 h) fun r s' hq => ?_)
  cases r with
  | error e => exact hx pins σ H s e s' I hq
  | ok fl =>
    cases fl with
    | ret u => exact I.after hq
    | next => exact False.elim hq
    | brk => exact False.elim hq
    | cont => exact False.elim hq
theorem pe_call (F : FnOk X.prog X.w X.K X.mg X.base CX k f fd ps sp) (hr : Room k X.A) (hg : Gl X x) (hm : X.mg x = some (.ref f)) (hk : PySem.W.keepIn X.K (.ref f) = true) (hb : Binds X.K fd ps ds) (hd : Vals dvs ds) (hx : Passes CX X E)
    (ha : PA X (e :: es) t) (hdb : (x == ("__debug__" : Str)) = false := by decide) (he : starEach (e :: es) X.env = (false, eval e X.env) :: starEach es X.env := by rfl) (hpl : (backTo pos (starEach es X.env)).any (·.1) = false := by rfl) :
    PE X (.Call (.Name x p) (e :: es) [] pos) (tCall sp dvs E t) := by
  intro pins s σ H Q I h
  refine wpAny_Call_Name_kw (ld_glob I hg hm ?_ hdb)
  refine PySem.W.callWith_K (h₀ := X.base) I.ok.mod.kin hk (thn (ha pos pins s σ H _ I h) fun us s1 ⟨vs, H1, I1, r, q⟩ => ⟨I1.kIn, ?_⟩) he hpl
  exact run_fn F hr hb hd hx I1 r q
structure Mk (K : PySem.W.Frag) (C f : Addr) : Prop where
  makes : PySem.W.makesIn K C = true
  init : PySem.W.findIn K (.ref C) "__init__" = some (some (.ref f))
  fn : PySem.W.isFn K (.ref f) = true
  kp : PySem.W.keepIn K (.ref C) = true
end
def PK (X : Cx) (kws : List Keyword) (t : TA) : Prop :=
  ∀ (pos : Pos) (pins : List (Addr × Obj)) (s : Shared) (σ : St) (H : Hp) (Q : List V → Hp → Prop), Inv X pins σ H s → t σ H Q → wpAny (model X.prog X.w) X.A (evalAll ((backToKw pos (keywordEach kws X.env)).map (·.2))) (AP X pins σ Q) X.xe s
section
variable {X : Cx} {CX : CXT} {k : Nat} {f C : Addr} {fd : FuncData} {ps ks : List Str} {sp : Sp} {E : XK} {x m : Str} {p pos apos kpos : Pos} {e o : Expr} {es : List Expr} {kws : List Keyword} {te ta : TE} {t tk : TA} {nm : Option Str}
theorem pk_nil : PK X [] tNil := fun _ _ _ _ H Q I h => wpAny_evalAll_nil ⟨[], H, I, .nil, h⟩
theorem pk_cons (ha : PE X e te) (hr : PK X kws t) : PK X (⟨nm, e, kpos⟩ :: kws) (tCons te t) := by
  intro pos pins s σ H Q I h
  show wpAny _ _ (evalAll ((do let v ← eval e X.env; standAt pos; pure v) :: (backToKw pos (keywordEach kws X.env)).map (·.2))) _ _ s
  refine wpAny_evalAll_cons (wpAny_bind (thn (ha pins s σ H _ I h) fun u s1 ⟨x, H1, I1, r1, q1⟩ => wpAny_bind (wpAny_standAt (wpAny_pure ?_))))
  exact thn (hr pos pins s1 σ H1 _ I1 q1) fun us s2 ⟨xs, H2, I2, r2, q2⟩ => ⟨x :: xs, H2, I2, .cons r1 r2, q2⟩
structure KBinds (K : PySem.W.Frag) (fd : FuncData) (ps ks : List Str) (g : List Value → List Value → List Value) (gV : List V → List V → List V) : Prop where
  to : ∀ (s : Shared) (us ws : List Value), K.In s.heap → (g us ws).length = ps.length → BindsTo s fd ⟨us, ks.zip ws⟩ (ps.zip (g us ws))
  rel : ∀ {vs : List V} {us : List Value} {zs : List V} {ws : List Value}, Vals vs us → Vals zs ws → Vals (gV vs zs) (g us ws)
variable {g : List Value → List Value → List Value} {gV : List V → List V → List V}
end
structure FnScope (N P : List Str) (sc : Scope) : Prop where
  kind : sc.kind = .function
  co : sc.isCoroutine = false
  gen : sc.isGenerator = false
  nd : N.Nodup
  pre : N.take P.length = P
  par : ∀ x ∈ P, sc.names.lookup x = some .local ∨ sc.names.lookup x = some .cell
  nofree : ∀ y ∈ sc.names, y.2 ≠ .free
theorem bindL_out {kindOf : Str → Option NameKind} {x : Str} : ∀ {binds : List (Str × Value)} {m : Str → Option Value}, (∀ v, (x, v) ∉ binds) → bindL kindOf binds m x = m x
  | [], _, _ => rfl
  | (n, v) :: r, m, h => by
    unfold bindL
    rw [bindL_out fun w hw => h w (List.mem_cons_of_mem _ hw)]
    split
    · have : x ≠ n := by rintro rfl; exact h v List.mem_cons_self
      simp [this]
    · rfl
theorem bindC_out {kindOf : Str → Option NameKind} {x : Str} : ∀ {binds : List (Str × Value)} {m : Str → Option Value}, (∀ v, (x, v) ∉ binds) → bindC kindOf binds m x = m x
  | [], _, _ => rfl
  | (n, v) :: r, m, h => by
    unfold bindC
    rw [bindC_out fun w hw => h w (List.mem_cons_of_mem _ hw)]
    split
    · rfl
    · have : x ≠ n := by rintro rfl; exact h v List.mem_cons_self
      simp [this]
theorem bindL_get {kindOf : Str → Option NameKind} {x : Str} {v : Value} : ∀ {P : List Str} {vs : List Value} {i : Nat} {m : Str → Option Value}, P.Nodup → P[i]? = some x → vs[i]? = some v → kindOf x = some .local →
    bindL kindOf (P.zip vs) m x = some v
  | [], _, _, _, _, h, _, _ => by simp at h
  | _ :: _, [], _, _, _, _, h, _ => by simp at h
  | p :: P, w :: vs, 0, m, nd, h1, h2, hk => by
    simp at h1 h2; subst h1; subst h2
    show bindL kindOf ((p, w) :: P.zip vs) m p = _
    unfold bindL
    rw [bindL_out fun v hv => (List.nodup_cons.mp nd).1 (List.of_mem_zip hv).1, if_pos hk]
    simp
  | p :: P, w :: vs, i + 1, m, nd, h1, h2, hk => by
    show bindL kindOf ((p, w) :: P.zip vs) m x = _
    unfold bindL
    exact bindL_get (i := i) (List.nodup_cons.mp nd).2 (by simpa using h1) (by simpa using h2) hk
theorem bindC_get {kindOf : Str → Option NameKind} {x : Str} {v : Value} : ∀ {P : List Str} {vs : List Value} {i : Nat} {m : Str → Option Value}, P.Nodup → P[i]? = some x → vs[i]? = some v → kindOf x ≠ some .local →
    bindC kindOf (P.zip vs) m x = some v
  | [], _, _, _, _, h, _, _ => by simp at h
  | _ :: _, [], _, _, _, _, h, _ => by simp at h
  | p :: P, w :: vs, 0, m, nd, h1, h2, hk => by
    simp at h1 h2; subst h1; subst h2
    show bindC kindOf ((p, w) :: P.zip vs) m p = _
    unfold bindC
    rw [bindC_out fun v hv => (List.nodup_cons.mp nd).1 (List.of_mem_zip hv).1, if_neg hk]
    simp
  | p :: P, w :: vs, i + 1, m, nd, h1, h2, hk => by
    show bindC kindOf ((p, w) :: P.zip vs) m x = _
    unfold bindC
    exact bindC_get (i := i) (List.nodup_cons.mp nd).2 (by simpa using h1) (by simpa using h2) hk
def start (N : List Str) (vs : List V) : St := vs.map some ++ List.replicate (N.length - vs.length) none
def cxOf (CX : CXT) (P : Program) (w : World) (K : PySem.W.Frag) (mg : Str → Option Value) (base : Heap) (N : List Str) (qual : Str) (scope : Scope) (f : Addr) (cd : Value) (A : Around) (outer : List Env) (s : Shared) (H : Hp) (E : XK) : Cx where
  prog := P
  w := w
  K := K
  mg := mg
  base := base
  A := A.deeper (envOfC qual scope s.heap.objs.size f cd)
  N := N
  s₀ := s
  H₀ := H
  env := envOfC qual scope s.heap.objs.size f cd
  outer := outer
  stack := envOfC qual scope s.heap.objs.size f cd :: outer
  ex := []
  calm := true
  fn := fun _ => true
  pn := []
  xe := fun e s' => wpAny (model P w) (A.deeper (envOfC qual scope s.heap.objs.size f cd)) (leaving (envOfC qual scope s.heap.objs.size f cd) e) (fun _ s'' => CX outer H s E e s'') (fun e' s'' => CX outer H s E e' s'') s'
theorem cell_has {sc : Scope} {n : Nat} {x : Str} (h : sc.names.lookup x = some .cell) : ∃ c, (cellsFrom n sc.names []).lookup x = some c := by
  have q := PySem.W.cellsFrom_some sc.names n [] (.inl h)
  exact Option.isSome_iff_exists.mp q
theorem inv_start {CX : CXT} {P : Program} {w : World} {K : PySem.W.Frag} {mg : Str → Option Value} {base : Heap} {N ps : List Str} {qual : Str} {scope : Scope} {f : Addr} {cd : Value} {A : Around} {outer : List Env} {s s1 : Shared} {H : Hp} {E : XK} {us : List Value} {vs : List V}
    (S : FnScope N ps scope) (hd : A.handled = none) (e0 : Env0 P w K mg base A outer s H) (hl : vs.length = ps.length) (r : Vals vs us)
    (x : InCallC s s.heap.objs.size (bindL (envOfC qual scope s.heap.objs.size f cd).kindOf (ps.zip us) fun _ => none) (cellsFrom (s.heap.objs.size + 1) scope.names []) (bindC (envOfC qual scope s.heap.objs.size f cd).kindOf (ps.zip us) fun _ => none) s1) :
    Inv (cxOf CX P w K mg base N qual scope f cd A outer s H E) [] (start N vs) H s1 := by
  have hpl : ps.length ≤ N.length := by have := congrArg List.length S.pre; rw [List.length_take] at this; omega
  obtain ⟨h1, tk, rfl, hk⟩ := x.done
  have noA : ∀ b : Addr, b ∉ (cxOf CX P w K mg base N qual scope f cd A outer s H E).ex := fun b z => absurd (show b ∈ ([] : List Addr) from z) (by simp)
  refine ⟨⟨e0.mod, S.kind, rfl, rfl, Nat.le_refl _, fun y z c h1 h2 => ?_, fun y hy => ?_, fun y c _ h => ?_, fun _ => hd, Around.frames_deeper e0.frames, .inr ⟨rfl, rfl⟩, fun b z => absurd z (noA b), e0.bs, e0.bsz, fun b _ _ => noA b, fun b z => absurd z (noA b), e0.funs, e0.frf⟩,
    rfl, e0.bare, Un.kept hk, ⟨_, x.toInCall.ns, fun i y v h1 h2 h3 => ?_⟩, fun y c h => ⟨_, x.cell y c h⟩, e0.hok.fresh (Nat.le_refl _), fun y c h => ?_, fun p hp => absurd (show p ∈ ([] : List (Addr × Obj)) from hp) (by simp), e0.hok.kept hk, ?_⟩
  · exact name_of_addr x.apart (PySem.mem_of_lookup h1) (PySem.mem_of_lookup h2)
  · have hy : scope.names.lookup y = some .cell ∨ scope.names.lookup y = some .free := hy
    rcases hy with hy | hy
    · exact cell_has hy
    · exact absurd rfl (S.nofree _ (PySem.mem_of_lookup hy))
  · exact Nat.le_of_lt (x.above y c (PySem.mem_of_lookup h))
  · have hi : i < vs.length := by
      unfold start at h2
      by_cases hi : i < vs.length
      · exact hi
      · rw [List.getElem?_append_right (by simpa using hi)] at h2
        rw [List.getElem?_replicate] at h2
        split at h2 <;> cases h2
    have ha : vs[i]? = some v := by
      unfold start at h2
      rw [List.getElem?_append_left (by simpa using hi), List.getElem?_map] at h2
      cases e : vs[i]? with
      | none => rw [e] at h2; cases h2
      | some a => rw [e] at h2; cases h2; rfl
    obtain ⟨u, hu, rv⟩ := r.get ha
    have hp : ps[i]? = some y := by
      rw [← S.pre, List.getElem?_take_of_lt (by omega)]; exact h1
    have ndP : ps.Nodup := by rw [← S.pre]; exact S.nd.sublist (List.take_sublist _ _)
    refine ⟨u, rv, ?_⟩
    rcases S.par y (List.mem_of_getElem? hp) with k | k
    · exact .inl ⟨k, bindL_get ndP hp hu k⟩
    · obtain ⟨c, e⟩ := cell_has (n := s.heap.objs.size + 1) k
      refine .inr ⟨.inl k, c, e, ?_⟩
      have q := x.cell y c e
      rw [bindC_get ndP hp hu (by show scope.names.lookup y ≠ _; rw [k]; decide)] at q
      exact q
  · exact e0.hok.fresh (Nat.le_of_lt (x.above y c (PySem.mem_of_lookup h)))
  · unfold start
    show _ = N.length
    rw [List.length_append, List.length_map, List.length_replicate]
    omega
theorem fn_of {CX : CXT} {P : Program} {w : World} {K : PySem.W.Frag} {mg : Str → Option Value} {base : Heap} {k : Nat} {f : Addr} {name qual : Str} {params : Arguments} {body : List Stmt} {scope : Scope} {dV kV doc pm cdv ct oc : Value} {an od : Option Addr}
    {osl : Array (Option Value)} {N ps : List Str} {sp : Sp} (lk : K.lookup f = some ⟨oc, od, .func (PySem.W.fnOf name qual params body scope dV kV doc pm an cdv ct), osl⟩) (hcd : PySem.W.codeIn K cdv qual = true) (S : FnScope N ps scope)
    (len : ∀ vs H Q E, sp vs H Q E → vs.length = ps.length)
    (hbody : ∀ (A : Around) (outer : List Env) (s : Shared) (H : Hp) (vs : List V) (Q : VK) (E : XK), Room k (A.deeper (envOfC qual scope s.heap.objs.size f cdv)) → sp vs H Q E →
      ∃ t, PSs (cxOf CX P w K mg base N qual scope f cdv A outer s H E) body t ∧ t { nx := fun _ H' => Q .non H', rt := Q } (start N vs) H) :
    FnOk P w K mg base CX (k + 1) f (PySem.W.fnOf name qual params body scope dV kV doc pm an cdv ct) ps sp := by
  refine ⟨len, fun A outer s H args us vs Q E hr e0 hb r hsp => ?_⟩
  have hl := len _ _ _ _ hsp
  have KX : K.In s.heap := e0.mod.kin.keeps fun b o e => (e0.bs b o e).1
  have lim : s.heap.NoLimit := e0.mod.nolimit.keeps fun b o e => (e0.bs b o e).1
  have hkind : ∀ y ∈ ps.zip us, scope.names.lookup y.1 = some .local ∨ (scope.names.lookup y.1 = some .cell ∧ ((cellsFrom (s.heap.objs.size + 1) scope.names []).lookup y.1).isSome = true) := fun ⟨n, v⟩ hy => by
    rcases S.par n (List.of_mem_zip hy).1 with q | q
    · exact .inl q
    · exact .inr ⟨q, PySem.W.cellsFrom_some _ _ _ (.inl q)⟩
  refine codeAny_call_function hr.depth (KX _ _ lk) rfl S.co S.gen rfl (PySem.W.codeRec_of KX hcd) (hb _ _ _ _ ?_)
  refine wpAny_newFunctionEnv_cells S.kind hkind fun env he s1 x => ?_
  subst he
  refine ⟨lim.keeps x.toInCall.keep, codeAny_func ?_⟩
  obtain ⟨t, ht, hq⟩ := hbody A outer s H vs Q E (hr.deeper _) hsp
  have I : Inv (cxOf CX P w K mg base N qual scope f cdv A outer s H E) [] (start N vs) H s1 := inv_start S hr.hd e0 hl r x
  refine wpAny_mono (ht [] s1 (start N vs) H _ I hq) (fun fl s' hs => ?_) fun e s' hs => hs
  have fin : ∀ {σ' : St} {H' : Hp} {v : V} {u : Value}, Inv (cxOf CX P w K mg base N qual scope f cdv A outer s H E) [] σ' H' s' → RelV v u → Q v H' → CE outer P w H s Q u s' :=
    fun {σ' H' v u} J rv q => ⟨v, H', J.os, J.bare, J.base, J.hok, rv, q⟩
  cases fl with
  | ret u =>
    obtain ⟨v, σ', H', J, rv, q⟩ := hs
    exact fin J rv q
  | next =>
    obtain ⟨σ', H', J, q⟩ := hs
    exact fin (v := V.non) (u := Value.none) J rfl q
  | brk =>
    obtain ⟨_, _, _, q⟩ := hs
    exact False.elim q
  | cont =>
    obtain ⟨_, _, _, q⟩ := hs
    exact False.elim q
end L2
namespace L2
open PySem PySem.Spec PyProof.Rows
section
variable {X : Cx} {x : Str} {p pos : Pos} {e : Expr} {es : List Expr} {t : TA} {id T : String} {r : List V → Hp → VK → Prop}
def tCB (r : List V → Hp → VK → Prop) (t : TA) : TE := fun σ H Q => t σ H fun vs H1 => r vs H1 Q
theorem pe_callB (hc : CallR X (.builtin id) r) (hg : Gl X x) (hm : X.mg x = none) (hv : bootBuiltins x = some (.builtin id)) (ha : PA X (e :: es) t) (hn : x ≠ "__name__" := by decide) (hdb : (x == ("__debug__" : Str)) = false := by decide)
    (he : starEach (e :: es) X.env = (false, eval e X.env) :: starEach es X.env := by rfl) (hpl : (backTo pos (starEach es X.env)).any (·.1) = false := by rfl) : PE X (.Call (.Name x p) (e :: es) [] pos) (tCB r t) := by
  intro pins s σ H Q I h
  refine wpAny_Call_Name_kw (ld_blt I hg hm hv ?_ hn hdb)
  exact PyProof.Rows.callWith_builtin1 (thn (ha pos pins s σ H _ I h) fun us s1 ⟨vs, H1, I1, r1, q1⟩ => hc pins s1 σ H1 vs us Q I1 r1 q1) he hpl
theorem pe_callTy (hc : CallR X (.type T) r) (hg : Gl X x) (hm : X.mg x = none) (hv : bootBuiltins x = some (.type T)) (ha : PA X (e :: es) t) (hn : x ≠ "__name__" := by decide) (hdb : (x == ("__debug__" : Str)) = false := by decide)
    (he : starEach (e :: es) X.env = (false, eval e X.env) :: starEach es X.env := by rfl) (hpl : (backTo pos (starEach es X.env)).any (·.1) = false := by rfl) : PE X (.Call (.Name x p) (e :: es) [] pos) (tCB r t) := by
  intro pins s σ H Q I h
  refine wpAny_Call_Name_kw (ld_blt I hg hm hv ?_ hn hdb)
  exact PyProof.Rows.callWith_type1 (thn (ha pos pins s σ H _ I h) fun us s1 ⟨vs, H1, I1, r1, q1⟩ => hc pins s1 σ H1 vs us Q I1 r1 q1) he hpl
end
end L2
namespace HT
open PySem PyProof.Rows
section
open PySem.SeqAt
open PySem.AutoSeq1 (wpAny_loadPart')
open PySem.MeetsSeq PySem.MeetsSeq2 PySem.MeetsSeq3
end
section
variable {prog : Program} {w : World} {A : Around} {E : Value → Shared → Prop} {s : Shared}
def sIx (n d : Nat) : Option Int → Nat
  | none => d
  | some v => if v < 0 then (v + (n : Int)).toNat else min v.toNat n
theorem sIx_none (n d : Nat) : sIx n d none = d := rfl
theorem sIx_nat (n d k : Nat) : sIx n d (some (k : Int)) = min k n := by
  show (if (k : Int) < 0 then ((k : Int) + (n : Int)).toNat else min (k : Int).toNat n) = min k n
  rw [if_neg (by omega), Int.toNat_natCast]
theorem sIx_le (n d : Nat) (hd : d ≤ n) (o : Option Int) : sIx n d o ≤ n := by
  cases o with
  | none => exact hd
  | some v =>
    show (if v < 0 then (v + (n : Int)).toNat else min v.toNat n) ≤ n
    by_cases hv : v < 0
    · rw [if_pos hv]; omega
    · rw [if_neg hv]; exact Nat.min_le_right _ _
theorem clip_eq (v : Int) (n d : Nat) : (if v < 0 then max (v + (n : Int)) 0 else min v (n : Int)) = ((sIx n d (some v) : Nat) : Int) := by
  show (if v < 0 then max (v + (n : Int)) 0 else min v (n : Int)) = (((if v < 0 then (v + (n : Int)).toNat else min v.toNat n) : Nat) : Int)
  by_cases hv : v < 0
  · simp only [if_pos hv]; omega
  · simp only [if_neg hv]; omega
theorem adjust_gen (lo hi : Option Int) (n : Nat) : Builtin.Slice.sliceAdjust lo hi 1 (n : Int) = (((sIx n 0 lo : Nat) : Int), ((sIx n n hi : Nat) : Int)) := by
  have h1 : ¬ ((1 : Int) < 0) := by omega
  unfold Builtin.Slice.sliceAdjust
  simp only [h1, if_false]
  refine Prod.ext ?_ ?_
  · cases lo with
    | none => rfl
    | some v => exact clip_eq v n 0
  · cases hi with
    | none => rfl
    | some v => exact clip_eq v n n
theorem places_gen (i j : Nat) : Builtin.Slice.slicePlaces (i : Int) (j : Int) 1 = j - i := by
  unfold Builtin.Slice.slicePlaces
  have h1 : (1 : Int) > 0 := by omega
  simp only [h1, if_true, Int.ediv_one]
  split <;> omega
theorem slicePart_ {v : Value} {o : Option Int} {Q : Option Int → Shared → Prop} (p : IsPart v o) (h : Q o s) : wpAny (model prog w) A (Builtin.Slice.slicePartIndex v) Q E s := by
  cases p with
  | none => exact slicePart_none h
  | int i t => exact slicePart_int h
theorem sliceApplied_gen {sl : Addr} {vl vu : Value} {lo hi : Option Int} {n : Nat} {Q : Int × Int × Nat → Shared → Prop} (hs : s.heap.IsSliceOf sl vl vu .none) (pl : IsPart vl lo) (pu : IsPart vu hi)
    (h : Q (((sIx n 0 lo : Nat) : Int), 1, sIx n n hi - sIx n 0 lo) s) : wpAny (model prog w) A (Builtin.Slice.sliceApplied (.ref sl) (pure (n : Int))) Q E s := by
  obtain ⟨os, hos, hcs, hds⟩ := id hs
  unfold Builtin.Slice.sliceApplied Builtin.Slice.sliceFields
  refine wpAny_bind (wpAny_bind (wpAny_field hos hds (x := vl) rfl (wpAny_bind (wpAny_field hos hds (x := vu) rfl (wpAny_bind (wpAny_field hos hds (x := .none) rfl (wpAny_pure ?_)))))))
  refine wpAny_bind (slicePart_none ?_)
  show wpAny _ _ (if ((1 : Int) == 0) = true then _ else _) _ _ s
  rw [if_neg (by decide)]
  refine wpAny_bind (slicePart_ pl (wpAny_bind (slicePart_ pu (wpAny_bind (wpAny_pure ?_)))))
  show wpAny _ _ (match Builtin.Slice.sliceAdjust lo hi 1 (n : Int) with | (lo, hi) => pure (lo, (1 : Int), Builtin.Slice.slicePlaces lo hi 1)) _ _ s
  rw [adjust_gen lo hi n]
  show wpAny _ _ (pure (((sIx n 0 lo : Nat) : Int), (1 : Int), Builtin.Slice.slicePlaces ((sIx n 0 lo : Nat) : Int) ((sIx n n hi : Nat) : Int) 1)) _ _ s
  rw [places_gen]
  exact wpAny_pure h
theorem pick_gen (xs : Array Value) (i k : Nat) : ((List.range k).filterMap fun (m : Nat) => xs[((i : Int) + (m : Int) * 1).toNat]?).toArray = ((xs.toList.drop i).take k).toArray := by
  have e : (fun (m : Nat) => xs[((i : Int) + (m : Int) * 1).toNat]?) = fun m => xs[i + m]? := by
    funext m
    have : ((i : Int) + (m : Int) * 1).toNat = i + m := by omega
    rw [this]
  rw [e]
  have := pick_run xs i k
  rw [List.filterMap_map] at this
  have e2 : ((fun x => xs[x]?) ∘ fun x => i + x) = fun m => xs[i + m]? := rfl
  rw [e2] at this
  rw [this]
theorem getItem_tuple_cut {t sl : Addr} {items : Array Value} {vl vu : Value} {lo hi : Option Int} {Q : Value → Shared → Prop} (ht : IsTup s.heap t items) (hs : s.heap.IsSliceOf sl vl vu .none) (pl : IsPart vl lo) (pu : IsPart vu hi)
    (hw : ¬ (sIx items.size 0 lo = 0 ∧ sIx items.size items.size hi = items.size))
    (h : Q (.ref s.heap.objs.size) { s with heap := s.heap.push { cls := .type "tuple", data := .seq ((items.toList.drop (sIx items.size 0 lo)).take (sIx items.size items.size hi - sIx items.size 0 lo)).toArray } })
    (hsz : items.size ≤ sizeLine) : wpAny (model prog w) A (getItem (.ref t) (.ref sl)) Q E s := by
  have htake : sizeOk (.seq ((items.toList.drop (sIx items.size 0 lo)).take (sIx items.size items.size hi - sIx items.size 0 lo)).toArray) := by
    show ((items.toList.drop (sIx items.size 0 lo)).take (sIx items.size items.size hi - sIx items.size 0 lo)).toArray.size ≤ sizeLine
    rw [List.size_toArray, List.length_take, List.length_drop, Array.length_toList]
    omega
  have hj : sIx items.size items.size hi ≤ items.size := sIx_le _ _ (Nat.le_refl _) hi
  obtain ⟨os, hos, hcs, hds⟩ := id hs
  have hTs : s.TypeIs (.ref sl) "slice" := ⟨os, hos, hcs⟩
  unfold getItem
  try with_reducible refine wpAny_holding ?_
  first | refine wpAny_bind (wpAny_pure ?_) | skip
  refine wpAny_bind (wpAny_sequenceKey ht.typeIs (by decide) ?_)
  refine wpAny_bind (wpAny_callSpecial?_slot (name := Str.ofString "__getitem__") ht.typeIs PyProof.Rows.slot_tuple_getitem
    (wpAny_call_entry PyProof.Rows.slot_tuple_getitem ht.typeIs entry_tuple_getitem ?_ (args_tuple_getitem _ _)))
  show wpAny _ _ (Builtin.Tuple.tupleItemsOf (.ref t) >>= _) _ _ s
  refine wpAny_bind (tupleItemsOf_ ht ?_)
  refine wpAny_bind (wpAny_typeOf hTs ?_)
  rw [if_pos (by decide)]
  refine wpAny_bind (sliceApplied_gen hs pl pu ?_)
  have hno : ¬ ((((sIx items.size 0 lo : Nat) : Int) == 0 && (1 : Int) == 1 && (sIx items.size items.size hi - sIx items.size 0 lo) == items.size) = true) := by
    intro q
    rw [Bool.and_eq_true, Bool.and_eq_true] at q
    have q1 : ((sIx items.size 0 lo : Nat) : Int) = 0 := eq_of_beq q.1.1
    have q2 : sIx items.size items.size hi - sIx items.size 0 lo = items.size := eq_of_beq q.2
    exact hw ⟨by omega, by omega⟩
  show wpAny _ _ (if (((sIx items.size 0 lo : Nat) : Int) == 0 && (1 : Int) == 1 && (sIx items.size items.size hi - sIx items.size 0 lo) == items.size) = true then _ else _) _ _ s
  rw [if_neg hno, pick_gen]
  first
    | exact wpAny_bind (m := Builtin.Tuple.tupleExact _) (wpAny_newObj_type (wpAny_pure ⟨_, rfl, wpAny_pure h⟩) htake)
    | exact wpAny_bind (m := Builtin.Tuple.tupleExact _) (wpAny_newObj_type (wpAny_bind (wpAny_pure (wpAny_pure ⟨_, rfl, wpAny_pure h⟩))) htake)
    | exact wpAny_bind (wpAny_bind (m := Builtin.Tuple.tupleExact _) (wpAny_newObj_type (wpAny_pure (wpAny_pure ⟨_, rfl, wpAny_pure h⟩)) htake))
    | exact wpAny_bind (wpAny_bind (m := Builtin.Tuple.tupleExact _) (wpAny_newObj_type (wpAny_pure ⟨_, rfl, wpAny_pure h⟩) htake))
end
end HT
namespace L2
open PySem PySem.Spec PyProof.Rows
abbrev TO := St → Hp → (Option Int → Hp → Prop) → Prop
def PO (X : Cx) (e : Option Expr) (t : TO) : Prop :=
  ∀ (pins : List (Addr × Obj)) (s : Shared) (σ : St) (H : Hp) (Q : Option Int → Hp → Prop), Inv X pins σ H s → t σ H Q →
    wpAny (model X.prog X.w) X.A (evalPart e X.env) (fun u s' => ∃ o H', Inv X pins σ H' s' ∧ IsPart u o ∧ Q o H') X.xe s
def tNoPart : TO := fun _ H Q => Q none H
def tPart (t : TE) : TO := fun σ H Q => t σ H fun x H1 => ∃ i, x = .int i ∧ Q (some i) H1
theorem intsAre_of {ns : List Int} : ∀ {us : List Value}, Vals (ns.map V.int) us → IntsAre us ns := by
  induction ns with
  | nil => intro us r; rw [List.map_nil] at r; cases r; exact .nil
  | cons n ns ih =>
    intro us r
    rw [List.map_cons] at r
    cases r with
    | cons r1 r2 =>
      obtain ⟨t, e⟩ := r1
      subst e
      exact .cons n t (ih r2)
section
variable {X : Cx} {e : Expr} {te : TE} {lo hi : Option Expr} {tl th : TO} {pos p2 : Pos}
theorem po_none : PO X none tNoPart := by
  intro pins s σ H Q I h
  rw [evalPart_none]
  exact wpAny_pure ⟨none, H, I, .none, h⟩
theorem po_some (h : PE X e te) : PO X (some e) (tPart te) := by
  intro pins s σ H Q I hw
  rw [evalPart_some]
  refine thn (h pins s σ H _ I hw) fun u s1 ⟨x, H1, I1, r1, q1⟩ => ?_
  obtain ⟨i, rfl, q⟩ := q1
  obtain ⟨t, rfl⟩ := r1
  exact ⟨some i, H1, I1, .int i t, q⟩
def SlR (X : Cx) (r : V → Option Int → Option Int → Hp → VK → Prop) : Prop :=
  ∀ (pins : List (Addr × Obj)) (s : Shared) (σ : St) (H : Hp) (x : V) (v vl vu : Value) (lo hi : Option Int) (sl : Addr) (Q : VK), Inv X pins σ H s → RelV x v → s.heap.IsSliceOf sl vl vu .none → IsPart vl lo → IsPart vu hi → r x lo hi H Q →
    ∃ T id, typeLookup (.type T) "__getitem__" = pure (some (.builtin id)) ∧ s.TypeIs v T ∧ wpAny (model X.prog X.w) X.A (getItem v (.ref sl)) (EP X pins σ Q) X.xe s
def tSl (r : V → Option Int → Option Int → Hp → VK → Prop) (te : TE) (tl th : TO) : TE := fun σ H Q => te σ H fun x H1 => tl σ H1 fun l H2 => th σ H2 fun u H3 => r x l u H3 Q
theorem pe_slice {r : V → Option Int → Option Int → Hp → VK → Prop} (hr : SlR X r) (he : PE X e te) (hl : PO X lo tl) (hu : PO X hi th) : PE X (.Subscript e (.Slice lo hi none p2) pos) (tSl r te tl th) := by
  intro pins s σ H Q I h
  refine Subscript_ (thn (he pins s σ H _ I h) fun v s1 ⟨x, H1, I1, r1, q1⟩ => ?_)
  refine wpAny_Slice (thn (hl pins s1 σ H1 _ I1 q1) fun vl s2 ⟨l, H2, I2, pl, q2⟩ => thn (hu pins s2 σ H2 _ I2 q2) fun vu s3 ⟨u, H3, I3, pu, q3⟩ => ?_)
  rw [evalPart_none]
  refine wpAny_pure ?_
  have I4 : Inv X pins σ H3 { s3 with heap := s3.heap.push { cls := .type "slice", data := .fields #[vl, vu, .none] } } := I3.kept (t' := s3.toks) fun b ob q => Heap.get?_push_of_some _ q
  obtain ⟨T, id, hT, ht, hg⟩ := hr pins { s3 with heap := s3.heap.push { cls := .type "slice", data := .fields #[vl, vu, .none] } } σ H3 x v vl vu l u s3.heap.objs.size Q I4 r1 (Heap.IsSliceOf.new ..) pl pu q3
  show wpAny (model X.prog X.w) X.A (subscriptTail e (.Slice lo hi none p2) v (.ref s3.heap.objs.size)) (EP X pins σ Q) X.xe { s3 with heap := s3.heap.push { cls := .type "slice", data := .fields #[vl, vu, .none] } }
  exact tail_any (ops := [.ref s3.heap.objs.size, v]) ht hT hg (by with_unfolding_all rfl)
def cutV (xs : List V) (lo hi : Option Int) : List V := (xs.drop (HT.sIx xs.length 0 lo)).take (HT.sIx xs.length xs.length hi - HT.sIx xs.length 0 lo)
theorem cutV_length (xs : List V) (lo hi : Option Int) : (cutV xs lo hi).length ≤ xs.length := by
  unfold cutV
  rw [List.length_take, List.length_drop]
  omega
def rSlT (K : PySem.W.Frag) : V → Option Int → Option Int → Hp → VK → Prop := fun x lo hi H Q => ∃ a xs, x = .ref a ∧ SqT K H a xs ∧
  ¬ (HT.sIx xs.length 0 lo = 0 ∧ HT.sIx xs.length xs.length hi = xs.length) ∧ ∀ p, H p = none → Q (.ref p) (upd H p (.tup (cutV xs lo hi)))
theorem sl_tup : SlR X (rSlT X.K) := by
  intro pins s σ H x v vl vu lo hi sl Q I rx hs pl pu h
  obtain ⟨a, xs, rfl, hx, hw, q⟩ := h
  cases rx
  obtain ⟨its, r, ht, hz⟩ := I.tuple hx
  have hlen : its.toArray.size = xs.length := by rw [List.size_toArray]; exact r.length.symm
  refine ⟨"tuple", _, PyProof.Rows.slot_tuple_getitem.lookup, ht.typeIs, ?_⟩
  refine HT.getItem_tuple_cut ht hs pl pu (by rw [hlen]; exact hw) ?_ (by rw [hlen]; exact hz)
  rw [hlen]
  refine ⟨.ref s.heap.objs.size, _, I.laid (t' := s.toks) (o := .tup (cutV xs lo hi)) (fun b ob q => Heap.get?_push_of_some _ q) (Nat.le_refl _) ?_, rfl, q _ (I.hok.fresh (Nat.le_refl _))⟩
  exact ⟨Nat.le_trans (cutV_length xs lo hi) hz, _, (r.drop (HT.sIx xs.length 0 lo)).take (HT.sIx xs.length xs.length hi - HT.sIx xs.length 0 lo), IsTup.new _ _⟩
end
end L2
namespace L2
open PySem PySem.Spec PyProof.Rows
def ixN (n : Nat) (i : Int) : Option Nat := if 0 ≤ i then (if i < n then some i.toNat else none) else if -(n : Int) ≤ i then some (i + n).toNat else none
def atI {α : Type} (xs : List α) (i : Int) : Option α := (ixN xs.length i).bind fun j => xs[j]?
theorem ixN_seq {n : Nat} {i : Int} {j : Nat} (h : ixN n i = some j) : seqIndex? i n = some j ∧ j < n ∧ -(n : Int) ≤ i ∧ i < n := by
  unfold ixN at h
  by_cases h0 : 0 ≤ i
  · rw [if_pos h0] at h
    by_cases h1 : i < n
    · rw [if_pos h1] at h
      have e : i.toNat = j := Option.some.inj h
      exact ⟨by rw [seqIndex_of h0 h1, e], by omega, by omega, h1⟩
    · rw [if_neg h1] at h; cases h
  · rw [if_neg h0] at h
    by_cases h1 : -(n : Int) ≤ i
    · rw [if_pos h1] at h
      have e : (i + n).toNat = j := Option.some.inj h
      exact ⟨by rw [seqIndex_neg (by omega) h1, e], by omega, h1, by omega⟩
    · rw [if_neg h1] at h; cases h
theorem atI_get {α : Type} {xs : List α} {i : Int} {v : α} (h : atI xs i = some v) : ∃ j, seqIndex? i xs.length = some j ∧ xs[j]? = some v ∧ j < xs.length ∧ -(xs.length : Int) ≤ i ∧ i < xs.length := by
  unfold atI at h
  cases e : ixN xs.length i with
  | none => rw [e] at h; cases h
  | some j =>
    rw [e] at h
    obtain ⟨h1, h2, h3, h4⟩ := ixN_seq e
    exact ⟨j, h1, h, h2, h3, h4⟩
theorem atI_nat {α : Type} {xs : List α} {j : Nat} {v : α} (h : xs[j]? = some v) : atI xs (j : Int) = some v := by
  have hj : j < xs.length := (List.getElem?_eq_some_iff.mp h).1
  have e : ixN xs.length (j : Int) = some j := by
    unfold ixN
    rw [if_pos (by omega), if_pos (by omega)]; simp
  unfold atI; rw [e]; exact h
theorem atI_last {α : Type} (xs : List α) (v : α) : atI (xs ++ [v]) (-1) = some v := by
  have hl : (xs ++ [v]).length = xs.length + 1 := by simp
  have e : ixN (xs ++ [v]).length (-1) = some xs.length := by
    unfold ixN
    rw [hl, if_neg (by decide), if_pos (by omega)]
    congr 1
    omega
  unfold atI
  rw [e]
  show (xs ++ [v])[xs.length]? = some v
  simp
def PlainIx (b : Expr) : Prop := ∀ o i, subscripted b false o i = operate [o, i] (getItem o i)
def IxR (X : Cx) (r : R2) : Prop :=
  ∀ (value slice : Expr) (pins : List (Addr × Obj)) (s : Shared) (σ : St) (H : Hp) (x y : V) (v u : Value) (Q : VK), Inv X pins σ H s → RelV x v → RelV y u → r x y H Q →
    subscripted slice false v u = operate [v, u] (getItem v u) → wpAny (model X.prog X.w) X.A (subscriptTail value slice v u) (EP X pins σ Q) X.xe s
def MtR (X : Cx) (id : String) (r : V → List V → Hp → VK → Prop) : Prop :=
  ∀ (pins : List (Addr × Obj)) (s : Shared) (σ : St) (H : Hp) (x : V) (xs : List V) (v : Value) (us : List Value) (Q : VK), Inv X pins σ H s → RelV x v → Vals xs us → r x xs H Q →
    wpAny (model X.prog X.w) X.A (call (.builtin id) (v :: us)) (EP X pins σ Q) X.xe s
section
variable {X : Cx} {a b : Expr} {ta tb : TE} {pos : Pos}
theorem pe_ix {r : R2} (hr : IxR X r) (ha : PE X a ta) (hb : PE X b tb) (hs : PlainIx b) : PE X (.Subscript a b pos) (tOp r ta tb) := by
  intro pins s σ H Q I h
  exact Subscript_ (binT ha hb I h fun v u s2 x y H2 I2 rx ry q => hr a b pins s2 σ H2 x y v u Q I2 rx ry q (hs _ _))
def rIxL (K : PySem.W.Frag) : R2 := fun x y H Q => ∃ p xs i v, x = .ref p ∧ y = .int i ∧ SqL K H p xs ∧ atI xs i = some v ∧ Q v H
def rIxT (K : PySem.W.Frag) : R2 := fun x y H Q => ∃ p xs i v, x = .ref p ∧ y = .int i ∧ SqT K H p xs ∧ atI xs i = some v ∧ Q v H
def rIxS : R2 := fun x y H Q => ∃ z i c, x = .str z ∧ y = .int i ∧ z.length ≤ sizeLine ∧ atI z.cps.toList i = some c ∧ Q (.str ⟨#[c]⟩) H
theorem ix_list : IxR X (rIxL X.K) := by
  intro value slice pins s σ H x y v u Q I rx ry h hs
  obtain ⟨p, xs, i, z, rfl, rfl, hq, he, q⟩ := h
  cases rx
  obtain ⟨t, rfl⟩ := ry
  obtain ⟨its, r, pl, hz⟩ := I.list hq
  obtain ⟨j, h1, h2, h3, h4, h5⟩ := atI_get he
  obtain ⟨w, ew, rw'⟩ := r.get h2
  have hl := r.length
  have hn := line63
  have fin : EP X pins σ Q w s := ⟨z, H, I, rw', q⟩
  by_cases h0 : 0 ≤ i
  · have hj : i.toNat = j := by
      rw [seqIndex_of h0 h5] at h1
      exact Option.some.inj h1
    exact item_listR pl.isList h0 (by omega) (by rw [hj]; simpa using ew) fin hs
  · have hj : (i + (its.toArray.size : Int)).toNat = j := by
      rw [seqIndex_neg (by omega) h4] at h1
      rw [List.size_toArray, ← hl]
      exact Option.some.inj h1
    exact subscriptTail_builtinR (x := w) pl.isList.typeIs slot_list_getitem.lookup
      (wpAny_getItem_list_neg (Q := fun r s' => r = w ∧ EP X pins σ Q r s') pl.isList (by omega) (by rw [List.size_toArray] <;> omega) (by omega) (by rw [hj]; simpa using ew) ⟨rfl, fin⟩) hs
theorem ix_tup : IxR X (rIxT X.K) := by
  intro value slice pins s σ H x y v u Q I rx ry h hs
  obtain ⟨p, xs, i, z, rfl, rfl, hq, he, q⟩ := h
  cases rx
  obtain ⟨t, rfl⟩ := ry
  obtain ⟨its, r, pl, hz⟩ := I.tuple hq
  obtain ⟨j, h1, h2, h3, h4, h5⟩ := atI_get he
  obtain ⟨w, ew, rw'⟩ := r.get h2
  have hl := r.length
  have hn := line63
  have fin : EP X pins σ Q w s := ⟨z, H, I, rw', q⟩
  exact subscriptTail_builtinR (x := w) pl.typeIs slot_tuple_getitem.lookup
    (getItem_tuple (j := j) (Q := fun r s' => r = w ∧ EP X pins σ Q r s') pl (by omega) (by omega) (by rw [List.size_toArray, ← hl]; exact h1) (by simpa using ew) ⟨rfl, fin⟩) hs
theorem ix_str : IxR X rIxS := by
  intro value slice pins s σ H x y v u Q I rx ry h hs
  obtain ⟨z, i, c, rfl, rfl, hz, he, q⟩ := h
  obtain ⟨t, rfl⟩ := rx
  obtain ⟨t', rfl⟩ := ry
  obtain ⟨j, h1, h2, h3, h4, h5⟩ := atI_get he
  have hl : z.cps.toList.length = z.length := by simp [Str.length]
  rw [hl] at h1 h4 h5
  have hn := line63
  exact tail_any (typeIs_str s z t) slot_str_getitem.lookup (getItem_str (c := c) (by
    have e1 : decide (i < -(2 ^ 63 : Int)) = false := decide_eq_false (by omega)
    have e2 : decide (i ≥ 2 ^ 63) = false := decide_eq_false (by omega)
    rw [e1, e2, Bool.or_false]) (by rw [h1]; simpa using h2) ⟨.str ⟨#[c]⟩, H, I.tok _, ⟨_, rfl⟩, q⟩) hs
theorem mapSeq_set (its : List Value) (n j : Nat) (u : Value) : Obj.mapSeq (·.setIfInBounds j u) { cls := .type "list", data := .seq its.toArray n } = { cls := .type "list", data := .seq (its.set j u).toArray n } := by
  simp [Obj.mapSeq]
theorem Inv.lst {pins : List (Addr × Obj)} {σ : St} {H : Hp} {s : Shared} {p : Addr} {xs : List V} (I : Inv X pins σ H s) (h : H p = some (.lst xs)) :
    ∃ (its : List Value) (n : Nat), Vals xs its ∧ s.heap.get? p = some { cls := .type "list", data := .seq its.toArray n } ∧ xs.length ≤ sizeLine := by
  obtain ⟨z, its, n, r, e⟩ := I.hok p _ h
  exact ⟨its, n, r, e, z⟩
theorem Inv.lstUpd {pins : List (Addr × Obj)} {σ : St} {H : Hp} {s : Shared} {p : Addr} {xs ys : List V} {its its' : List Value} {n n' : Nat} {f : Obj → Obj} (I : Inv X pins σ H s) (h : H p = some (.lst xs))
    (ho : s.heap.get? p = some { cls := .type "list", data := .seq its.toArray n }) (hf : f { cls := .type "list", data := .seq its.toArray n } = { cls := .type "list", data := .seq its'.toArray n' }) (r : Vals ys its') (hz : ys.length ≤ sizeLine) (t : Nat) :
    Inv X pins σ (upd H p (.lst ys)) { s with heap := s.heap.update p f, toks := t } := by
  have e : (s.heap.update p f).get? p = some { cls := .type "list", data := .seq its'.toArray n' } := by
    rw [Heap.get?_update_self f ho (by rw [hf] <;> rfl), hf]
  refine I.write (x := p) (e := p) (by rw [h]; trivial) (.inl rfl) (fun b u hb q => (Heap.get?_update_other _ _ (Ne.symm hb)).trans q) ⟨_, e⟩ ?_
  exact ⟨hz, its', n', r, e⟩
def rSetL : V → V → V → Hp → (Hp → Prop) → Prop := fun o i v H Q => ∃ p xs k j, o = .ref p ∧ i = .int k ∧ H p = some (.lst xs) ∧ ixN xs.length k = some j ∧ Q (upd H p (.lst (xs.set j v)))
theorem set_list : PSet X rSetL := by
  intro pins s σ H o i v ov iv u Q I ro ri rv h
  obtain ⟨p, xs, k, j, rfl, rfl, hp, hj, q⟩ := h
  cases ro
  obtain ⟨t, rfl⟩ := ri
  obtain ⟨its, n, r, ho, hz⟩ := I.lst hp
  obtain ⟨h1, h2, h3, h4⟩ := ixN_seq hj
  have hl := r.length
  have hn := line63
  have I' : Inv X pins σ (upd H p (.lst (xs.set j v))) { s with heap := s.heap.update p (Obj.mapSeq (·.setIfInBounds j u)) } :=
    I.lstUpd hp ho (mapSeq_set its n j u) (r.set rv j) (by rw [List.length_set]; exact hz) s.toks
  by_cases h0 : 0 ≤ k
  · have hk : k.toNat = j := by
      rw [seqIndex_of h0 h4] at h1
      exact Option.some.inj h1
    exact PySem.W.ki_setAt ho h0 (by omega) (by rw [List.size_toArray, ← hl]; exact h4) (by rw [hk]; exact ⟨_, I', q⟩)
  · have hk : (k + (its.toArray.size : Int)).toNat = j := by
      rw [seqIndex_neg (by omega) h3] at h1
      rw [List.size_toArray, ← hl]
      exact Option.some.inj h1
    exact PySem.W.ki_setBack ho (by omega) (by rw [List.size_toArray, ← hl]; exact h3) (by omega) (by rw [hk]; exact ⟨_, I', q⟩)
theorem slice_bounds (lo hi : Option Int) (n : Nat) : (sliceBounds lo hi none n).1 = ((HT.sIx n 0 lo : Nat) : Int) ∧ (sliceBounds lo hi none n).2.1 = ((HT.sIx n n hi : Nat) : Int) ∧ (sliceBounds lo hi none n).2.2 = 1 := by
  refine ⟨?_, ?_, rfl⟩
  · cases lo with
    | none => simp [sliceBounds, HT.sIx]
    | some i =>
      simp only [sliceBounds, HT.sIx, Option.getD_none, show (1 : Int) > 0 by decide, if_true]
      by_cases h : i < 0
      · simp only [h, if_true] <;> omega
      · simp only [h, if_false] <;> omega
  · cases hi with
    | none => simp [sliceBounds, HT.sIx]
    | some i =>
      simp only [sliceBounds, HT.sIx, Option.getD_none, show (1 : Int) > 0 by decide, if_true]
      by_cases h : i < 0
      · simp only [h, if_true] <;> omega
      · simp only [h, if_false] <;> omega
theorem slicePick_cut (its : List Value) (lo hi : Option Int) : slicePick its.toArray lo hi none = ((its.drop (HT.sIx its.length 0 lo)).take (HT.sIx its.length its.length hi - HT.sIx its.length 0 lo)).toArray := by
  obtain ⟨h1, h2, h3⟩ := slice_bounds lo hi its.toArray.size
  unfold slicePick
  rw [h1, h2, h3]
  simp only [sliceRange_one, pick_run, List.size_toArray] <;> rfl
def rSlL (K : PySem.W.Frag) : V → Option Int → Option Int → Hp → VK → Prop := fun x lo hi H Q => ∃ a xs, x = .ref a ∧ SqL K H a xs ∧ ∀ p, H p = none → Q (.ref p) (upd H p (.lst (cutV xs lo hi)))
theorem sl_list : SlR X (rSlL X.K) := by
  intro pins s σ H x v vl vu lo hi sl Q I rx hs pl pu h
  obtain ⟨a, xs, rfl, hx, q⟩ := h
  cases rx
  obtain ⟨its, r, ht, hz⟩ := I.list hx
  have hlen := r.length
  refine ⟨"list", _, slot_list_getitem.lookup, ht.isList.typeIs, ?_⟩
  refine wpAny_getItem_list_slice ht.isList hs pl pu .none (by simp) ?_ (by rw [List.size_toArray] <;> omega)
  rw [slicePick_cut, ← hlen]
  refine ⟨.ref s.heap.objs.size, _, I.laid (t' := s.toks) (o := .lst (cutV xs lo hi)) (fun b ob q => Heap.get?_push_of_some _ q) (Nat.le_refl _) ?_, rfl, q _ (I.hok.fresh (Nat.le_refl _))⟩
  exact ⟨Nat.le_trans (cutV_length xs lo hi) hz, _, 0, (r.drop (HT.sIx xs.length 0 lo)).take (HT.sIx xs.length xs.length hi - HT.sIx xs.length 0 lo), Heap.get?_push_size _ rfl⟩
def flatV : V → Bool
  | .non => true
  | .bl _ => true
  | .int _ => true
  | .str _ => true
  | _ => false
def eqV : V → V → Bool
  | .non, .non => true
  | .bl a, .bl b => a == b
  | .bl a, .int b => (if a then 1 else 0) == b
  | .int a, .bl b => a == (if b then 1 else 0)
  | .int a, .int b => a == b
  | .str a, .str b => a == b
  | _, _ => false
theorem eqAt_V {A : Around} {s : Shared} {y x : V} {u v : Value} (ry : RelV y u) (rx : RelV x v) (fy : flatV y = true) (fx : flatV x = true) : SeqAt.EqAt A s u v (eqV y x) := by
  cases y with
  | non =>
    cases ry
    cases x with
    | non => cases rx; exact SeqAt.EqAt.same _
    | bl b => cases rx; exact SeqAt.EqAt.none_bool b
    | int b => obtain ⟨t, rfl⟩ := rx; exact SeqAt.EqAt.none_int b t
    | str b => obtain ⟨t, rfl⟩ := rx; exact SeqAt.EqAt.none_str b t
    | _ => exact absurd (show false = true from fx) Bool.false_ne_true
  | bl a =>
    cases ry
    cases x with
    | non => cases rx; exact SeqAt.EqAt.bool_none a
    | bl b => cases rx; exact SeqAt.EqAt.bool_bool a b
    | int b => obtain ⟨t, rfl⟩ := rx; exact SeqAt.EqAt.bool_int a b t
    | str b => obtain ⟨t, rfl⟩ := rx; exact SeqAt.EqAt.bool_str a b t
    | _ => exact absurd (show false = true from fx) Bool.false_ne_true
  | int a =>
    obtain ⟨t', rfl⟩ := ry
    cases x with
    | non => cases rx; exact SeqAt.EqAt.int_none a t'
    | bl b => cases rx; exact SeqAt.EqAt.int_bool a t' b
    | int b => obtain ⟨t, rfl⟩ := rx; exact SeqAt.EqAt.int_int a t' b t
    | str b => obtain ⟨t, rfl⟩ := rx; exact SeqAt.EqAt.int_str a t' b t
    | _ => exact absurd (show false = true from fx) Bool.false_ne_true
  | str a =>
    obtain ⟨t', rfl⟩ := ry
    cases x with
    | non => cases rx; exact SeqAt.EqAt.str_none a t'
    | bl b => cases rx; exact SeqAt.EqAt.str_bool a t' b
    | int b => obtain ⟨t, rfl⟩ := rx; exact SeqAt.EqAt.str_int a t' b t
    | str b => obtain ⟨t, rfl⟩ := rx; exact SeqAt.EqAt.str_str a t' b t
    | _ => exact absurd (show false = true from fx) Bool.false_ne_true
  | _ => exact absurd (show false = true from fy) Bool.false_ne_true
theorem call_len_seq : CallR X (.builtin "len") (fun xs H Q => ∃ p ys, xs = [.ref p] ∧ (SqL X.K H p ys ∨ SqT X.K H p ys) ∧ Q (.int ys.length) H) := by
  intro pins s σ H xs us Q I r h
  obtain ⟨p, ys, rfl, hq, q⟩ := h
  obtain ⟨u, rfl, rx⟩ := vals1 r
  cases rx
  have hn := line63
  rcases hq with hq | hq
  · obtain ⟨its, r', pl, hz⟩ := I.list hq
    have hlen := r'.length
    exact Calls.call_len_list pl.isList (by simp only [List.size_toArray] <;> omega) ⟨.int ys.length, H, I.tok _, ⟨s.toks + 1, by rw [List.size_toArray, hlen]⟩, q⟩
  · obtain ⟨its, r', pl, hz⟩ := I.tuple hq
    have hlen := r'.length
    exact len_tuple pl (by simp only [List.size_toArray] <;> omega) ⟨.int ys.length, H, I.tok _, ⟨s.toks + 1, by rw [List.size_toArray, hlen]⟩, q⟩
theorem call_list_of : CallR X (.type "list") (fun xs H Q => ∃ p ys, xs = [.ref p] ∧ (SqL X.K H p ys ∨ SqT X.K H p ys) ∧ ∀ l, H l = none → Q (.ref l) (upd H l (.lst ys))) := by
  intro pins s σ H xs us Q I r h
  obtain ⟨p, ys, rfl, hq, q⟩ := h
  obtain ⟨u, rfl, rx⟩ := vals1 r
  cases rx
  have fin : ∀ (its : List Value), Vals ys its → ys.length ≤ sizeLine → ∀ (h' : Heap) (c' : Nat), (∀ b o', s.heap.get? b = some o' → h'.get? b = some o') →
      h'.get? s.heap.objs.size = some { cls := .type "list", dict := none, data := .seq its.toArray c', slots := #[] } → EP X pins σ Q (.ref s.heap.objs.size) { s with heap := h' } := fun its r' hz h' c' kp e =>
    ⟨.ref s.heap.objs.size, _, I.laid (t' := s.toks) kp (Nat.le_refl _) (show ObjOk X.prog X.w _ h' _ (.lst ys) from ⟨hz, its, c', r', e⟩), rfl, q _ (I.hok.fresh (Nat.le_refl _))⟩
  rcases hq with hq | hq
  · obtain ⟨its, r', pl, hz⟩ := I.list hq
    have hlen := r'.length
    obtain ⟨o, ho, hc, n, hd⟩ := pl.isList
    exact call_list_seq p (.inl rfl) ho hc hd (fun h' c' kp e => fin its r' hz h' c' kp e) (by simp only [List.size_toArray] <;> omega)
  · obtain ⟨its, r', pl, hz⟩ := I.tuple hq
    have hlen := r'.length
    obtain ⟨o, ho, hc, n, hd⟩ := pl
    exact call_list_seq p (.inr rfl) ho hc hd (fun h' c' kp e => fin its r' hz h' c' kp e) (by simp only [List.size_toArray] <;> omega)
def tyV (K : PySem.W.Frag) (T : String) (x : V) (H : Hp) : Prop := match x with
  | .str _ => T = "str"
  | .int _ => T = "int"
  | .ref p => (T = "list" ∧ ∃ xs, SqL K H p xs) ∨ (T = "tuple" ∧ ∃ o, K.lookup p = some o ∧ o.cls = .type "tuple" ∧ o.dict = none) ∨
      (T = "dict" ∧ ((∃ kvs, H p = some (.dK kvs)) ∨ ∃ kvs, H p = some (.dT kvs))) ∨ (T = "set" ∧ ∃ S n, H p = some (.set S n))
  | _ => False
theorem tyV_is {pins : List (Addr × Obj)} {σ : St} {H : Hp} {s : Shared} {T : String} {x : V} {v : Value} (I : Inv X pins σ H s) (r : RelV x v) (ty : tyV X.K T x H) :
    s.TypeIs v T ∧ ∀ a, v = .ref a → ∃ ob, s.heap.get? a = some ob ∧ ob.dict = none := by
  cases x with
  | str z =>
    obtain ⟨t, rfl⟩ := r
    cases (show T = "str" from ty)
    exact ⟨typeIs_str s z t, fun _ e => nomatch e⟩
  | int i =>
    obtain ⟨t, rfl⟩ := r
    cases (show T = "int" from ty)
    exact ⟨typeIs_int s i t, fun _ e => nomatch e⟩
  | ref p =>
    cases r
    rcases ty with ⟨rfl, xs, hq⟩ | ⟨rfl, o, hk, hc, hd⟩ | ⟨rfl, hk⟩ | ⟨rfl, S, n, hk⟩
    · obtain ⟨its, _, pl, _⟩ := I.list hq
      refine ⟨pl.isList.typeIs, fun a e => ?_⟩
      cases e
      obtain ⟨o, n, e, c, hd, _⟩ := pl
      exact ⟨o, e, hd⟩
    · refine ⟨⟨o, I.kIn p o hk, hc⟩, fun a e => ?_⟩
      cases e
      exact ⟨o, I.kIn _ o hk, hd⟩
    · have z : ∃ o, s.heap.get? p = some o ∧ o.ExactDict := by
        rcases hk with ⟨kvs, hk⟩ | ⟨kvs, hk⟩
        · obtain ⟨_, _, _, _, o, _, _, e, ex, _⟩ := I.hok p _ hk
          exact ⟨o, e, ex⟩
        · obtain ⟨_, _, _, _, o, _, _, e, ex, _⟩ := I.hok p _ hk
          exact ⟨o, e, ex⟩
      obtain ⟨o, e, ex⟩ := z
      refine ⟨⟨o, e, ex.1⟩, fun a e2 => ?_⟩
      cases e2
      exact ⟨o, e, ex.2.1⟩
    · obtain ⟨o, _, _, _, e, ex, _⟩ := I.hok p _ hk
      refine ⟨⟨o, e, ex.1⟩, fun a e2 => ?_⟩
      cases e2
      exact ⟨o, e, ex.2.1⟩
  | _ => exact False.elim ty
def tBM (K : PySem.W.Frag) (T : String) (r : V → List V → Hp → VK → Prop) (to : TE) (t : TA) : TE := fun σ H Q => to σ H fun x H1 => tyV K T x H1 ∧ t σ H1 fun xs H2 => r x xs H2 Q
variable {o e : Expr} {es : List Expr} {to : TE} {t : TA} {name : Str} {apos cpos : Pos} {T id : String} {r : V → List V → Hp → VK → Prop}
theorem pe_bm (pa : PlainAttrs T) (slot : Slot T name id) (hty : typeOf (.builtin id) = pure (.type "method_descriptor")) (hm : MtR X id r) (ho : PE X o to) (ha : PA X (e :: es) t)
    (hbase : attributeBase o name X.env (eval o X.env) = eval o X.env := by rfl)
    (hfew : ((backTo cpos (starEach (e :: es) X.env)).all (fun x => !x.1) && (backToKw cpos (keywordEach [] X.env)).all (fun x => x.1.isSome)
      && decide ((e :: es).length + ([] : List Keyword).length + (if ([] : List Keyword).isEmpty then 0 else 1) < 30)) = true := by rfl)
    (hline : (apos.endLine == cpos.line) = true := by rfl) (hs : starEach (e :: es) X.env = (false, eval e X.env) :: starEach es X.env := by rfl) (hplain : (backTo cpos (starEach es X.env)).any (·.1) = false := by rfl) :
    PE X (.Call (.Attribute o name apos) (e :: es) [] cpos) (tBM X.K T r to t) := by
  intro pins s σ H Q I h
  refine wpAny_Call_method_late hbase hfew hline rfl (thn (ho pins s σ H _ I h) fun v s1 ⟨x, H1, I1, r1, ty, q1⟩ => ?_)
  obtain ⟨h1, h2⟩ := tyV_is I1 r1 ty
  refine ⟨T, id, pa, slot, hty, h1, h2, ?_⟩
  have hA := ha cpos pins s1 σ H1 _ I1 q1
  rw [hs] at hA ⊢
  refine Calls.callWith_builtin (by show (false || (backTo cpos (starEach es X.env)).any (·.1)) = false; rw [hplain] <;> rfl) (Calls.evalArgs_plain ?_)
  exact thn hA fun us s2 ⟨vs, H2, I2, r2, q2⟩ => hm pins s2 σ H2 x vs v us Q I2 r1 r2 q2
/- xs.append(e), list.index on a module's tuple .. are MtR facts of 06m -/
end
end L2
namespace L2
open PySem PySem.Spec PyProof.Rows
def MtM (X : Cx) (id : String) (r : V → List V → Hp → VK → Prop) : Prop :=
  ∀ (pins : List (Addr × Obj)) (s : Shared) (σ : St) (H : Hp) (x : V) (xs : List V) (v : Value) (us : List Value) (Q : VK), Inv X pins σ H s → RelV x v → Vals xs us → r x xs H Q →
    wpAny (model X.prog X.w) X.A (call (.builtin id) (v :: us)) (EP X pins σ Q) X.xe s
theorem Vals.one : ∀ {x : V} {us : List Value}, Vals [x] us → ∃ u, us = [u] ∧ RelV x u
  | _, _, .cons r .nil => ⟨_, rfl, r⟩
section
variable {X : Cx} {pins : List (Addr × Obj)} {σ : St} {H : Hp} {s : Shared} {l b : Addr} {xs ys zs : List V}
theorem Inv.lset {its its' : List Value} {n : Nat} {f : Array Value → Array Value} {t' : Nat} (I : Inv X pins σ H s) (hH : H l = some (.lst xs))
    (e : s.heap.get? l = some { cls := .type "list", data := .seq its.toArray n }) (hf : f its.toArray = its'.toArray) (hv : Vals ys its') (hz : ys.length ≤ sizeLine) :
    Inv X pins σ (upd H l (.lst ys)) { s with heap := s.heap.update l (Obj.mapSeq f), toks := t' } := by
  have q := PySem.IsL.update e f
  rw [hf] at q
  refine I.write (x := l) (e := l) (by rw [hH]; exact trivial) (.inl rfl) (fun b' u hb hu => (Heap.get?_update_other s.heap (Obj.mapSeq f) (Ne.symm hb)).trans hu) ⟨_, q⟩ ?_
  exact ⟨hz, its', _, hv, q⟩
theorem Inv.lnew {its : List Value} {t' : Nat} (I : Inv X pins σ H s) (hv : Vals ys its) (hz : ys.length ≤ sizeLine) :
    Inv X pins σ (upd H s.heap.objs.size (.lst ys)) { s with heap := s.heap.push { cls := .type "list", data := .seq its.toArray }, toks := t' } :=
  I.laid (fun _ _ q => Heap.get?_push_of_some _ q) (Nat.le_refl _) ⟨hz, its, 0, hv, Heap.get?_push_size _ rfl⟩
theorem Inv.fresh (I : Inv X pins σ H s) : H s.heap.objs.size = none := I.hok.fresh (Nat.le_refl _)
theorem Inv.lstM (I : Inv X pins σ H s) (hH : H l = some (.lst xs)) : xs.length ≤ sizeLine ∧ ∃ (its : List Value) (n : Nat), Vals xs its ∧ xs.length = its.length ∧ s.heap.get? l = some { cls := .type "list", data := .seq its.toArray n } := by
  obtain ⟨z, its, n, r, e⟩ := I.hok l _ hH
  exact ⟨z, its, n, r, r.length, e⟩
end
section
variable {X : Cx}
def rAppend : V → List V → Hp → VK → Prop := fun x vs H Q => ∃ l xs y, x = .ref l ∧ vs = [y] ∧ H l = some (.lst xs) ∧ xs.length < sizeLine ∧ Q .non (upd H l (.lst (xs ++ [y])))
theorem mt_append : MtM X "list.append" rAppend := by
  intro pins s σ H x vs v us Q I rx rv h
  obtain ⟨l, xs, y, rfl, rfl, hH, hz, q⟩ := h
  cases rx
  obtain ⟨u, rfl, ru⟩ := rv.one
  obtain ⟨z, its, n, r, hl, e⟩ := I.lstM hH
  refine call_meets F.slot_list_append ⟨_, e, rfl⟩ F.entry_list_append (F.args_list_append_2 _ _) (PySem.list_append l its.toArray n u (by rw [List.size_toArray]; omega)) ⟨e, ?_⟩
  refine ⟨.non, _, I.lset (its' := its ++ [u]) hH e (by simp) (r.append (.cons ru .nil)) ?_, rfl, q⟩
  rw [List.length_append, List.length_singleton]
  omega
def rCat : R2 := fun x y H Q => ∃ l b xs zs, x = .ref l ∧ y = .ref b ∧ H l = some (.lst xs) ∧ H b = some (.lst zs) ∧ xs.length + zs.length ≤ sizeLine ∧ ∀ p, H p = none → Q (.ref p) (upd H p (.lst (xs ++ zs)))
theorem op_cat : OpR X (binaryOp .Add) rCat := by
  intro pins s σ H x y v u Q I rx ry h
  obtain ⟨l, b, xs, zs, rfl, rfl, hH, hB, hz, q⟩ := h
  cases rx
  cases ry
  obtain ⟨z, its, n, r, hl, e⟩ := I.lstM hH
  obtain ⟨z2, its2, n2, r2, hl2, e2⟩ := I.lstM hB
  refine PySem.P.add_list e e2 ?_ (by rw [List.size_toArray, List.size_toArray]; omega)
  have ea : its.toArray ++ its2.toArray = (its ++ its2).toArray := by simp
  rw [ea]
  exact ⟨.ref _, _, I.lnew (t' := s.toks) (r.append r2) (by rw [List.length_append]; omega), rfl, q _ I.fresh⟩
end
section
variable {prog : Program} {w : World} {A : Around} {E : Value → Shared → Prop} {s : Shared}
end
section
variable {X : Cx}
end
end L2
namespace Att
open PySem PySem.W PySem.Calls PyProof.Rows
theorem ints_of_wellAll {P : Params} {h : Heap} : ∀ (ns : List Int) (vs : List Value), WellAll P h vs (ns.map WData.int) → IntsAre vs ns := by
  intro ns
  induction ns with
  | nil =>
    intro vs w
    rw [List.map_nil] at w
    cases w
    exact .nil
  | cons n ns ih =>
    intro vs w
    rw [List.map_cons] at w
    cases w with
    | cons a b =>
      cases a
      exact .cons _ _ (ih _ b)
theorem script_of {l : OpenLaw} {n : Nat} (hn : l.most = some n) {P : Params} {h : Heap} {args : List WData} {vals : List Value}
    (hpre : l.row.toRowW.claim.pre args = true) (hwl : WellAll P h vals args) :
    ∃ a vs ns, vals = [Value.ref a] ∧ args = [WData.list (ns.map WData.int)] ∧ h.get? a = some { cls := .type "list", data := .seq vs.toArray } ∧ IntsAre vs ns ∧ ns.length ≤ n := by
  have hsh : WShape.hasAll [] args [.list .int] = true := (pre_splitW hpre).1
  have hc : l.pre.holds [] { args := args } = true := (pre_splitW hpre).2
  obtain ⟨d, r, rfl, h1, h2⟩ := hasAllW_cons hsh
  obtain rfl := hasAllW_nil h2
  obtain ⟨xs, rfl, h3⟩ := hasW_list h1
  obtain ⟨ns, rfl⟩ := items_int h3
  have hlen : ns.length ≤ n := by
    unfold OpenLaw.pre at hc
    have h4 : (WTm.not (.lt (.lit (.int (n : Int))) (.len (.arg 0)))).holds [] { args := [.list (ns.map .int)] } = true := by
      have h4 := (holds_andW hc).1
      rw [hn] at h4
      exact h4
    have h5 := condW_of h4 (w_not (w_lt w_lit (w_len_list (w_arg rfl))))
    rw [List.length_map] at h5
    refine Nat.le_of_not_lt fun q => ?_
    have q' : (n : Int) < ((ns.length : Nat) : Int) := by omega
    first
      | (rw [decide_eq_true q'] at h5; exact absurd h5 (by decide))
      | (simp at h5; omega)
  cases hwl with
  | cons w1 w2 =>
    cases w2
    cases w1 with
    | list ho hall => exact ⟨_, _, ns, rfl, rfl, ho, ints_of_wellAll ns _ hall, hlen⟩
theorem post_true (l : OpenLaw) (args : List WData) : l.row.toRowW.claim.post args (.bool true) args = true :=
  postW_of (r := l.row.toRowW) (X := (true == true))
    (show WShape.has [] (.bool true) .bool = true by first | rfl | decide | simp [WShape.has, WShape.arms, WShape.armsAll])
    (show (WTm.eq .res (.lit (.bool true))).value [] { args := args, res := some (.bool true), after := args } = some (.bool (true == true)) from w_eq_bool (w_res rfl) w_lit) rfl
theorem attach_call {l : OpenLaw} {n : Nat} {q : Program} {loose : List Str} {XP : (Str → Option Value) → Heap → Prop} {YP : World → Heap → Prop} {d : DefRec}
    (hn : l.most = some n) (hdf : d.params.defaults = [])
    (call : ∀ (w : World) (s₀ s₁ : Shared) (mg mb : Str → Option Value) (fa : Addr) (o : Obj) (pm cd doc : Value) (a : Addr) (vs : List Value) (ns : List Int),
      Ground q loose [] XP w s₀ mg mb s₁.heap → YP w s₁.heap →
      s₁.heap.get? fa = some o → o.data = .func (docDef d.name d.params d.body d.scope pm cd doc) → s₁.heap.CodeRec cd d.name → mg d.name = some (.ref fa) →
      s₁.heap.get? a = some { cls := .type "list", data := .seq vs.toArray } → IntsAre vs ns → ns.length ≤ n → s₁.gens = #[] →
      codeAny (model l.prog w) callerA (.call (.ref fa) ⟨[.ref a], []⟩) (fun r s' => r = .ok (.ret (.bool true)) ∧ OldK s₁.heap s'.heap ∧ s'.os = s₁.os ∧ AllBare s'.gens) s₁) :
    WalkO q loose XP YP l.row.toRowW d [] (fun f vs => PySem.call f vs) := by
  intro w s₀ s₁ mg mb G Y fa o pm cd doc dV kV ho hd hcd hD hmg hg args vals as hpre hlay hrd hwl hlo
  obtain rfl : dV = .none := Dflts.none hD hdf
  obtain rfl : kV = .none := Dflts.noKw hD
  obtain ⟨a, vs, ns, rfl, rfl, hobj, hints, hlen⟩ := script_of hn hpre hwl
  refine enter_call (codeAny_mono (call w s₀ s₁ mg mb fa o pm cd doc a vs ns G Y ho (fd_plain hd) hcd hmg hobj hints hlen hg) fun r s' hq => ?_)
  obtain ⟨rfl, h2, h3, h4⟩ := hq
  exact ⟨.inl ⟨.bool true, .bool true, [], rfl, fun _ => rfl, .bool true, post_true l _, fun _ => ⟨List.Pairwise.nil, fun _ hm => (nomatch hm)⟩⟩, h2, h3, h4⟩
section
variable {prog : Program} {w : World} {A : Around} {E : Value → Shared → Prop} {s : Shared} {K : Frag}
end
end Att
namespace L2
open PySem PySem.Spec PyProof.Rows
theorem vals_ints : ∀ {vs : List Value} {ns : List Int}, IntsAre vs ns → Vals (ns.map V.int) vs
  | _, _, .nil => .nil
  | _, _, .cons n t h => .cons ⟨t, rfl⟩ (vals_ints h)
def Only (H : Hp) : Prop := ∀ b, H b = none ∨ ∃ o xs, H b = some (.frz o (.lst xs))
theorem law_call {P : Program} {w : World} {K : PySem.W.Frag} {mg mb : Str → Option Value} {CX : CXT} {k : Nat} {fa a : Addr} {fd : FuncData} {x : Str} {sp : Sp} {s₁ : Shared} {vs : List Value} {ns : List Int}
    (KX : K.In s₁.heap) (hns : s₁.heap.Ns mainGlobals mg) (hb : s₁.heap.Ns builtinsNs mb) (hbb : ∀ x : Str, x ≠ "__name__" → mb x = bootBuiltins x) (hlim : s₁.heap.NoLimit) (hg : s₁.gens = #[])
    (ha : s₁.heap.get? a = some { cls := .type "list", data := .seq vs.toArray }) (hi : IntsAre vs ns) (hl : ns.length ≤ sizeLine) (hr : Room k callerA)
    (F : ∀ base : Heap, K.In base → base.Ns mainGlobals mg → FnOk P w K mg base CX k fa fd [x] sp) (hbind : ∀ (s : Shared) (u : Value), BindsTo s fd ⟨[u], []⟩ [(x, u)])
    (hsp : ∀ H : Hp, Only H → SqL K H a (ns.map V.int) → sp [.ref a] H (fun v _ => v = .bl true) fun _ _ _ => False)
    (hCX : ∀ H e s', CX [] H s₁ (fun _ _ _ => False) e s' → False) :
    codeAny (model P w) callerA (.call (.ref fa) ⟨[.ref a], []⟩) (fun r s' => r = .ok (.ret (.bool true)) ∧ OldK s₁.heap s'.heap ∧ s'.os = s₁.os ∧ AllBare s'.gens) s₁ := by
  have rv := vals_ints hi
  have lenV := hi.length
  -- from an abstract heap in which nothing but the script may be tracked
  have core : ∀ H : Hp, Only H → SqL K H a (ns.map V.int) → HOk P w H s₁.heap → (∀ b, H b ≠ none → b = a) → (H a ≠ none → K.lookup a = none) →
      codeAny (model P w) callerA (.call (.ref fa) ⟨[.ref a], []⟩) (fun r s' => r = .ok (.ret (.bool true)) ∧ OldK s₁.heap s'.heap ∧ s'.os = s₁.os ∧ AllBare s'.gens) s₁ := by
    intro H hO hS hok hA hK
    have base_of : ∀ {b : Addr} {o : Obj}, s₁.heap.get? b = some o → H b = none → (hidT s₁.heap H).get? b = some o := fun e n => hidT_get e n
    have noA : ∀ {b : Addr} {o : Obj} {es : Array DictEntry} {ep : Nat}, s₁.heap.get? b = some o → o.data = .dict es ep → H b = none := fun {b o es ep} e d => by
      cases q : H b with
      | none => rfl
      | some u =>
        have e' : b = a := hA b (by rw [q]; simp)
        subst e'
        rw [ha] at e; cases e
        have d' : Data.seq vs.toArray _ = Data.dict es ep := d
        cases d'
    have nsK : ∀ {b : Addr} {m : Str → Option Value}, s₁.heap.Ns b m → (hidT s₁.heap H).Ns b m := fun {b m} ⟨o, es, ep, e, d, r⟩ => ⟨o, es, ep, base_of e (noA e d), d, r⟩
    have hKb : K.In (hidT s₁.heap H) := fun b o e => base_of (KX b o e) (by
      cases q : H b with
      | none => rfl
      | some u =>
        have e' : b = a := hA b (by rw [q]; simp)
        subst e'
        rw [hK (by rw [q]; simp)] at e; cases e)
    have hM : Mod K mg (hidT s₁.heap H) := ⟨hKb, nsK hns, ⟨mb, nsK hb, hbb⟩, let ⟨mc, h1, h2⟩ := hlim; ⟨mc, nsK h1, h2⟩⟩
    have e0 : Env0 P w K mg (hidT s₁.heap H) callerA [] s₁ H := ⟨rfl, hM, fun b o e => of_hidT e, Nat.le_of_eq (hidT_size _ _), trivial, fun b hb => absurd (show b ∈ ([] : List Addr) from hb) (by simp), hok, .of_eq hg⟩
    refine codeAny_mono ((F _ hKb (nsK hns)).run callerA [] s₁ H ⟨[.ref a], []⟩ [.ref a] [.ref a] _ _ hr e0 (hbind s₁ (.ref a)) (.cons rfl .nil) (hsp H hO hS)) fun r s' h => ?_
    cases r with
    | error e => exact (hCX H e s' h).elim
    | ok fl =>
      cases fl with
      | next => exact False.elim h
      | brk => exact False.elim h
      | cont => exact False.elim h
      | ret u =>
        obtain ⟨v, H', os, bare, un, hok', r', q⟩ := h
        have q' : v = .bl true := q
        subst q'
        obtain rfl : u = Value.bool true := r'
        refine ⟨rfl, OldK.of_keep fun b o e => ?_, os, bare⟩
        cases q : H b with
        | none => exact un.keep b o e q (by intro z; exact absurd (show b ∈ ([] : List Addr) from z) (by simp)) (by simp)
        | some u =>
          rcases hO b with z | ⟨ob, xs, z⟩
          · rw [q] at z; cases z
          · have z2 := un.frzs b ob _ z
            obtain ⟨e1, _⟩ := hok b _ z
            obtain ⟨e2, _⟩ := hok' b _ z2
            rw [e] at e1; cases e1
            exact e2
  cases hk : K.lookup a with
  | some o =>
    -- the script is one of the module's own objects
    have e := KX a o hk
    rw [ha] at e
    cases e
    refine core (fun _ => none) (fun _ => .inl rfl) (.inr ⟨_, vs.toArray, _, hk, rfl, rfl, rfl, by rw [List.size_toArray, lenV]; exact hl, by simpa using rv⟩) (fun b u z => by have z' : (none : Option HO) = some u := z; cases z') (fun b z => absurd rfl z) fun z => absurd rfl z
  | none =>
    refine core (fun b => if b = a then some (.frz { cls := .type "list", data := .seq vs.toArray } (.lst (ns.map V.int))) else none) (fun b => ?_) (.inl (.inr ⟨{ cls := .type "list", data := .seq vs.toArray }, if_pos rfl⟩)) (fun b u z => ?_) (fun b z => ?_) fun _ => hk
    · by_cases hb : b = a
      · exact .inr ⟨_, _, if_pos hb⟩
      · exact .inl (if_neg hb)
    · by_cases hb : b = a
      · have z' := (if_pos hb).symm.trans z
        cases z'
        subst hb
        exact ⟨ha, by rw [List.length_map]; exact hl, vs, _, rv, ha⟩
      · have z' := (if_neg hb).symm.trans z
        cases z'
    · by_cases hb : b = a
      · exact hb
      · exact absurd (if_neg hb) z
end L2
namespace L2
open PySem PySem.Spec PyProof.Rows
theorem walk_of {l : PySem.W.OpenLaw} {n k : Nat} {q : Program} {loose : List Str} {XP : (Str → Option Value) → Heap → Prop} {YP : World → Heap → Prop} {d : DefRec} {K : Params → PySem.W.Frag} {CX : World → CXT} {sp : World → Sp} {x : Str}
    (hn : l.most = some n) (hn2 : n ≤ sizeLine) (hdf : d.params.defaults = []) (hr : Room k callerA)
    (hY : ∀ (w : World) (h : Heap), YP w h → (K w.params).In h)
    (F : ∀ (w : World) (mg : Str → Option Value) (fa : Addr) (h : Heap), (K w.params).In h → h.Ns mainGlobals mg → mg d.name = some (.ref fa) →
      ∃ fd : FuncData, (∀ (s : Shared) (u : Value), BindsTo s fd ⟨[u], []⟩ [(x, u)]) ∧
        ∀ base : Heap, (K w.params).In base → base.Ns mainGlobals mg → FnOk l.prog w (K w.params) mg base (CX w) k fa fd [x] (sp w))
    (hsp : ∀ (w : World) (H : Hp) (a : Addr) (ns : List Int), ns.length ≤ n → Only H → SqL (K w.params) H a (ns.map V.int) → sp w [.ref a] H (fun v _ => v = .bl true) fun _ _ _ => False)
    (hCX : ∀ (w : World) (H : Hp) (s : Shared) (e : Value) (s' : Shared), CX w [] H s (fun _ _ _ => False) e s' → False) :
    PySem.W.WalkO q loose XP YP l.row.toRowW d [] (fun f vs => PySem.call f vs) := by
  refine Att.attach_call hn hdf fun w s₀ s₁ mg mb fa o pm cd doc a vs ns G Y ho hd hcd hmg hobj hints hlen hg => ?_
  have KX := hY w _ Y
  obtain ⟨fd, hb, hF⟩ := F w mg fa _ KX G.T.g hmg
  exact law_call KX G.T.g G.T.b G.T.builtins G.T.nolimit hg hobj hints (Nat.le_trans hlen hn2) hr hF hb (fun H hO hS => hsp w H a ns hlen hO hS) fun H e s' => hCX w H s₁ e s'
end L2
/- THE LAST THEOREM (shape; LID, My.* are yours):
   My.Adr: a structure of the addresses that your layer names (classes, functions); My.Txt K t: a structure (Prop) of the equations over K;
   My.txt_mk : {K} {implicit addresses ..} (e1 : nsIn K mainGlobals "law" = some (some (.ref f))) (e2 : K.lookup f = some ⟨oc, od, .func (fnOf "law" "law" params body scope dV kV doc pm an cdv ct), sl⟩) (e3 : codeIn K cdv "law" = true) .. : ∃ t, My.Txt K t
set_option maxRecDepth 100000 in
set_option maxHeartbeats 0 in
theorem PySem.Challenge.cw_LID_holds : PySem.Challenge.rw_LID.Holds := by
  w_on; o_law; k_head; (case hw => w_witness2)
  k_fill
  refine L2.walk_of (l := PySem.Challenge.rw_LID) (n := 63) (k := 40) (x := "script") (CX := fun w => ..) (sp := fun _ => My.sp_law) rfl (by decide) rfl ⟨rfl, by decide, by decide⟩ (fun w h Y => PySem.W.kIn_of Y) ?F ?S ?C
  case F =>
    intro w mg fa h KX G hmg
    have T : ∃ t, My.Txt (L2.KOf KX) t := by
      dsimp only [L2.KOf]                          -- K must stand as «<heap const> w.params» for k_is
      refine' My.txt_mk ?e1 ?e2 ?e3 ..
      (case e1 => PySem.W.k_is)                    -- in the order: a name -> its address -> its object -> its parts
      (case e2 => PySem.W.k_is)
      ..
    obtain ⟨t, T⟩ := T
    have e0 := hmg.symm.trans (PySem.W.mg_of KX G T.law)
    cases e0                                       -- fa is the law's own address
    exact ⟨_, fun s u => .of_eq rfl, fun base kb nb => My.law_fn T kb nb⟩     -- if «.of_eq rfl» comes too early: refine' ⟨_, ?b, fun base kb nb => My.law_fn T kb nb⟩; exact fun s u => .of_eq rfl
  case S => exact fun w H a ns hl hO hS => ..
  case C => exact ..
(the tactic k_is has no namespace: write k_is) -/
namespace L2
open PySem PySem.Spec PyProof.Rows
def defArgs (s : Stmt) : Arguments := match s with
  | .FunctionDef _ a _ _ _ _ _ _ _ _ => a
  | _ => { posonlyargs := [], args := [], vararg := none, kwonlyargs := [], kw_defaults := [], kwarg := none, defaults := [] }
def defBody (s : Stmt) : List Stmt := match s with
  | .FunctionDef _ _ b _ _ _ _ _ _ _ => b
  | _ => []
def defScope (s : Stmt) : Scope := match s with
  | .FunctionDef _ _ _ _ _ _ sc _ _ _ => sc
  | _ => { kind := .function, names := [], isGenerator := false, isCoroutine := false }
abbrev CX0 : CXT := fun _ _ _ _ _ _ => False
abbrev E0 : XK := fun _ _ _ => False
theorem pass0 {X : Cx} : Passes CX0 X E0 := fun _ _ _ _ _ _ _ h => h.elim
structure Fun (K : PySem.W.Frag) (x qual : Str) (st : Stmt) (f : Addr) (fd : FuncData) : Prop where
  ex : ∃ (oc : Value) (od : Option Addr) (kV doc pm : Value) (an : Option Addr) (cdv ct : Value) (osl : Array (Option Value)),
    fd = PySem.W.fnOf x qual (defArgs st) (defBody st) (defScope st) .none kV doc pm an cdv ct ∧ K.lookup f = some ⟨oc, od, .func fd, osl⟩ ∧ PySem.W.codeIn K cdv qual = true
  kp : PySem.W.keepIn K (.ref f) = true
section
variable {P : Program} {w : World} {K : PySem.W.Frag} {mg : Str → Option Value} {base : Heap}
theorem Fun.ok {x qual : Str} {st : Stmt} {f : Addr} {fd : FuncData} {N ps : List Str} {k : Nat} {sp : Sp} (F : Fun K x qual st f fd) (S : FnScope N ps (defScope st)) (len : ∀ vs H Q E, sp vs H Q E → vs.length = ps.length)
    (hbody : ∀ (cdv : Value) (A : Around) (outer : List Env) (s : Shared) (H : Hp) (vs : List V) (Q : VK) (E : XK), Room k (A.deeper (envOfC qual (defScope st) s.heap.objs.size f cdv)) → sp vs H Q E →
      ∃ t, PSs (cxOf CX0 P w K mg base N qual (defScope st) f cdv A outer s H E).nox (defBody st) t ∧ t { nx := fun _ H' => Q .non H', rt := Q } (start N vs) H) : FnOk P w K mg base CX0 (k + 1) f fd ps sp := by
  obtain ⟨oc, od, kV, doc, pm, an, cdv, ct, osl, rfl, lk, hcd⟩ := F.ex
  refine fn_of lk hcd S len fun A outer s H vs Q E hr hsp => ?_
  obtain ⟨t, h, q⟩ := hbody cdv A outer s H vs Q E hr hsp
  exact ⟨t, h.nox, q⟩
theorem Fun.binds {x qual : Str} {st : Stmt} {f : Addr} {fd : FuncData} {ps : List Str} (F : Fun K x qual st f fd)
    (h : ∀ (kV doc pm : Value) (an : Option Addr) (cdv ct : Value) (us : List Value), us.length = ps.length → bindArgs (PySem.W.fnOf x qual (defArgs st) (defBody st) (defScope st) .none kV doc pm an cdv ct) ⟨us, []⟩ = pure (ps.zip us)) : Binds K fd ps [] := by
  obtain ⟨oc, od, kV, doc, pm, an, cdv, ct, osl, rfl, lk, hcd⟩ := F.ex
  exact .all (h kV doc pm an cdv ct)
theorem fun_mk {x qual : Str} {st : Stmt} {f : Addr} {oc : Value} {od an : Option Addr} {osl : Array (Option Value)} {kV doc pm cdv ct : Value} (l : K.lookup f = some ⟨oc, od, .func (PySem.W.fnOf x qual (defArgs st) (defBody st) (defScope st) .none kV doc pm an cdv ct), osl⟩)
    (c : PySem.W.codeIn K cdv qual = true) (k : PySem.W.keepIn K (.ref f) = true) : Fun K x qual st f (PySem.W.fnOf x qual (defArgs st) (defBody st) (defScope st) .none kV doc pm an cdv ct) := ⟨⟨oc, od, kV, doc, pm, an, cdv, ct, osl, rfl, l, c⟩, k⟩
end
section
variable {X : Cx}
theorem pv (i : Nat) {x : Str} {pos : Pos} (hN : X.N[i]? = some x := by rfl) (hv : Vis X.env.scope x := by first | exact Or.inl rfl | exact Or.inr (Or.inl rfl) | exact Or.inr (Or.inr rfl)) (hd : (x == ("__debug__" : Str)) = false := by decide)
    (hcd : (x == ("__classdict__" : Str)) = false := by decide) : PE X (.Name x pos) (tVar i) := pe_var hN hv hd hcd
end
theorem iteF {A B : Prop} (h : B) : if false = true then A else B := by
  rw [if_neg Bool.false_ne_true]
  exact h
theorem iteT {A B : Prop} (h : A) : if true = true then A else B := by
  rw [if_pos rfl]
  exact h
theorem ite2 {c A B : Prop} [Decidable c] (h1 : c → A) (h2 : ¬ c → B) : if c then A else B := by
  by_cases h : c
  · rw [if_pos h]
    exact h1 h
  · rw [if_neg h]
    exact h2 h
theorem iteNS {c A B : Prop} [Decidable c] (hc : c) (h : B) : if (!decide c) = true then A else B := by
  rw [decide_eq_true hc]
  exact iteF h
def Same (H H' : Hp) : Prop := ∀ b o, H b = some o → H' b = some o
theorem Same.refl (H : Hp) : Same H H := fun _ _ h => h
theorem Same.trans {H H1 H2 : Hp} (a : Same H H1) (b : Same H1 H2) : Same H H2 := fun c o h => b c o (a c o h)
theorem Same.seq {K : PySem.W.Frag} {H H' : Hp} {a : Addr} {xs : List V} (e : Same H H') (h : SqL K H a xs) : SqL K H' a xs := by
  rcases h with (h | ⟨o, h⟩) | h
  · exact .inl (.inl (e _ _ h))
  · exact .inl (.inr ⟨o, e _ _ h⟩)
  · exact .inr h
end L2
namespace L2
open PySem PySem.Spec PyProof.Rows
theorem rel_look {env : Env} {y : Str} {k : NameKind} : ∀ {names : List (Str × NameKind)},
    (names.map fun (n, k) => if (k == NameKind.free && env.scope.kind == .function && env.kindOf n == some .cell) then (n, NameKind.cell) else (n, k)).lookup y = some k →
      ∃ k0, names.lookup y = some k0 ∧ (k = k0 ∨ (k0 = .free ∧ k = .cell))
  | [], h => by simp at h
  | (n, q) :: r, h => by
    have ih := @rel_look env y k r
    rw [List.map_cons] at h
    dsimp only at h
    cases hx : y == n with
    | true =>
      refine ⟨q, by simp [List.lookup_cons, hx], ?_⟩
      by_cases hc : (q == NameKind.free && env.scope.kind == .function && env.kindOf n == some .cell) = true
      · rw [if_pos hc] at h
        simp only [List.lookup_cons, hx] at h
        cases h
        have hq : (q == NameKind.free) = true := by
          cases e : q == NameKind.free with
          | true => rfl
          | false => rw [e] at hc; simp at hc
        exact .inr ⟨by simpa using hq, rfl⟩
      · rw [if_neg hc] at h
        simp only [List.lookup_cons, hx] at h
        cases h
        exact .inl rfl
    | false =>
      have h2 : (r.map fun (n, k) => if (k == NameKind.free && env.scope.kind == .function && env.kindOf n == some .cell) then (n, NameKind.cell) else (n, k)).lookup y = some k := by
        by_cases hc : (q == NameKind.free && env.scope.kind == .function && env.kindOf n == some .cell) = true
        · rw [if_pos hc] at h
          simpa only [List.lookup_cons, hx] using h
        · rw [if_neg hc] at h
          simpa only [List.lookup_cons, hx] using h
      obtain ⟨k0, e, r'⟩ := ih h2
      exact ⟨k0, by simpa only [List.lookup_cons, hx] using e, r'⟩
theorem clos_go {env : Env} : ∀ (names : List (Str × NameKind)) (acc : List (Str × Addr)), (∀ y ∈ names, y.2 = .free → ∃ c, env.cells.lookup y.1 = some c) → (∀ y c, acc.lookup y = some c → env.cells.lookup y = some c) →
    ∃ cl, (forIn names acc fun (x : Str × NameKind) (r : List (Str × Addr)) => (if (x.2 == NameKind.free) = true then (do let c ← cellOf env x.1; pure (ForInStep.yield ((x.1, c) :: r))) else pure (ForInStep.yield r) : Sem (ForInStep (List (Str × Addr))))) = (pure cl : Sem (List (Str × Addr))) ∧
      (∀ y c, cl.lookup y = some c → env.cells.lookup y = some c) ∧ (∀ y ∈ names, y.2 = .free → ∃ c, cl.lookup y.1 = some c) ∧ ∀ y c, acc.lookup y = some c → ∃ c', cl.lookup y = some c'
  | [], acc, _, ha => ⟨acc, rfl, ha, (fun y hy => absurd hy (by simp)), fun y c h => ⟨c, h⟩⟩
  | (n, k) :: r, acc, hn, ha => by
    by_cases hk : k = NameKind.free
    · obtain ⟨c, hc⟩ := hn (n, k) List.mem_cons_self hk
      have hacc : ∀ y d, ((n, c) :: acc).lookup y = some d → env.cells.lookup y = some d := fun y d e => by
        cases hx : y == n with
        | true =>
          simp only [List.lookup_cons, hx] at e
          cases e
          have : y = n := by simpa using hx
          rw [this]
          exact hc
        | false =>
          simp only [List.lookup_cons, hx] at e
          exact ha y d e
      obtain ⟨cl, e, h1, h2, h3⟩ := clos_go r ((n, c) :: acc) (fun y hy => hn y (List.mem_cons_of_mem _ hy)) hacc
      have hn3 : ∃ c', cl.lookup n = some c' := h3 n c (by simp)
      refine ⟨cl, ?_, h1, fun y hy hf => ?_, fun y d hd => ?_⟩
      · rw [List.forIn_cons]
        dsimp only
        rw [if_pos (by simp [hk])]
        have ec : cellOf env n = pure c := by
          unfold cellOf
          rw [hc]
        rw [ec]
        simp only [pure_bind]
        exact e
      · rcases List.mem_cons.mp hy with z | z
        · subst z
          exact hn3
        · exact h2 y z hf
      · cases hx : y == n with
        | true =>
          have : y = n := by simpa using hx
          rw [this]
          exact hn3
        | false => exact h3 y d (by simpa only [List.lookup_cons, hx] using hd)
    · obtain ⟨cl, e, h1, h2, h3⟩ := clos_go r acc (fun y hy => hn y (List.mem_cons_of_mem _ hy)) ha
      refine ⟨cl, ?_, h1, fun y hy hf => ?_, h3⟩
      · rw [List.forIn_cons]
        dsimp only
        rw [if_neg (by simpa using hk), pure_bind]
        exact e
      · rcases List.mem_cons.mp hy with z | z
        · subst z
          exact absurd hf hk
        · exact h2 y z hf
theorem clos_ok {env : Env} {scope : Scope} (hn : ∀ y ∈ scope.names, y.2 = .free → ∃ c, env.cells.lookup y.1 = some c) :
    ∃ cl, closureFor scope env = pure cl ∧ (∀ y c, cl.lookup y = some c → env.cells.lookup y = some c) ∧ ∀ y ∈ scope.names, y.2 = .free → ∃ c, cl.lookup y.1 = some c := by
  obtain ⟨cl, e, h1, h2, _⟩ := clos_go (env := env) scope.names [] hn (fun y c h => by simp at h)
  refine ⟨cl, ?_, h1, h2⟩
  unfold closureFor
  dsimp only
  have e2 : ∀ (f g : Str × NameKind → List (Str × Addr) → Sem (ForInStep (List (Str × Addr)))), (∀ x r, f x r = g x r) → (forIn scope.names [] f : Sem (List (Str × Addr))) = forIn scope.names [] g := fun f g h => by
    have : f = g := by funext x r; exact h x r
    rw [this]
  rw [e2 _ _ (fun x r => ?_), e]
  · rfl
  · obtain ⟨n, k⟩ := x
    dsimp only
theorem comp_loop_go {prog : Program} {w : World} {A : Around} {R : Result → Shared → Prop} {s : Shared} {elt target iter : Expr} {ifs : List Expr} {scope : Scope} {pos : Pos} {it acc : Value} {env : Env} (J : Nat → Shared → Prop)
    (turn : ∀ n s, J n s → wpAny (model prog w) A (pyNext it) (fun r s1 => match r with
      | none => R (.ok .next) s1
      | some v => wpAny (model prog w) A (letOwnedTupleGo target it v) (fun _ s1' => wpAny (model prog w) A (assign target env v) (fun _ s2 =>
          wpAny (model prog w) A (forIn ifs true fun c r => if r = true then do let ok ← isTrue c env (eval c env); pure (ForInStep.yield ok) else pure (ForInStep.yield r)) (fun ok s3 =>
            if ok = true then wpAny (model prog w) A (eval elt env) (fun x s4 =>
              wpAny (model prog w) A (call (.builtin "list.append") [acc, x]) (fun _ s5 => ∃ m, m < n ∧ J m s5) (fun _ _ => False) s4) (fun _ _ => False) s3
            else ∃ m, m < n ∧ J m s3) (fun _ _ => False) s2) (fun _ _ => False) s1') (fun _ _ => False) s1) (fun _ _ => False) s)
    (n : Nat) (h : J n s) : codeAny (model prog w) A (.compLoop (.ListComp elt [⟨target, iter, ifs, 0⟩] scope pos) 0 it acc env) R s := by
  have no : ∀ {E : Value → Shared → Prop} (e : Value) (s : Shared), (fun (_ : Value) (_ : Shared) => False) e s → E e s := fun _ _ f => f.elim
  refine codeAny_loop rfl J (fun n s hJ => ?_) n h
  show wpAny _ A ((compTurn (.ListComp elt [⟨target, iter, ifs, 0⟩] scope pos) 0 it acc env).onRaise _) _ _ s
  refine wpAny_noted ?_
  rw [compTurn_list]
  refine wpAny_bind (wpAny_standAt (wpAny_bind (wpAny_mono (turn n s hJ) (fun r s1 h1 => ?_) no)))
  cases r with
  | none => exact wpAny_pure h1
  | some v =>
    refine wpAny_bind (wpAny_mono h1 (fun _ s1' h1' => wpAny_bind (wpAny_mono h1' (fun _ s2 h2 => wpAny_bind (wpAny_mono h2 (fun ok s3 h3 => ?_) no)) no)) no)
    cases ok with
    | false => exact wpAny_pure ⟨rfl, h3⟩
    | true => exact wpAny_bind (wpAny_bind (wpAny_mono h3 (fun x s4 h4 => wpAny_bind (wpAny_mono h4 (fun _ s5 h5 => wpAny_pure (wpAny_pure ⟨rfl, h5⟩)) no)) no))
abbrev Cx.comp (X : Cx) (x : Str) (scope : Scope) (cl : List (Str × Addr)) (C : Addr) (fp : List Addr) (s : Shared) (H : Hp) : Cx :=
  { X with N := x :: X.N, s₀ := s, H₀ := H, env := compEnvC scope cl C X.env, outer := X.stack, ex := fp, fn := fun _ => false, pn := [], xe := fun _ _ => False }
def capOk (scope : Scope) (env : Env) (y : Str) : Bool := match scope.names.lookup y with
  | none => true
  | some .free => env.kindOf y == some .cell || env.kindOf y == some .free
  | some _ => false
structure CompSc (X : Cx) (x : Str) (scope : Scope) : Prop where
  kind : scope.kind = .function
  cell : ∀ y ∈ scope.names, y.2 ≠ .cell
  names : ∀ y ∈ scope.names, y.2 = .local → scope.names.lookup y.1 = some .local
  hx : scope.names.lookup x = some .local
  free : ∀ y ∈ scope.names, y.2 = .free → X.env.kindOf y.1 = some .cell ∨ X.env.kindOf y.1 = some .free
  cap : ∀ y ∈ X.N, capOk scope X.env y = true
  nd : (x :: X.N).Nodup
theorem free_mem {scope : Scope} {y : Str} (h : scope.names.lookup y = some .free) : (y, NameKind.free) ∈ scope.names := PySem.mem_of_lookup h
theorem comp_inv {X : Cx} {x : Str} {scope : Scope} {cl : List (Str × Addr)} {fp : List Addr} {pins : List (Addr × Obj)} {σ : St} {H : Hp} {s : Shared} {h' : Heap} {tk : Nat} {m : Str → Option Value} (S : CompSc X x scope) (I : Inv X pins σ H s)
    (hns : h'.Ns s.heap.objs.size m) (hk : ∀ b o, s.heap.get? b = some o → h'.get? b = some o) (hf : ∀ b ∈ fp, FpOk X pins H b) (ho : ∀ b ∈ fp, ∃ o, s.heap.get? b = some o)
    (hsub : ∀ y c, cl.lookup y = some c → X.env.cells.lookup y = some c) (hall : ∀ y ∈ scope.names, y.2 = .free → ∃ c, cl.lookup y.1 = some c) :
    Inv (X.comp x scope cl s.heap.objs.size fp s H) (X.pn ++ pins) (none :: σ) H { s with heap := h', toks := tk } := by
  refine ⟨⟨I.ok.mod, S.kind, I.ok.glob, I.ok.blt, Nat.le_refl _, fun y z c h1 h2 => I.ok.inj y z c (hsub y c h1) (hsub z c h2), fun y hy => ?_, fun y c hfn => absurd hfn Bool.false_ne_true, I.ok.hd, I.ok.frames, .inl rfl, fun b hb => ⟨?_, fun y c e => (hf b hb).2.2.2.2.1 y c (hsub y c e)⟩,
    I.bs, Nat.le_trans I.ok.bsz I.sz, fun b o e hb => ?_, fun b hb hs => ?_, I.stack, I.stkFree⟩, rfl, I.bare, Un.kept hk, ⟨m, hns, fun i y v e1 e2 e3 => ?_⟩, fun y c e => ?_, I.fresh, fun y c e => I.freeC y c (hsub y c e), fun p hp => ?_, I.hok.kept hk, ?_⟩
  · have hy' : ∃ k, (k = NameKind.cell ∨ k = NameKind.free) ∧ (relabel scope X.env).names.lookup y = some k := by
      rcases hy with z | z
      · exact ⟨_, .inl rfl, z⟩
      · exact ⟨_, .inr rfl, z⟩
    obtain ⟨k, hk', e⟩ := hy'
    obtain ⟨k0, e0, r⟩ := rel_look e
    have kf : k0 = .free := by
      rcases r with r | r
      · subst r
        rcases hk' with z | z
        · subst z
          exact absurd rfl (S.cell _ (PySem.mem_of_lookup e0))
        · exact z
      · exact r.1
    subst kf
    exact hall (y, .free) (free_mem e0) rfl
  · obtain ⟨o, e⟩ := ho b hb
    exact Nat.ne_of_lt (Heap.lt_size e)
  · rcases (hf b hb).2.2.2.1 with z | z
    · exact I.ok.noex b o e z
    · exact absurd (Nat.lt_of_lt_of_le (Heap.lt_size e) (Nat.le_trans I.ok.bsz z)) (Nat.lt_irrefl _)
  · rcases List.mem_cons.mp (I.stkSub b hs) with z | z
    · exact (hf b hb).2.1 z
    · exact (hf b hb).2.2.1 z
  · cases i with
    | zero => simp at e2
    | succ i =>
      have e1' : X.N[i]? = some y := by simpa using e1
      have e2' : σ[i]? = some (some v) := by simpa using e2
      have hc := S.cap y (List.mem_of_getElem? e1')
      have hvis : ∃ k, (relabel scope X.env).names.lookup y = some k := by
        rcases e3 with z | z | z
        · exact ⟨_, z⟩
        · exact ⟨_, z⟩
        · exact ⟨_, z⟩
      obtain ⟨k, ek⟩ := hvis
      obtain ⟨k0, e0, r⟩ := rel_look ek
      unfold capOk at hc
      rw [e0] at hc
      have kf : k0 = .free := by cases k0 <;> simp_all
      subst kf
      have hkk : X.env.kindOf y = some .cell ∨ X.env.kindOf y = some .free := by simpa using hc
      obtain ⟨m0, hn0, hl0⟩ := I.loc
      obtain ⟨u, ru, l⟩ := hl0 i y v e1' e2' (.inr hkk)
      refine ⟨u, ru, .inr ?_⟩
      obtain ⟨c', hc'⟩ := hall (y, .free) (free_mem e0) rfl
      rcases l with ⟨z, _⟩ | ⟨_, c, ec, ⟨o, ho', hd'⟩⟩
      · rcases hkk with q | q <;> rw [z] at q <;> cases q
      · have e4 := hsub y c' hc'
        rw [ec] at e4
        have e5 : c = c' := Option.some.inj e4
        subst e5
        refine ⟨?_, c, hc', o, hk _ _ ho', hd'⟩
        rcases r with r | r
        · subst r
          exact .inr ek
        · obtain ⟨_, r⟩ := r
          subst r
          exact .inl ek
  · obtain ⟨v, o, ho', hd'⟩ := I.cell y c (hsub y c e)
    exact ⟨v, o, hk _ _ ho', hd'⟩
  · have hp' : p ∈ X.pn ++ pins := by simpa using hp
    obtain ⟨e, n, ne, nf, d⟩ := I.pin p hp'
    refine ⟨hk _ _ e, n, Nat.ne_of_lt (Heap.lt_size e), fun z => ?_, d⟩
    rcases List.mem_cons.mp (I.stkSub p.1 z) with q | q
    · exact ne q
    · exact nf q
  · show σ.length + 1 = X.N.length + 1
    rw [I.len]
def PTs (X : Cx) (ifs : List Expr) (t : TT) : Prop :=
  ∀ (pins : List (Addr × Obj)) (s : Shared) (σ : St) (H : Hp) (Q : Bool → Hp → Prop), Inv X pins σ H s → t σ H Q →
    wpAny (model X.prog X.w) X.A (forIn ifs true fun c r => if r = true then do let ok ← isTrue c X.env (eval c X.env); pure (ForInStep.yield ok) else pure (ForInStep.yield r)) (TP X pins σ Q) X.xe s
def ttAll : TT := fun _ H Q => Q true H
theorem pts_nil {X : Cx} : PTs X [] ttAll := fun pins s σ H Q I h => by
  rw [List.forIn_nil]
  exact wpAny_pure ⟨H, I, h⟩
theorem pts_one {X : Cx} {c : Expr} {t : TT} (hc : PT X c t) : PTs X [c] t := fun pins s σ H Q I h => by
  rw [List.forIn_cons, if_pos rfl]
  refine wpAny_bind (wpAny_bind (thn (hc pins s σ H Q I h) fun ok s1 q => wpAny_pure ?_))
  try dsimp only
  rw [List.forIn_nil]
  exact wpAny_pure q
def CompGo (J : It) (H1 : Hp) (σ : St) (tt : TT) (te : TE) (Q : VK) : Prop := ∀ D, H1 D = none → ∃ W : Nat → Nat → Hp → Prop, (∃ m, W 0 m (upd H1 D (.lst []))) ∧ ∀ i m H, W i m H →
  (J.stop i H ∧ Q (.ref D) H) ∨ (J.go i H ∧ ∀ x H', J.yld i H x H' → tt (some x :: σ) H' fun b H2 => if b = true then te (some x :: σ) H2 fun y H3 => ∃ ys, H3 D = some (.lst ys) ∧ ys.length < sizeLine ∧ ∃ m', m' < m ∧ W (i + 1) m' (upd H3 D (.lst (ys ++ [y])))
    else ∃ m', m' < m ∧ W (i + 1) m' H2)
def tComp (wi : TI) (tt : TT) (te : TE) : TE := fun σ H Q => wi σ H fun J H1 => CompGo J H1 σ tt te Q
section
variable {X : Cx} {x : Str} {px pos : Pos} {elt iter : Expr} {ifs : List Expr} {scope : Scope} {wi : TI} {tt : TT} {te : TE}
theorem comp_core {pins : List (Addr × Obj)} {σ : St} {H2 : Hp} {s2 : Shared} {it : Addr} {fp : List Addr} {tn : Nat → Heap → Prop} {J : It} {Q : VK} {cl : List (Str × Addr)} {E : Value → Shared → Prop} {RR : Value → Addr → Result → Shared → Prop}
    (S : CompSc X x scope) (hcal : X.calm = true) (hclos : (∀ y c, cl.lookup y = some c → X.env.cells.lookup y = some c) ∧ ∀ y ∈ scope.names, y.2 = .free → ∃ c, cl.lookup y.1 = some c)
    (ht : ∀ cl C fp s H, PTs (X.comp x scope cl C fp s H) ifs tt) (he : ∀ cl C fp s H, PE (X.comp x scope cl C fp s H) elt te)
    (I2 : Inv X pins σ H2 s2) (T : Turn X.prog X.w X.K (.Name x px) J fp it tn) (st2 : tn 0 s2.heap) (f2 : ∀ b ∈ fp, FpOk X pins H2 b)
    (q : CompGo J H2 σ tt te Q)
    (hRR : ∀ D C s' H' m', Inv X pins σ H' s' → s'.heap.Ns C m' → FpOk X pins H' C → Q (.ref D) H' → RR (.ref D) C (.ok .next) s') :
    wpAny (model X.prog X.w) X.A (newList []) (fun acc s3 => wpAny (model X.prog X.w) X.A (newFunctionEnv scope X.env.globals cl [] X.env.qual none .none (some X.env)) (fun cenv s4 =>
      codeAny (model X.prog X.w) X.A (.compStart (.ListComp elt [⟨.Name x px, iter, ifs, 0⟩] scope pos) 0 (.ref it) acc { cenv with scope := relabel scope X.env }) (RR acc cenv.locals) s4) E s3) E s2 := by
  obtain ⟨hsub, hall⟩ := hclos
  refine wpAny_newObj_type (wpAny_newFunctionEnv S.cell (by intro y hy; simp at hy) (fun h1 hns hsb => ?_) S.kind)
  have I3 : Inv X pins σ (upd H2 s2.heap.objs.size (.lst [])) { s2 with heap := s2.heap.push { cls := .type "list", data := .seq ([] : List Value).toArray } } := I2.lnew (t' := s2.toks) .nil (by simp)
  have hD : H2 s2.heap.objs.size = none := I2.fresh
  obtain ⟨W, ⟨m0, w0⟩, turn⟩ := q _ hD
  generalize hs3 : ({ s2 with heap := s2.heap.push { cls := .type "list", data := .seq ([] : List Value).toArray } } : Shared) = s3 at I3
  have hs3' : ({ s2 with heap := s2.heap.push { cls := .type "list", dict := none, data := .seq ([] : List Value).toArray } } : Shared) = s3 := hs3
  dsimp only at hns hsb ⊢
  generalize hDD : s2.heap.objs.size = D at *
  have eh : s2.heap.push { cls := .type "list", dict := none, data := .seq ([] : List Value).toArray } = s3.heap := by rw [← hs3]
  rw [eh] at hns hsb
  have keep : ∀ b o, s3.heap.get? b = some o → h1.get? b = some o := fun b o e => hsb.extBut b o (Nat.ne_of_lt (Heap.lt_size e)) (Heap.get?_push_of_some _ e)
  have objs : ∀ b ∈ fp, ∃ o, s3.heap.get? b = some o := fun b hb => by
    obtain ⟨o, e, _⟩ := T.obj _ _ st2 b hb
    rw [← eh]
    exact ⟨o, Heap.get?_push_of_some _ e⟩
  have f3 : ∀ b ∈ fp, FpOk X pins (upd H2 D (.lst [])) b := fun b hb => by
    obtain ⟨o, e, _⟩ := T.obj _ _ st2 b hb
    have ne : b ≠ D := by rw [← hDD]; exact Nat.ne_of_lt (Heap.lt_size e)
    exact ⟨by rw [upd_ne ne]; exact (f2 b hb).1, (f2 b hb).2⟩
  have I4 : Inv (X.comp x scope cl s3.heap.objs.size fp s3 (upd H2 D (.lst []))) (X.pn ++ pins) (none :: σ) (upd H2 D (.lst [])) { s3 with heap := h1, toks := s3.toks + ([] : List (Str × Value)).length } := comp_inv S I3 hns keep f3 objs hsub hall
  have st4 : tn 0 h1 := T.keep _ _ _ st2 fun b hb o e => keep b o (by rw [← eh]; exact Heap.get?_push_of_some _ e)
  -- what stays true of the iterator's objects
  have stat : ∀ {H' : Hp}, (∀ b ∈ fp, H' b = none) → ∀ b ∈ fp, FpOk (X.comp x scope cl s3.heap.objs.size fp s3 (upd H2 D (.lst []))) (X.pn ++ pins) H' b := fun hn b hb => by
    refine ⟨hn b hb, (I4.ok.exf b hb).1, I4.ok.exfs b hb, .inl hb, (I4.ok.exf b hb).2, fun p hp => (f3 b hb).2.2.2.2.2 p (by simpa using hp)⟩
  have loop : codeAny (model X.prog X.w) X.A (.compLoop (.ListComp elt [⟨.Name x px, iter, ifs, 0⟩] scope pos) 0 (.ref it) (.ref D) (compEnvC scope cl s3.heap.objs.size X.env)) (RR (.ref D) s3.heap.objs.size) { s3 with heap := h1, toks := s3.toks + ([] : List (Str × Value)).length } := by
    refine comp_loop_go (fun n s' => ∃ i o H', Inv (X.comp x scope cl s3.heap.objs.size fp s3 (upd H2 D (.lst []))) (X.pn ++ pins) (o :: σ) H' s' ∧ tn i s'.heap ∧ (∀ b ∈ fp, H' b = none) ∧ W i n H') ?_ m0
      ⟨0, none, _, I4, st4, fun b hb => (f3 b hb).1, w0⟩
    rintro n s5 ⟨i, o, H5, I5, st5, fr5, w5⟩
    rcases turn i n H5 w5 with ⟨stop, qn⟩ | ⟨go, step⟩
    · refine thn (T.done (X.comp x scope cl s3.heap.objs.size fp s3 (upd H2 D (.lst []))) rfl rfl rfl hcal i _ s5 _ H5 _ I5 (stat fr5) st5 stop) fun r s6 ⟨hr, I6⟩ => ?_
      subst hr
      obtain ⟨m6, hn6, _⟩ := I6.loc
      have I7 : Inv X pins σ H5 s6 := I3.call' (ch := fp) I6.os I6.base I6.hok I6.bare fun b hb => ⟨(f3 b hb).2.2.2.1, (f3 b hb).2.1, (f3 b hb).2.2.2.2.1, (f3 b hb).2.2.2.2.2⟩
      exact hRR D s3.heap.objs.size s6 H5 m6 I7 hn6 (I3.fpOk (Nat.le_refl _) I6.free) qn
    · refine thn (T.item (X.comp x scope cl s3.heap.objs.size fp s3 (upd H2 D (.lst []))) rfl rfl rfl hcal i _ s5 _ H5 _ I5 (stat fr5) st5 go) fun r s6 ⟨u, hr, h6⟩ => ?_
      subst hr
      refine thn h6 fun _ s7 ⟨y, H7, I7, r7, y7, st7, fr7⟩ => ?_
      have I7' := I7.pinned (stat fr7) (T.obj _ _ st7)
      have hxl : (relabel scope X.env).names.lookup x = some .local := lookup_relabel_local S.hx
      refine thn (pg_name (X := X.comp x scope cl s3.heap.objs.size fp s3 (upd H2 D (.lst []))) (i := 0) S.nd rfl (.inl hxl) (.inr hxl) _ s7 (o :: σ) H7 y u (fun σ' H' => σ' = some y :: σ ∧ H' = H7) I7' r7 ⟨rfl, rfl⟩) fun _ s8 ⟨σ8, H8, I8, e8, e8'⟩ => ?_
      subst e8 e8'
      refine thn (ht _ _ _ _ _ _ s8 _ H8 _ I8 (step y H8 y7)) fun ok s9 ⟨H9, I9, q9⟩ => ?_
      have back : ∀ {H' : Hp} {s' : Shared} {m' : Nat}, Inv (X.comp x scope cl s3.heap.objs.size fp s3 (upd H2 D (.lst []))) (X.pn ++ pins ++ pinsAt fp s7.heap) (some y :: σ) H' s' → m' < n → W (i + 1) m' H' →
          ∃ m, m < n ∧ ∃ i o H', Inv (X.comp x scope cl s3.heap.objs.size fp s3 (upd H2 D (.lst []))) (X.pn ++ pins) (o :: σ) H' s' ∧ tn i s'.heap ∧ (∀ b ∈ fp, H' b = none) ∧ W i m H' := fun {H' s' m'} I' hm w' => by
        have pin : ∀ b o, b ∈ fp → s7.heap.get? b = some o → s'.heap.get? b = some o ∧ H' b = none := fun b o hb e => by
          have z := I'.pin (b, o) (List.mem_append_right _ (List.mem_append_right _ (mem_pinsAt hb e)))
          exact ⟨z.1, z.2.1⟩
        refine ⟨m', hm, i + 1, some y, H', I'.unpinned, T.keep _ _ _ st7 fun b hb o e => (pin b o hb e).1, fun b hb => ?_, w'⟩
        obtain ⟨o', e, _⟩ := T.obj _ _ st7 b hb
        exact (pin b o' hb e).2
      cases ok with
      | false =>
        rw [if_neg Bool.false_ne_true] at q9 ⊢
        obtain ⟨m', hm, w'⟩ := q9
        exact back I9 hm w'
      | true =>
        rw [if_pos rfl] at q9 ⊢
        refine thn (he _ _ _ _ _ _ s9 _ H9 _ I9 q9) fun v s10 ⟨z, H10, I10, r10, q10⟩ => ?_
        obtain ⟨ys, e10, l10, m', hm, w'⟩ := q10
        refine thn (mt_append _ s10 _ H10 (.ref D) [z] (.ref D) [v] (fun _ H' => H' = upd H10 D (.lst (ys ++ [z]))) I10 rfl (.cons r10 .nil) ⟨D, ys, z, rfl, rfl, e10, l10, rfl⟩) fun _ s11 ⟨_, H11, I11, _, e11⟩ => ?_
        subst e11
        exact back I11 hm w'
  exact codeAny_compStart_list loop (T.self _ 0 _ _ _ st4 loop)
theorem pe_comp (S : CompSc X x scope) (hcal : X.calm = true) (hi : PI X (.Name x px) iter wi) (ht : ∀ cl C fp s H, PTs (X.comp x scope cl C fp s H) ifs tt) (he : ∀ cl C fp s H, PE (X.comp x scope cl C fp s H) elt te)
    (hs : ∀ x, foldedSetIterable iter X.env x = pure x := by intro _; rfl) : PE X (.ListComp elt [⟨.Name x px, iter, ifs, 0⟩] scope pos) (tComp wi tt te) := by
  intro pins s σ H Q I h
  obtain ⟨cl, hcl, hc⟩ := clos_ok (env := X.env) (scope := scope) fun y hy hf => I.ok.has y.1 (S.free y hy hf)
  rw [eval_ListComp]
  refine wpAny_comprehension_free (use := none) rfl hs hcl S.kind S.names (thn (hi pins s σ H _ I h) fun xv s1 h1 => thn h1 fun itv s2 h2 => ?_)
  obtain ⟨it, fp, tn, J, H2, e, I2, T, st2, f2, q⟩ := h2
  subst e
  refine comp_core (RR := fun acc C => compPost (model X.prog X.w) X.A X.xe none (EP X pins σ Q) acc C) S hcal hc ht he I2 T st2 f2 q ?_
  intro D C s' H' m' I' hn F' hq
  exact ⟨m', hn, fun h' sb => ⟨.ref D, H', I'.turned (t' := s'.toks) (fun b o hb e => (sb.2 b hb).trans e) F'.1 F'.2.1 F'.2.2.2.1 F'.2.2.2.2.1 F'.2.2.2.2.2, rfl, hq⟩⟩
theorem ps_setComp {i : Nat} {y : Str} {py spos : Pos} (S : CompSc X x scope) (hcal : X.calm = true) (hN : X.N.Nodup) (hiN : X.N[i]? = some y) (hy : Loc X.env.scope y) (hi : PI X (.Name x px) iter wi) (ht : ∀ cl C fp s H, PTs (X.comp x scope cl C fp s H) ifs tt)
    (he : ∀ cl C fp s H, PE (X.comp x scope cl C fp s H) elt te) (hsw : swapsWith (.ListComp elt [⟨.Name x px, iter, ifs, 0⟩] scope pos) (some (.Name y py)) spos.line X.env = pure true)
    (hs : ∀ x, foldedSetIterable iter X.env x = pure x := by intro _; rfl) (hf : X.fn y = true ∨ X.env.scope.names.lookup y = some .local := by first | exact .inl rfl | exact .inr rfl | assumption) :
    PS X (.Assign [.Name y py] (.ListComp elt [⟨.Name x px, iter, ifs, 0⟩] scope pos) spos) (tAsg (tComp wi tt te) (gName i)) := by
  intro pins s σ H D0 I h
  obtain ⟨cl, hcl, hc⟩ := clos_ok (env := X.env) (scope := scope) fun y hy hf => I.ok.has y.1 (S.free y hy hf)
  rw [exec_Assign_Name_used _ _ _ _ hsw]
  refine wpAny_bind (wpAny_standAt (wpAny_bind ?_))
  show wpAny _ _ (do let _ ← comprehension (.ListComp elt [⟨.Name x px, iter, ifs, 0⟩] scope pos) scope X.env _ (newList []) false (eval iter X.env) (some (assign (.Name y py) X.env))) _ _ s
  refine wpAny_bind (thn (wpAny_comprehension_free (use := some (assign (.Name y py) X.env)) (Q := fun _ s' => SP X pins D0 .next s') rfl hs hcl S.kind S.names (thn (hi pins s σ H _ I h) fun xv s1 h1 => thn h1 fun itv s2 h2 => ?_)) fun _ s' hq => wpAny_pure (wpAny_pure hq))
  obtain ⟨it, fp, tn, J, H2, e, I2, T, st2, f2, q⟩ := h2
  subst e
  refine comp_core (Q := fun v H => D0.nx (σ.set i (some v)) H) (RR := fun acc C => compPost (model X.prog X.w) X.A X.xe (some (assign (.Name y py) X.env)) (fun _ s' => SP X pins D0 .next s') acc C) S hcal hc ht he I2 T st2 f2 q ?_
  intro D C s' H' m' I' hn F' hq
  show wpAny _ _ (assign (.Name y py) X.env (.ref D)) _ _ s'
  refine wpAny_assign_Name (store_ok2 (v := .ref D) I' hN hiN hy rfl (fun s'' I'' ch => ?_) hf)
  obtain ⟨a, sb, ha⟩ := ch
  have ne : C ≠ a := by
    rcases ha with z | z
    · rw [z]; exact F'.2.1
    · exact Ne.symm (F'.2.2.2.2.1 y a z)
  refine ⟨m', hn.sameBut sb ne, fun h' sb' => ⟨_, H', I''.turned (t' := s''.toks) (fun b o hb e => (sb'.2 b hb).trans e) F'.1 F'.2.1 F'.2.2.2.1 F'.2.2.2.2.1 F'.2.2.2.2.2, hq⟩⟩
end
end L2
namespace L2
open PySem PySem.Spec PyProof.Rows
open AutoSeq1 (wpAny_loadPart')
section
variable {prog : Program} {w : World} {A : Around} {E : Value → Shared → Prop} {s : Shared}
end
section
variable {prog : Program} {w : World} {A : Around} {E : Value → Shared → Prop} {s : Shared}
theorem en_item {e it : Addr} {fp : List Addr} {n i : Nat} {k : Int} {P : Nat → Value → Prop} {St : Nat → Heap → Prop} {old : Value} {Q : Value → Shared → Prop}
    (D : Draws prog w A it fp n P St) (he : IsEnum s.heap e it k old) (hst : St i s.heap) (hlt : i < n) (hne : e ≠ it) (hef : e ∉ fp)
    (hQ : ∀ x h' tk, P i x → IsEnumOut h' e it (k + 1) x s.heap.objs.size → St (i + 1) h' → h'.get? s.heap.objs.size = some { cls := .type "tuple", data := .seq #[.int k tk, x] } →
      (∀ b o, b ≠ e → b ≠ it → s.heap.get? b = some o → h'.get? b = some o) → Q (.ref s.heap.objs.size) { s with heap := h', toks := tk + 1 }) :
    wpAny (model prog w) A (Builtin.«enumerate.__next__» ⟨[.ref e], []⟩) (fun fin s' => ∃ v, fin = .done (.ret v) ∧ Q v s') E s := by
  obtain ⟨hp, g, d, t0, os⟩ := s
  (show wpAny _ _ (field (.ref e) 2 >>= _) _ _ _); refine wpAny_bind (wpAny_field he rfl (x := .ref it) rfl ?_)
  refine wpAny_bind (D.item i _ _ _ hlt hst fun x g1 tk px c1 b1 => ?_)
  have b1 : Heap.SameBut it hp g1 := b1
  have e1 : IsEnum g1 e it k old := (b1.2 e hne).trans he
  (show wpAny _ _ (field (.ref e) 3 >>= _) _ _ ⟨g1, g, d, tk, os⟩); refine wpAny_bind (wpAny_field e1 rfl (x := rawInt k) rfl ?_)
  (show wpAny _ _ (field (.ref e) 4 >>= _) _ _ ⟨g1, g, d, tk, os⟩); refine wpAny_bind (wpAny_field e1 rfl (x := .none) rfl ?_)
  (show wpAny _ _ (mkInt k >>= _) _ _ ⟨g1, g, d, tk, os⟩); refine wpAny_bind (wpAny_mkInt ?_)
  (show wpAny _ _ (setField (.ref e) 3 (rawInt (k + 1)) >>= _) _ _ ⟨g1, g, d, tk + 1, os⟩); refine wpAny_bind (wpAny_setField_rec e1 (by simp) fun g2 e2 b2 => ?_)
  have b2 : Heap.SameBut e g1 g2 := b2
  have e2 : IsEnum g2 e it (k + 1) old := e2
  (show wpAny _ _ (setField (.ref e) 4 .none >>= _) _ _ ⟨g2, g, d, tk + 1, os⟩); refine wpAny_bind (wpAny_setField_rec e2 (by simp) fun g3 e3 b3 => ?_)
  have b3 : Heap.SameBut e g2 g3 := b3
  have e3 : IsEnum g3 e it (k + 1) old := e3
  (show wpAny _ _ (newTuple [.int k tk, x] >>= _) _ _ ⟨g3, g, d, tk + 1, os⟩); refine wpAny_bind (wpAny_newTuple ?_)
  have e4 : IsEnum (g3.push { cls := .type "tuple", data := .seq #[.int k tk, x] }) e it (k + 1) old := Heap.get?_push_of_some _ e3
  generalize hg4 : g3.push { cls := .type "tuple", data := .seq #[.int k tk, x] } = g4 at e4
  have z3 : g3.objs.size = hp.objs.size := by rw [b3.1, b2.1, b1.1]
  have le : e < hp.objs.size := Heap.lt_size he
  have t4 : g4.get? hp.objs.size = some { cls := .type "tuple", data := .seq #[.int k tk, x] } := by rw [← hg4, ← z3]; exact Heap.get?_push_size _ rfl
  have k4 : ∀ b o, b ≠ e → b ≠ it → hp.get? b = some o → g4.get? b = some o := fun b o hbe hbi hb => by
    rw [← hg4]
    exact Heap.get?_push_of_some _ (b3.extBut b o hbe (b2.extBut b o hbe (b1.extBut b o hbi hb)))
  have c4 : St (i + 1) g4 := D.frame _ _ _ c1 fun b hb o y => by
    have hbe : b ≠ e := fun q => hef (q ▸ hb)
    rw [← hg4]
    exact Heap.get?_push_of_some _ (b3.extBut b o hbe (b2.extBut b o hbe y))
  show wpAny _ _ (Builtin.SmallTypes.ownedTupleIsFree (.ref e) >>= _) _ _ ⟨g4, g, d, tk + 1, os⟩
  rw [z3]
  refine wpAny_bind ?_
  unfold Builtin.SmallTypes.ownedTupleIsFree
  refine wpAny_bind (wpAny_field e4 rfl (x := .none) rfl (wpAny_pure ?_))
  simp only [if_true]
  refine wpAny_bind (wpAny_rule (wpAny_bind (wpAny_field e4 rfl (x := old) rfl (wpAny_bind (wpAny_setField_rec e4 (by simp) fun g5 e5 b5 => ?_)))))
  have b5 : Heap.SameBut e g4 g5 := b5
  have e5 : IsEnum g5 e it (k + 1) x := e5
  (show wpAny _ _ (Builtin.SmallTypes.ownedTupleHandOut (.ref e) (.ref hp.objs.size) >>= _) _ _ ⟨g5, g, d, tk + 1, os⟩); refine wpAny_bind ?_
  unfold Builtin.SmallTypes.ownedTupleHandOut
  refine wpAny_bind (wpAny_setField_rec e5 (by simp) fun g6 e6 b6 => ?_)
  have b6 : Heap.SameBut e g5 g6 := b6
  have e6 : IsEnumOut g6 e it (k + 1) x hp.objs.size := e6
  refine wpAny_setField_rec e6 (by simp) fun g7 e7 b7 => ?_
  have b7 : Heap.SameBut e g6 g7 := b7
  have e7 : IsEnumOut g7 e it (k + 1) x hp.objs.size := e7
  have k7 : ∀ b o, b ≠ e → g4.get? b = some o → g7.get? b = some o := fun b o hb y => b7.extBut b o hb (b6.extBut b o hb (b5.extBut b o hb y))
  refine wpAny_bind (wpAny_letGo (wpAny_pure ⟨_, rfl, hQ x g7 tk px e7 (D.frame _ _ _ c4 fun b hb o y => k7 b o (fun q => hef (q ▸ hb)) y) (k7 _ _ (Nat.ne_of_gt le) t4) fun b o hbe hbi hb => k7 b o hbe (k4 b o hbe hbi hb)⟩))
theorem en_next {e it : Addr} {fp : List Addr} {n i : Nat} {k : Int} {P : Nat → Value → Prop} {St : Nat → Heap → Prop} {old : Value} {Q : Option Value → Shared → Prop}
    (D : Draws prog w A.in1 it fp n P St) (he : IsEnum s.heap e it k old) (hst : St i s.heap) (hlt : i < n) (hne : e ≠ it) (hef : e ∉ fp)
    (hQ : ∀ x h' tk, P i x → IsEnumOut h' e it (k + 1) x s.heap.objs.size → St (i + 1) h' → h'.get? s.heap.objs.size = some { cls := .type "tuple", data := .seq #[.int k tk, x] } →
      (∀ b o, b ≠ e → b ≠ it → s.heap.get? b = some o → h'.get? b = some o) → Q (some (.ref s.heap.objs.size)) { s with heap := h', toks := tk + 1 }) :
    wpAny (model prog w) A (pyNext (.ref e)) Q E s := by
  have hT : s.TypeIs (.ref e) "enumerate" := ⟨_, he, rfl⟩
  unfold pyNext
  exact wpAny_bind (wpAny_attempt (wpAny_callSpecial?_slot (name := Str.ofString "__next__") hT F.slot_enumerate_next (wpAny_call_entry F.slot_enumerate_next hT F.entry_enumerate_next
    (en_item D he hst hlt hne hef fun x h' tk a b c d k => wpAny_pure (hQ x h' tk a b c d k)) (F.args_enumerate_next_1 _))))
end
end L2
namespace L2
open PySem PySem.Spec PyProof.Rows
section
variable {prog : Program} {w : World} {A : Around} {E : Value → Shared → Prop} {s : Shared}
end
end L2
namespace L2
open PySem PySem.Spec PyProof.Rows
section
variable {X : Cx} {pins : List (Addr × Obj)} {σ : St} {H : Hp} {s : Shared} {h' : Heap}
theorem Inv.turnedNew {t' : Nat} {ch : List Addr} {a : Addr} {o : HO} (I : Inv X pins σ H s) (k : ∀ b u, b ∉ ch → s.heap.get? b = some u → h'.get? b = some u) (hch : ∀ b ∈ ch, FpOk X pins H b)
    (hp : s.heap.objs.size ≤ a) (new : ObjOk X.prog X.w (upd H a o) h' a o) : Inv X pins σ (upd H a o) { s with heap := h', toks := t' } := by
  have hn : H a = none := I.hok.fresh hp
  have nch : ∀ b u, H b = some u → b ∉ ch := fun b u e z => by rw [(hch b z).1] at e; cases e
  refine I.step (g' := s.gens) (d' := s.drawn) (ch := ch) (fun b hb => ⟨(hch b hb).2.2.2.1, (hch b hb).2.1, (hch b hb).2.2.2.2.1, (hch b hb).2.2.2.2.2⟩) (fun b o _ _ hc e _ => k b o hc e) (fun b o _ _ hc e _ => ⟨o.slots, k b o hc e⟩)
    (fun b u hc e n => by rw [upd_ne (Nat.ne_of_lt (Nat.lt_of_lt_of_le (Heap.lt_size e) hp))]; exact n) (fun b o hc e => ⟨o, k b o hc e⟩) (fun b xs e => by rw [upd_ne (ne_of_none e hn)]; exact e) (fun b u xs e => by rw [upd_ne (ne_of_none e hn)]; exact e)
    (fun b ps e => ⟨#[], by rw [upd_ne (ne_of_none e hn), e]; simp⟩) (fun m hm => ?_) (fun b u e => ?_) I.bare
  · obtain ⟨ob, es, ep, ho, r⟩ := hm
    exact ⟨ob, es, ep, k _ ob (fun z => (hch _ z).2.1 rfl) ho, r⟩
  · by_cases hb : b = a
    · subst hb
      rw [upd_same] at e
      cases e
      exact new
    · rw [upd_ne hb] at e
      refine (I.hok b u e).stay (fun c v hc q => k c v ?_ q) (fun c q => by rw [upd_ne (ne_of_none q hn)]; exact q) fun c xs q => by rw [upd_ne (ne_of_none q hn)]; exact q
      rcases hc with z | z
      · rw [z]
        exact nch b u e
      · exact nch c _ z
end
def Ite (Sq : Hp → List V → Prop) (k : Int) : It :=
  ⟨fun i H => ∃ xs x, Sq H xs ∧ xs[i]? = some x, fun i H x H' => ∃ p y, x = .ref p ∧ H p = none ∧ H' = upd H p (.tup [.int (k + i), y]) ∧ ∀ xs, Sq H xs → xs[i]? = some y, fun i H => ∃ xs, Sq H xs ∧ xs.length = i⟩
theorem turn_enL {P : Program} {w : World} {K : PySem.W.Frag} {es : List Expr} {kk : Nat} {pt : Pos} (a e it : Addr) (k : Int) (hei : e ≠ it) :
    Turn P w K (.Tuple es kk pt) (Ite (fun H xs => SqL K H a xs) k) [e, it] e (fun i h => (∃ old, IsEnum h e it (k + (i : Int)) old) ∧ h.IsListIter it a i) where
  mem := by simp
  obj := fun i h st b hb => by
    obtain ⟨⟨old, he⟩, o, ho, hc, hd⟩ := st
    rcases List.mem_cons.mp hb with z | z
    · subst z
      exact ⟨_, he, fun v q => by cases q⟩
    · have z : b = it := by simpa using z
      subst z
      exact ⟨o, ho, fun v q => by rw [hd] at q; cases q⟩
  keep := fun i h h' st kk => by
    obtain ⟨⟨old, he⟩, o, ho, r⟩ := st
    exact ⟨⟨old, kk e (by simp) _ he⟩, o, kk it (by simp) o ho, r⟩
  item := by
    intro X hP hw hK hc i pins s σ H E I hf st hg
    subst hP hw hK
    obtain ⟨xs, x, hq, hx⟩ := hg
    obtain ⟨its, rv, p, hz⟩ := I.list hq
    obtain ⟨u, hu, ru⟩ := rv.get hx
    obtain ⟨⟨old, he⟩, hit⟩ := st
    have pl : s.heap.IsList a its.toArray := p.isList
    have nai : a ≠ it := fun z => by
      obtain ⟨o, ho, hc, _⟩ := pl
      obtain ⟨o', ho', hc', _⟩ := hit
      rw [z, ho'] at ho
      cases ho
      rw [hc'] at hc
      injection hc with q
      exact absurd q (by decide)
    have nae : e ≠ a := fun z => by
      obtain ⟨o, ho, hc, _⟩ := pl
      rw [← z, he] at ho
      cases ho
      injection hc with q
      exact absurd q (by decide)
    have D := Draws.list (prog := X.prog) (w := X.w) (A := X.A.in1) (I.ok.hd hc) it a nai its.toArray
    have lt : i < its.toArray.size := by
      rw [List.size_toArray]
      exact (List.getElem?_eq_some_iff.mp hu).1
    refine en_next D he ⟨hit, pl⟩ lt hei (fun z => ?_) fun y g tk py eo st' tt kp => ?_
    · rcases List.mem_cons.mp z with z | z
      · exact hei z
      · exact nae (by simpa using z)
    · have ey : y = u := by
        have q : its.toArray[i]? = some y := py
        have q2 : its.toArray[i]? = some u := by simpa using hu
        rw [q2] at q
        exact (Option.some.inj q).symm
      subst ey
      refine ⟨_, rfl, wpAny_letOwnedTupleGo_enum eo fun g2 eo2 sb => ?_⟩
      have le : e < s.heap.objs.size := Heap.lt_size he
      have li : it < s.heap.objs.size := by
        obtain ⟨o, ho, _⟩ := hit
        exact Heap.lt_size ho
      have tt2 : g2.get? s.heap.objs.size = some { cls := .type "tuple", data := .seq #[.int (k + i) tk, y] } := (sb.2 _ (Nat.ne_of_gt le)).trans tt
      have nT : H s.heap.objs.size = none := I.fresh
      have I1 : Inv X pins σ (upd H s.heap.objs.size (.tup [.int (k + i), x])) { s with heap := g2, toks := tk + 1 } := by
        refine I.turnedNew (t' := tk + 1) (ch := [e, it]) (fun b o hb q => ?_) hf (Nat.le_refl _) ⟨?_, [.int (k + i) tk, y], .cons ⟨tk, rfl⟩ (.cons ru .nil), ⟨_, tt2, rfl, 0, rfl⟩⟩
        · have hbe : b ≠ e := fun z => hb (by simp [z])
          have hbi : b ≠ it := fun z => hb (by simp [z])
          exact (sb.2 b hbe).trans (kp b o hbe hbi q)
        · show 2 ≤ sizeLine
          decide
      have e1 : k + ((i + 1 : Nat) : Int) = k + (i : Int) + 1 := by omega
      refine ⟨.ref s.heap.objs.size, _, I1, rfl, ⟨_, x, rfl, nT, rfl, fun ys hy => ?_⟩, ⟨⟨y, by rw [e1]; exact eo2⟩, ?_⟩, fun b hb => ?_⟩
      · rw [I.list_inj hy hq]
        exact hx
      · obtain ⟨⟨o, ho, r⟩, _⟩ := st'
        exact ⟨o, (sb.2 it hei.symm).trans ho, r⟩
      · rcases List.mem_cons.mp hb with z | z
        · subst z
          rw [upd_ne (Nat.ne_of_lt le)]
          exact (hf b (by simp)).1
        · have z : b = it := by simpa using z
          subst z
          rw [upd_ne (Nat.ne_of_lt li)]
          exact (hf b (by simp)).1
  done := by
    intro X hP hw hK hc i pins s σ H E I hf st hg
    subst hP hw hK
    obtain ⟨xs, hq, hx⟩ := hg
    obtain ⟨its, rv, p, hz⟩ := I.list hq
    obtain ⟨⟨old, he⟩, hit⟩ := st
    have pl : s.heap.IsList a its.toArray := p.isList
    have nai : a ≠ it := fun z => by
      obtain ⟨o, ho, hc, _⟩ := pl
      obtain ⟨o', ho', hc', _⟩ := hit
      rw [z, ho'] at ho
      cases ho
      rw [hc'] at hc
      injection hc with q
      exact absurd q (by decide)
    have D := Draws.list (prog := X.prog) (w := X.w) (A := X.A.in1) (I.ok.hd hc) it a nai its.toArray
    have ei : its.toArray.size = i := by
      rw [List.size_toArray, ← rv.length]
      exact hx
    obtain ⟨f0, f1, f2, f3, f4, f5⟩ := hf it (by simp)
    refine wpAny_pyNext_enum_endD D he (by rw [ei]; exact ⟨hit, pl⟩) fun h' eb => ⟨rfl, I.turned (t' := s.toks) (fun b o hb q => eb b o hb q) f0 f1 f3 f4 f5⟩
  self := fun _ _ _ _ _ st h => by
    obtain ⟨⟨old, he⟩, _⟩ := st
    exact wpAny_pyIter_enum he h
section
variable {M : Model} {A : Around} {E : Value → Shared → Prop} {s : Shared} {env : Env}
end
section
variable {X : Cx} {es : List Expr} {kk : Nat} {pt : Pos}
end
theorem for_en {Sq : Hp → List V → Prop} {k : Int} {xs : List V} {g : TG} {tb : TS} {D : Ends} {σ : St} {H : Hp} (Pv : Nat → St → Hp → Prop) (h0 : Pv 0 σ H) (hl : ∀ i σ H, i ≤ xs.length → Pv i σ H → Sq H xs)
    (hs : ∀ i x p σ H, xs[i]? = some x → H p = none → Pv i σ H → g (.ref p) σ (upd H p (.tup [.int (k + i), x])) fun σ2 H2 => tb { D with nx := Pv (i + 1), ct := Pv (i + 1), bk := D.nx } σ2 H2) (hd : ∀ σ H, Pv xs.length σ H → D.nx σ H) :
    ∃ W : Nat → Nat → St → Hp → Prop, (∃ m, W 0 m σ H) ∧ ∀ i m σ H, W i m σ H →
      ((Ite Sq k).stop i H ∧ D.nx σ H) ∨ ((Ite Sq k).go i H ∧ ∃ N : St → Hp → Prop, (∀ σ' H', N σ' H' → ∃ m', m' < m ∧ W (i + 1) m' σ' H') ∧ ∀ x H', (Ite Sq k).yld i H x H' → g x σ H' fun σ2 H2 => tb { D with nx := N, ct := N, bk := D.nx } σ2 H2) := by
  refine ⟨fun i m σ H => m = xs.length - i ∧ i ≤ xs.length ∧ Pv i σ H, ⟨xs.length, by simp, Nat.zero_le _, h0⟩, ?_⟩
  rintro i m σ H ⟨rfl, hi, p⟩
  have q := hl i σ H hi p
  by_cases hlt : i < xs.length
  · refine .inr ⟨⟨xs, xs[i], q, by simp [hlt]⟩, Pv (i + 1), fun σ' H' p' => ⟨xs.length - (i + 1), by omega, rfl, hlt, p'⟩, fun x H' y => ?_⟩
    obtain ⟨a, z, e1, hn, e2, y⟩ := y
    subst e1 e2
    exact hs i z a σ H (y xs q) hn p
  · have e : i = xs.length := by omega
    subst e
    exact .inl ⟨⟨xs, q, rfl⟩, hd σ H p⟩
end L2
namespace L2
open PySem PySem.Spec PyProof.Rows
open AutoSeq1 (wpAny_loadPart')
section
variable {X : Cx}
def rInst (K : PySem.W.Frag) : List V → Hp → VK → Prop := fun xs H Q => ∃ x n t b, xs = [x, .ty n] ∧ TyOf K H x t ∧ PySem.W.kitOne K t (.type n) = some b ∧ Q (.bl b) H
theorem call_isinst : CallR X (.builtin "isinstance") (rInst X.K) := by
  intro pins s σ H xs us Q I r h
  obtain ⟨x, n, t, b, e1, ty, e2, q⟩ := h
  subst e1
  obtain ⟨u, v, e3, r1, r2⟩ := vals2 r
  subst e3
  obtain rfl : v = Value.type n := r2
  exact isinst_ok I r1 ty e2 fun tk => ⟨.bl b, H, I.tok tk, rfl, q⟩
end
end L2
namespace L2
open PySem PySem.Spec PyProof.Rows
def compChk (fs : Scope) (N : List Str) (x : Str) (scope : Scope) : Bool :=
  decide (scope.kind = .function) && scope.names.all (fun y => decide (y.2 ≠ .cell)) && scope.names.all (fun y => decide (y.2 = .local → scope.names.lookup y.1 = some .local)) && decide (scope.names.lookup x = some .local) &&
  scope.names.all (fun y => decide (y.2 = .free → fs.names.lookup y.1 = some .cell ∨ fs.names.lookup y.1 = some .free)) &&
  N.all (fun y => match scope.names.lookup y with
    | none => true
    | some .free => decide (fs.names.lookup y = some .cell ∨ fs.names.lookup y = some .free)
    | some _ => false) && decide ((x :: N).Nodup)
theorem compSc_mk {X : Cx} {x : Str} {scope fs : Scope} {N : List Str} (hs : X.env.scope = fs) (hN : X.N = N) (c : compChk fs N x scope = true) : CompSc X x scope := by
  subst hs hN
  unfold compChk at c
  simp only [Bool.and_eq_true, List.all_eq_true, decide_eq_true_eq] at c
  obtain ⟨⟨⟨⟨⟨⟨c1, c2⟩, c3⟩, c4⟩, c5⟩, c6⟩, c7⟩ := c
  refine ⟨c1, c2, c3, c4, c5, fun y hy => ?_, c7⟩
  have q := c6 y hy
  unfold capOk
  cases e : scope.names.lookup y with
  | none => rfl
  | some k =>
    rw [e] at q
    cases k with
    | free =>
      have q2 : X.env.scope.names.lookup y = some .cell ∨ X.env.scope.names.lookup y = some .free := by simpa using q
      show (X.env.kindOf y == some .cell || X.env.kindOf y == some .free) = true
      have e2 : X.env.kindOf y = X.env.scope.names.lookup y := rfl
      rw [e2]
      rcases q2 with z | z <;> rw [z] <;> rfl
    | _ => simp at q
end L2
namespace L2
open PySem PySem.Spec PyProof.Rows
section
variable {X : Cx}
def rMinL (K : PySem.W.Frag) : List V → Hp → VK → Prop := fun xs H Q => ∃ (p : Addr) (ns : List Int), xs = [.ref p] ∧ SqL K H p (ns.map V.int) ∧ 0 < ns.length ∧ ∀ M : Int, M ∈ ns → (∀ b ∈ ns, M ≤ b) → Q (.int M) H
theorem call_minL (hc : X.calm = true) : CallR X (.builtin "min") (rMinL X.K) := by
  intro pins s σ H xs us Q I r h
  obtain ⟨p, ns, e1, hS, hn, q⟩ := h
  subst e1
  obtain ⟨u, e2, ru⟩ := vals1 r
  subst e2
  obtain rfl : u = Value.ref p := ru
  obtain ⟨its, rv, pl, hz⟩ := I.list hS
  have ia := intsAre_of rv
  obtain ⟨zs, ez⟩ := ia.allInts.items
  have en : ns = zs.toList.map (·.1) := by rw [← ia.numsOf, ← nums_intItems, ← ez]
  have hs : 0 < zs.size := by
    rw [en, List.length_map, Array.length_toList] at hn
    exact hn
  have hL := pl.isList
  rw [ez] at hL
  refine min_intList (I.ok.hd hc) hL hs fun v h' tk hv hk => ?_
  obtain ⟨t, e3⟩ := intItems_at hv
  subst e3
  obtain ⟨g1, g2⟩ := argBest_lt (numAt zs) (zs.size - 1)
  refine ⟨.int _, H, I.kept hk, ⟨t, rfl⟩, q _ ?_ fun b hb => ?_⟩
  · rw [en, numAt_eq]
    exact getD_mem (by rw [List.length_map, Array.length_toList]; omega)
  · rw [en] at hb
    obtain ⟨j, hj, e4⟩ := mem_getD hb
    subst e4
    rw [List.length_map, Array.length_toList] at hj
    rw [← numAt_eq]
    exact g2 j (by omega)
def iEnL0 (K : PySem.W.Frag) (ta : TA) : TI := fun σ H R => ta σ H fun vs H1 => ∃ a, vs = [.ref a] ∧ (∃ xs, SqL K H1 a xs) ∧ R (Ite (fun H xs => SqL K H a xs) 0) H1
theorem pi_enL0 {es : List Expr} {kk : Nat} {pt : Pos} {l : Expr} {ta : TA} {p pos : Pos} (hg : Gl X "enumerate") (hm : X.mg "enumerate" = none) (ha : PA X [l] ta) (hs : starEach [l] X.env = [(false, eval l X.env)] := by rfl) :
    PI X (.Tuple es kk pt) (.Call (.Name "enumerate" p) [l] [] pos) (iEnL0 X.K ta) := by
  intro pins s σ H R I h
  refine Call_ (ld_blt I hg hm boot_enumerate (PyProof.Rows.callWith_type1 (thn (ha pos pins s σ H _ I h) fun us s1 ⟨vs, H1, I1, r1, q1⟩ => ?_) hs rfl))
  obtain ⟨a, e1, ⟨xs, hq⟩, q⟩ := q1
  subst e1
  obtain ⟨u, e1, r3⟩ := vals1 r1
  subst e1
  obtain rfl : u = Value.ref a := r3
  obtain ⟨its, rv, pl, hz⟩ := I1.list hq
  refine call_enumerate_list pl.isList fun h' he hit hsz kp => ?_
  have I3 : Inv X pins σ H1 { s1 with heap := h' } := I1.kept (t' := s1.toks) kp
  refine wpAny_pyIter_enum he ⟨s1.heap.objs.size + 1, [s1.heap.objs.size + 1, s1.heap.objs.size], _, _, H1, rfl, I3, turn_enL a _ _ 0 (Nat.succ_ne_self _), ⟨⟨.none, by rw [show (0 : Int) + ((0 : Nat) : Int) = 0 by omega]; exact he⟩, hit⟩, fun b hb => ?_, q⟩
  rcases List.mem_cons.mp hb with z | z
  · subst z
    exact I1.fpOk (Nat.le_succ _) (I1.hok.fresh (Nat.le_succ _))
  · have z : b = s1.heap.objs.size := by simpa using z
    subst z
    exact I1.fpOk (Nat.le_refl _) (I1.hok.fresh (Nat.le_refl _))
end
theorem comp_listG {K : PySem.W.Frag} {a : Addr} {xs : List V} {te : TE} {σ : St} {H : Hp} {Q : VK} (Pv : Addr → Nat → List V → Hp → Prop) (hn : xs.length < sizeLine) (h0 : ∀ D, H D = none → Pv D 0 [] (upd H D (.lst [])))
    (hs : ∀ D i l H', Pv D i l H' → SqL K H' a xs) (hl : ∀ D i l H', Pv D i l H' → l.length ≤ i)
    (he : ∀ (D : Addr) (i : Nat) (x : V) (l : List V) (H' : Hp) (Q' : VK), xs[i]? = some x → Pv D i l H' → (∀ y H3, H3 D = some (.lst l) → Pv D (i + 1) (l ++ [y]) (upd H3 D (.lst (l ++ [y]))) → Q' y H3) → te (some x :: σ) H' Q')
    (hd : ∀ D l H', Pv D xs.length l H' → Q (.ref D) H') : CompGo (Itl K a) H σ ttAll te Q := by
  intro D hD
  refine ⟨fun i m H' => m = xs.length - i ∧ i ≤ xs.length ∧ ∃ l, Pv D i l H', ⟨xs.length, by omega, Nat.zero_le _, [], h0 D hD⟩, ?_⟩
  rintro i m H' ⟨rfl, hi, l, hp⟩
  have q := hs D i l H' hp
  by_cases hlt : i < xs.length
  · refine .inr ⟨⟨xs, xs[i], q, by simp [hlt]⟩, fun x H2 y => ?_⟩
    obtain ⟨e, y⟩ := y
    subst e
    unfold ttAll
    refine iteT (he D i x l H2 _ (y xs q) hp fun v H4 z1 z2 => ?_)
    have hl2 := hl D i l H2 hp
    exact ⟨l, z1, Nat.lt_of_le_of_lt hl2 (by omega), xs.length - (i + 1), by omega, rfl, hlt, l ++ [v], z2⟩
  · have e : i = xs.length := by omega
    subst e
    exact .inl ⟨⟨xs, q, Nat.le_refl _⟩, hd D l H' hp⟩
section
variable {X : Cx} {K : PySem.W.Frag}
theorem call_listK (hK : X.K = K) : CallR X (.type "list") (fun xs H Q => ∃ p ys, xs = [.ref p] ∧ (SqL K H p ys ∨ SqT K H p ys) ∧ ∀ l, H l = none → Q (.ref l) (upd H l (.lst ys))) := by
  subst hK
  exact call_list_of
end
end L2
namespace L2
open PySem
section
variable {prog : Program} {w : World} {A : Around} {R : Result → Shared → Prop} {I Z : Addr} {fp wr : List Addr} {n : Nat} {P : Nat → Value → Prop} {St : Nat → Heap → Prop} {Ok : Heap → Prop}
end
section
variable {prog : Program} {w : World} {A : Around} {E : Value → Shared → Prop} {s : Shared}
end
end L2
namespace L2
open PySem PySem.Spec PyProof.Rows
theorem Vals.at {xs : List V} {us : List Value} {i : Nat} {u : Value} (r : Vals xs us) (h : us[i]? = some u) : ∃ x, xs[i]? = some x ∧ RelV x u := by
  have hi : i < us.length := (List.getElem?_eq_some_iff.mp h).1
  have hl := r.length
  obtain ⟨w, q, p⟩ := r.get (i := i) (x := xs[i]) (by simp [show i < xs.length by omega])
  rw [h] at q
  cases q
  exact ⟨xs[i], by simp [show i < xs.length by omega], p⟩
theorem bl_at {bs : List Bool} {us : List Value} {i : Nat} {u : Value} (r : Vals (bs.map V.bl) us) (h : us[i]? = some u) : ∃ b, bs[i]? = some b ∧ u = .bool b := by
  obtain ⟨x, hx, p⟩ := r.at h
  rw [List.getElem?_map] at hx
  cases e : bs[i]? with
  | none => rw [e] at hx; cases hx
  | some b =>
    rw [e] at hx
    have q : V.bl b = x := Option.some.inj hx
    subst q
    exact ⟨b, rfl, p⟩
theorem all_getD : ∀ bs : List Bool, ((List.range bs.length).all fun i => (bs[i]?).getD true) = bs.all id
  | [] => rfl
  | b :: bs => by
    have ih := all_getD bs
    rw [List.length_cons, List.range_succ_eq_map, List.all_cons, List.all_map, List.all_cons, ← ih]
    rfl
section
variable {X : Cx}
def rAllL (K : PySem.W.Frag) : List V → Hp → VK → Prop := fun xs H Q => ∃ (p : Addr) (bs : List Bool), xs = [.ref p] ∧ SqL K H p (bs.map V.bl) ∧ Q (.bl (bs.all id)) H
theorem call_allL (hc : X.calm = true) : CallR X (.builtin "all") (rAllL X.K) := by
  intro pins s σ H xs us Q I r h
  obtain ⟨p, bs, e1, hS, q⟩ := h
  subst e1
  obtain ⟨u, e2, ru⟩ := vals1 r
  subst e2
  obtain rfl : u = Value.ref p := ru
  obtain ⟨its, rv, pl, hz⟩ := I.list hS
  have hL := pl.isList
  have lt : p < s.heap.objs.size := by
    obtain ⟨_, e, _⟩ := hL
    exact Heap.lt_size e
  refine call_all_walk (wpAny_pyIter_list hL ?_)
  refine ⟨s.heap.objs.size, [s.heap.objs.size, p], [s.heap.objs.size], its.toArray.size, _, _, fun i => (bs[i]?).getD true, rfl, Walks.list (A := X.A.in1) (I.ok.hd hc) _ p (Nat.ne_of_lt lt) its.toArray,
    ⟨⟨_, Heap.get?_push_size _ rfl, rfl, rfl⟩, hL.push _⟩, fun i v s' Q' E' hP hQ => ?_, fun h' tk hk => ?_⟩
  · obtain ⟨b, e, e3⟩ := bl_at rv (by simpa using hP)
    subst e3
    simp only [e, Option.getD_some] at hQ
    exact wpAny_truthy_bool hQ
  · have e : ((List.range its.toArray.size).all fun i => (bs[i]?).getD true) = bs.all id := by
      have hl := rv.length
      rw [List.length_map] at hl
      rw [List.size_toArray, ← hl, all_getD]
    rw [e]
    refine ⟨.bl _, H, I.kept (t' := tk) fun b o eb => hk b o (fun hm => ?_) (Heap.get?_push_of_some _ eb), rfl, q⟩
    rw [List.mem_singleton.mp hm] at eb
    exact Nat.lt_irrefl _ (Heap.lt_size eb)
def rEqN (K : PySem.W.Frag) (neg : Bool) : R2 := fun x y H Q => ∃ a b xs, x = .ref a ∧ y = .ref b ∧ SqL K H a xs ∧ SqL K H b [] ∧ Q (.bl (if neg then !xs.isEmpty else xs.isEmpty)) H
theorem op_neN (hu : X.A.units < cLine) : OpR X (compareOp .NotEq) (rEqN X.K true) := by
  intro pins s σ H x y v u Q I rx ry h
  obtain ⟨a, b, xs, e1, e2, hA, hB, q⟩ := h
  subst e1 e2
  obtain rfl : v = Value.ref a := rx
  obtain rfl : u = Value.ref b := ry
  obtain ⟨its, r, pl, hz⟩ := I.list hA
  obtain ⟨its2, r2, pl2, hz2⟩ := I.list hB
  have l1 := r.length
  have l2 := r2.length
  rw [List.length_nil] at l2
  cases xs with
  | nil =>
    rw [List.length_nil] at l1
    refine SeqAt.RcNeAt.lists (e := fun _ => true) pl.isList pl2.isList (by rw [List.size_toArray, List.size_toArray]; omega) hu (fun j h1 h2 => by rw [List.size_toArray] at h1; omega) _ _ _ _ ⟨.bl false, H, I, ?_, q⟩
    show Value.bool _ = Value.bool false
    congr 1
    rw [show ((List.range its.toArray.size).all fun _ => true) = true from List.all_eq_true.mpr fun _ _ => rfl]
    rfl
  | cons x0 xs0 =>
    rw [List.length_cons] at l1
    refine SeqAt.RcNeAt.lists_lengths pl.isList pl2.isList ?_ hu _ _ _ _ ⟨.bl true, H, I, rfl, q⟩
    rw [List.size_toArray, List.size_toArray]
    simp
    omega
end
section
variable {X : Cx}
end
end L2
namespace L2
open PySem PySem.Spec PyProof.Rows
section
variable {κ : Type} [DecidableEq κ]
def valV (kvs : List (κ × V)) (k : κ) : Option V := (kvs.find? fun kv => decide (kv.1 = k)).map (·.2)
def putK (kvs : List (κ × V)) (k : κ) (v : V) : List (κ × V) :=
  if (kvs.any fun kv => decide (kv.1 = k)) = true then kvs.map (fun kv => if kv.1 = k then (kv.1, v) else kv) else kvs ++ [(k, v)]
theorem valV_pos {p : κ × V} {r : List (κ × V)} {k : κ} (e : p.1 = k) : valV (p :: r) k = some p.2 := by simp [valV, List.find?_cons, e]
theorem valV_neg {p : κ × V} {r : List (κ × V)} {k : κ} (e : ¬ p.1 = k) : valV (p :: r) k = valV r k := by simp [valV, List.find?_cons, e]
theorem valV_any (k : κ) : ∀ kvs : List (κ × V), (kvs.any fun kv => decide (kv.1 = k)) = (valV kvs k).isSome
  | [] => rfl
  | p :: r => by
    rw [List.any_cons]
    by_cases e : p.1 = k
    · simp only [valV_pos e, decide_eq_true e, Bool.true_or, Option.isSome_some]
    · rw [valV_neg e, decide_eq_false e, Bool.false_or]; exact valV_any k r
theorem valV_map (k j : κ) (y : V) : ∀ kvs : List (κ × V), valV (kvs.map fun kv => if kv.1 = k then (kv.1, y) else kv) j = (valV kvs j).map fun x => if j = k then y else x
  | [] => rfl
  | p :: r => by
    have ih := valV_map k j y r
    rw [List.map_cons]
    by_cases h : p.1 = k
    · rw [if_pos h]
      by_cases e : p.1 = j
      · rw [valV_pos (p := (p.1, y)) e, valV_pos e, Option.map_some, if_pos (e.symm.trans h)]
      · rw [valV_neg (p := (p.1, y)) e, valV_neg e, ih]
    · rw [if_neg h]
      by_cases e : p.1 = j
      · rw [valV_pos (p := p) e, valV_pos e, Option.map_some, if_neg (fun z => h (e.trans z))]
      · rw [valV_neg (p := p) e, valV_neg e, ih]
theorem valV_snoc (k j : κ) (y : V) : ∀ kvs : List (κ × V), valV kvs k = none → valV (kvs ++ [(k, y)]) j = if j = k then some y else valV kvs j
  | [], _ => by
    by_cases e : k = j
    · rw [if_pos e.symm]; exact valV_pos (p := (k, y)) e
    · rw [if_neg (fun z => e z.symm)]; exact valV_neg (p := (k, y)) e
  | p :: r, hn => by
    rw [List.cons_append]
    have hk : ¬ p.1 = k := fun z => by rw [valV_pos z] at hn; cases hn
    rw [valV_neg hk] at hn
    have ih := valV_snoc k j y r hn
    by_cases e : p.1 = j
    · rw [valV_pos e, valV_pos e, if_neg (fun z => hk (e.trans z))]
    · rw [valV_neg e, valV_neg e, ih]
theorem valV_put (kvs : List (κ × V)) (k j : κ) (y : V) : valV (putK kvs k y) j = if j = k then some y else valV kvs j := by
  unfold putK
  by_cases a : (kvs.any fun kv => decide (kv.1 = k)) = true
  · rw [if_pos a, valV_map]
    rw [valV_any] at a
    by_cases e : j = k
    · obtain ⟨x, hx⟩ := Option.isSome_iff_exists.mp a
      rw [if_pos e, e, hx, Option.map_some, if_pos rfl]
    · rw [if_neg e]
      cases valV kvs j with
      | none => rfl
      | some x => rw [Option.map_some, if_neg e]
  · rw [if_neg a]
    refine valV_snoc k j y kvs ?_
    rw [valV_any] at a
    cases q : valV kvs k with
    | none => rfl
    | some x => rw [q] at a; exact (a rfl).elim
theorem length_putK (kvs : List (κ × V)) (k : κ) (v : V) : (putK kvs k v).length ≤ kvs.length + 1 := by
  unfold putK
  split
  · rw [List.length_map]; omega
  · rw [List.length_append, List.length_cons, List.length_nil]; omega
theorem RelO.isSome_eq {o : Option V} {u : Option Value} (r : RelO o u) : o.isSome = u.isSome := by
  cases o with
  | none => cases u with
    | none => rfl
    | some _ => exact (show False from r).elim
  | some _ => cases u with
    | none => exact (show False from r).elim
    | some _ => rfl
theorem KV.val {kvs : List (κ × V)} {vs : List (κ × Value)} (r : KV kvs vs) (k : κ) : RelO (valV kvs k) (valueAt vs k) := by
  unfold KV at r
  induction r with
  | nil => exact True.intro
  | @cons p q ps qs h t ih =>
    obtain ⟨h1, h2⟩ := h
    by_cases e : p.1 = k
    · have e' : q.1 = k := h1.symm.trans e
      have b : valueAt (q :: qs) k = some q.2 := by simp [valueAt, List.find?_cons, e']
      rw [valV_pos e, b]; exact h2
    · have e' : ¬ q.1 = k := fun z => e (h1.trans z)
      have b : valueAt (q :: qs) k = valueAt qs k := by simp [valueAt, List.find?_cons, e']
      rw [valV_neg e, b]; exact ih
theorem KV.any {kvs : List (κ × V)} {vs : List (κ × Value)} (r : KV kvs vs) (k : κ) : (kvs.any fun kv => decide (kv.1 = k)) = vs.any fun kv => decide (kv.1 = k) := by
  unfold KV at r
  induction r with
  | nil => rfl
  | cons h t ih => rw [List.any_cons, List.any_cons, ih, h.1]
theorem KV.repl {kvs : List (κ × V)} {vs : List (κ × Value)} (r : KV kvs vs) (k : κ) {y : V} {u : Value} (ry : RelV y u) :
    KV (kvs.map fun kv => if kv.1 = k then (kv.1, y) else kv) (vs.map fun kv => if kv.1 = k then (kv.1, u) else kv) := by
  unfold KV at r ⊢
  induction r with
  | nil => exact .nil
  | @cons p q ps qs h t ih =>
    rw [List.map_cons, List.map_cons]
    refine .cons ?_ ih
    obtain ⟨h1, h2⟩ := h
    by_cases e : p.1 = k
    · rw [if_pos e, if_pos (h1.symm.trans e)]; exact ⟨h1, ry⟩
    · rw [if_neg e, if_neg (fun z => e (h1.trans z))]; exact ⟨h1, h2⟩
theorem KV.put {kvs : List (κ × V)} {vs : List (κ × Value)} (r : KV kvs vs) (k : κ) {y : V} {u : Value} (ry : RelV y u) : KV (putK kvs k y) (stored vs k u) := by
  unfold putK stored
  rw [r.any k]
  by_cases e : (vs.any fun kv => decide (kv.1 = k)) = true
  · rw [if_pos e, if_pos e]; exact r.repl k ry
  · rw [if_neg e, if_neg e]; exact Paired.snoc r ⟨rfl, ry⟩
theorem KV.length {kvs : List (κ × V)} {vs : List (κ × Value)} (r : KV kvs vs) : kvs.length = vs.length := Paired.length r
end
theorem kV_is {P : Program} {w : World} {k : Key} {u : Value} (r : RelV (kV k) u) : (mixKind P w).is k u = true := by
  cases k with
  | inl i => obtain ⟨t, e⟩ := (show ∃ t, u = Value.int i t from r); subst e; exact mixKind_int P w i t
  | inr x => obtain ⟨t, e⟩ := (show ∃ t, u = Value.str x t from r); subst e; exact mixKind_str P w x t
theorem items_are {P : Program} {w : World} : ∀ {ks : List Key} {us : List Value}, Vals (ks.map kV) us → ItemsAre (mixKind P w) ks us
  | [], _, r => by rw [List.map_nil] at r; cases r; exact .nil
  | k :: ks, _, r => by
    rw [List.map_cons] at r
    cases r with
    | cons h t => exact .cons (kV_is h) (items_are t)
abbrev KT (H : Hp) : List (List Key × V) → List (List Key × Addr × Value) → Prop := Paired fun p q => p.1 = q.1 ∧ H q.2.1 = some (.tup (p.1.map kV)) ∧ RelV p.2 q.2.2
theorem KT.val {H : Hp} {kvs : List (List Key × V)} {xs : List (List Key × Addr × Value)} (r : KT H kvs xs) (k : List Key) : RelO (valV kvs k) ((atKey xs k).map (·.2)) := by
  induction r with
  | nil => exact True.intro
  | @cons p q ps qs h t ih =>
    obtain ⟨h1, _, h2⟩ := h
    by_cases e : p.1 = k
    · have e' : q.1 = k := h1.symm.trans e
      have b : atKey (q :: qs) k = some q.2 := by simp [atKey, List.find?_cons, e']
      rw [valV_pos e, b]; exact h2
    · have e' : ¬ q.1 = k := fun z => e (h1.trans z)
      have b : atKey (q :: qs) k = atKey qs k := by simp [atKey, List.find?_cons, e']
      rw [valV_neg e, b]; exact ih
theorem KT.repl {H : Hp} {kvs : List (List Key × V)} {xs : List (List Key × Addr × Value)} (r : KT H kvs xs) (k : List Key) {y : V} {u : Value} (ry : RelV y u) :
    KT H (kvs.map fun kv => if kv.1 = k then (kv.1, y) else kv) (xs.map (putAt k u)) := by
  induction r with
  | nil => exact .nil
  | @cons p q ps qs h t ih =>
    rw [List.map_cons, List.map_cons]
    refine .cons ?_ ih
    obtain ⟨h1, h2, h3⟩ := h
    unfold putAt
    by_cases e : p.1 = k
    · rw [if_pos e, if_pos (h1.symm.trans e)]; exact ⟨h1, h2, ry⟩
    · rw [if_neg e, if_neg (fun z => e (h1.trans z))]; exact ⟨h1, h2, h3⟩
theorem KT.put {H : Hp} {kvs : List (List Key × V)} {xs : List (List Key × Addr × Value)} (r : KT H kvs xs) (k : List Key) {b : Addr} {y : V} {u : Value} (hb : H b = some (.tup (k.map kV))) (ry : RelV y u) :
    KT H (putK kvs k y) (storedH xs k b u) := by
  have e : (kvs.any fun kv => decide (kv.1 = k)) = (atKey xs k).isSome := by
    rw [valV_any, (r.val k).isSome_eq, Option.isSome_map]
  unfold putK storedH
  rw [e]
  by_cases q : (atKey xs k).isSome = true
  · rw [if_pos q, if_pos q]; exact r.repl k ry
  · rw [if_neg q, if_neg q]; exact Paired.snoc r ⟨rfl, hb, ry⟩
theorem KT.keeps {H H' : Hp} {kvs : List (List Key × V)} {xs : List (List Key × Addr × Value)} (r : KT H kvs xs) (ht : ∀ b ys, H b = some (.tup ys) → H' b = some (.tup ys)) : KT H' kvs xs :=
  Paired.mapP r fun _ _ z => ⟨z.1, ht _ _ z.2.1, z.2.2⟩
section
variable {P : Program} {w : World} {H : Hp} {h : Heap} {a : Addr}
theorem rd_of {u : HO} (ok : HOk P w H h) (e : Rd H a u) : ObjOk P w H h a u := e.ok ok
theorem dk_rd {kvs : List (Key × V)} (ok : HOk P w H h) (e : Rd H a (.dK kvs)) : kvs.length ≤ sizeLine ∧ (a == sysModules) = false ∧ ∃ vs, KV kvs vs ∧ h.DictOf (mixKind P w) a vs :=
  show ObjOk P w H h a (.dK kvs) from rd_of ok e
theorem dk_of {kvs : List (Key × V)} (ok : HOk P w H h) (e : H a = some (.dK kvs)) : kvs.length ≤ sizeLine ∧ (a == sysModules) = false ∧ ∃ vs, KV kvs vs ∧ h.DictOf (mixKind P w) a vs := dk_rd ok (.inl e)
theorem key_of {ks : List Key} (ok : HOk P w H h) (e : H a = some (.tup (ks.map kV))) : (tupleKind (mixKind P w)).is h ks a := by
  obtain ⟨_, its, r, o, h1, h2, n, h3⟩ := (show ObjOk P w H h a (.tup (ks.map kV)) from ok a _ e)
  exact ⟨o, its.toArray, n, h1, h2, h3, by simpa using items_are r⟩
theorem dt_rd {kvs : List (List Key × V)} (ok : HOk P w H h) (e : Rd H a (.dT kvs)) : kvs.length ≤ sizeLine ∧ (a == sysModules) = false ∧
    ∃ xs, KT H kvs xs ∧ h.DictOfH (tupleKind (mixKind P w)) a xs := by
  obtain ⟨z, y, xs, r, o, es, ep, h1, h2, h3, h4, h5⟩ := (show ObjOk P w H h a (.dT kvs) from rd_of ok e)
  refine ⟨z, y, xs, r, o, es, ep, h1, h2, h3, h4, fun x hx => ?_, h5⟩
  have all : ∀ {l : List (List Key × V)} {m : List (List Key × Addr × Value)}, KT H l m → ∀ x ∈ m, (tupleKind (mixKind P w)).is h x.1 x.2.1 := by
    intro l m q
    induction q with
    | nil => intro x hx; exact nomatch hx
    | @cons p q ps qs hq t ih =>
      intro x hx
      rcases List.mem_cons.mp hx with e | hx
      · subst e
        exact key_of ok (by rw [← hq.1]; exact hq.2.1)
      · exact ih x hx
  exact all r x hx
theorem dt_of {kvs : List (List Key × V)} (ok : HOk P w H h) (e : H a = some (.dT kvs)) : kvs.length ≤ sizeLine ∧ (a == sysModules) = false ∧
    ∃ xs, KT H kvs xs ∧ h.DictOfH (tupleKind (mixKind P w)) a xs := dt_rd ok (.inl e)
end
def DGet (H : Hp) (a : Addr) (y : V) (r : Option V) : Prop :=
  (∃ kvs k, Rd H a (.dK kvs) ∧ y = kV k ∧ r = valV kvs k) ∨ ∃ kvs k b, Rd H a (.dT kvs) ∧ y = .ref b ∧ H b = some (.tup (k.map kV)) ∧ r = valV kvs k
def DPut (H : Hp) (a : Addr) (y v : V) (H' : Hp) : Prop :=
  (∃ kvs k, H a = some (.dK kvs) ∧ y = kV k ∧ kvs.length < sizeLine ∧ H' = upd H a (.dK (putK kvs k v))) ∨
  ∃ kvs k b, H a = some (.dT kvs) ∧ y = .ref b ∧ H b = some (.tup (k.map kV)) ∧ kvs.length < sizeLine ∧ H' = upd H a (.dT (putK kvs k v))
theorem DGet.k {H : Hp} {a : Addr} {kvs : List (Key × V)} {k : Key} (e : H a = some (.dK kvs)) : DGet H a (kV k) (valV kvs k) := .inl ⟨kvs, k, .inl e, rfl, rfl⟩
theorem DGet.t {H : Hp} {a b : Addr} {kvs : List (List Key × V)} {k : List Key} (e : H a = some (.dT kvs)) (eb : H b = some (.tup (k.map kV))) : DGet H a (.ref b) (valV kvs k) := .inr ⟨kvs, k, b, .inl e, rfl, eb, rfl⟩
theorem DPut.k {H : Hp} {a : Addr} {kvs : List (Key × V)} {k : Key} {v : V} (e : H a = some (.dK kvs)) (hl : kvs.length < sizeLine) : DPut H a (kV k) v (upd H a (.dK (putK kvs k v))) := .inl ⟨kvs, k, e, rfl, hl, rfl⟩
theorem DPut.t {H : Hp} {a b : Addr} {kvs : List (List Key × V)} {k : List Key} {v : V} (e : H a = some (.dT kvs)) (eb : H b = some (.tup (k.map kV))) (hl : kvs.length < sizeLine) :
    DPut H a (.ref b) v (upd H a (.dT (putK kvs k v))) := .inr ⟨kvs, k, b, e, rfl, eb, hl, rfl⟩
section
variable {X : Cx} {pins : List (Addr × Obj)} {σ : St} {H : Hp} {s : Shared} {a : Addr} {y v : V} {u r : Value} {o : Option V} {A : Around} {E : Value → Shared → Prop}
theorem Inv.big (I : Inv X pins σ H s) : sysModules < s.heap.objs.size := by
  have h : mainGlobals < s.heap.objs.size := (I.mod.glob.keeps I.bk).lt
  exact Nat.lt_trans (by decide) h
theorem d_getItem {Q : Value → Shared → Prop} (hu : A.units + 1 < cLine) (I : Inv X pins σ H s) (g : DGet H a y (some v)) (ry : RelV y u) (h : ∀ w' s', Inv X pins σ H s' → RelV v w' → Q w' s') :
    wpAny (model X.prog X.w) A (getItem (.ref a) u) Q E s := by
  rcases g with ⟨kvs, k, e, ey, l⟩ | ⟨kvs, k, b, e, ey, eb, l⟩
  · subst ey
    obtain ⟨z, hd, vs, rel, dd⟩ := dk_rd I.hok e
    obtain ⟨w', hw, rw'⟩ := RelO.some_of (v := v) (o := valueAt vs k) (by rw [l]; exact rel.val k)
    exact wpAny_getItem_of (kV_is ry) dd.mapOf hw (h w' _ (I.tok _) rw')
  · subst ey
    cases (show u = Value.ref b from ry)
    obtain ⟨z, hd, xs, rel, dd⟩ := dt_rd I.hok e
    obtain ⟨w', hw, rw'⟩ := RelO.some_of (v := v) (o := (atKey xs k).map (·.2)) (by rw [l]; exact rel.val k)
    obtain ⟨p, hp, hp2⟩ := Option.map_eq_some_iff.mp hw
    refine wpAny_getItem_heap (tupleKind_room_in1 hu) (key_of I.hok eb) dd hp ?_
    rw [hp2]
    exact h w' _ (I.tok _) rw'
theorem d_in {Q : Value → Shared → Prop} (hu : A.units + 1 < cLine) (I : Inv X pins σ H s) (g : DGet H a y o) (ry : RelV y u) (h : ∀ s', Inv X pins σ H s' → Q (.bool o.isSome) s') :
    wpAny (model X.prog X.w) A (compareOp .In u (.ref a)) Q E s := by
  rcases g with ⟨kvs, k, e, ey, l⟩ | ⟨kvs, k, b, e, ey, eb, l⟩
  · subst ey
    obtain ⟨z, hd, vs, rel, dd⟩ := dk_rd I.hok e
    refine wpAny_in_of (kV_is ry) hd dd.mapOf ?_
    rw [← (rel.val k).isSome_eq, ← l]
    exact h _ (I.tok _)
  · subst ey
    cases (show u = Value.ref b from ry)
    obtain ⟨z, hd, xs, rel, dd⟩ := dt_rd I.hok e
    refine wpAny_in_heap (tupleKind_room_in1 hu) (key_of I.hok eb) hd dd ?_
    have q := (rel.val k).isSome_eq
    rw [Option.isSome_map] at q
    rw [← q, ← l]
    exact h _ (I.tok _)
theorem d_notIn {Q : Value → Shared → Prop} (hu : A.units + 1 < cLine) (I : Inv X pins σ H s) (g : DGet H a y o) (ry : RelV y u) (h : ∀ s', Inv X pins σ H s' → Q (.bool (!o.isSome)) s') :
    wpAny (model X.prog X.w) A (compareOp .NotIn u (.ref a)) Q E s := by
  rcases g with ⟨kvs, k, e, ey, l⟩ | ⟨kvs, k, b, e, ey, eb, l⟩
  · subst ey
    obtain ⟨z, hd, vs, rel, dd⟩ := dk_rd I.hok e
    refine wpAny_notIn_of (kV_is ry) hd dd.mapOf ?_
    rw [← (rel.val k).isSome_eq, ← l]
    exact h _ (I.tok _)
  · subst ey
    cases (show u = Value.ref b from ry)
    obtain ⟨z, hd, xs, rel, dd⟩ := dt_rd I.hok e
    refine wpAny_notIn_heap (tupleKind_room_in1 hu) (key_of I.hok eb) hd dd ?_
    have q := (rel.val k).isSome_eq
    rw [Option.isSome_map] at q
    rw [← q, ← l]
    exact h _ (I.tok _)
theorem d_write {h' : Heap} {t' : Nat} {ob : HO} (I : Inv X pins σ H s) (mu : Mut (H a)) (hs : Heap.SameBut a s.heap h') (he : ∃ q, h'.get? a = some q) (new : ObjOk X.prog X.w (upd H a ob) h' a ob) :
    Inv X pins σ (upd H a ob) { s with heap := h', toks := t' } :=
  I.write (x := a) (e := a) mu (.inl rfl) (fun b q hb z => (hs.2 b hb).trans z) he new
theorem dk_new {P : Program} {w : World} {H' : Hp} {h' : Heap} {kvs : List (Key × V)} {vs : List (Key × Value)} (z : kvs.length ≤ sizeLine) (hd : (a == sysModules) = false) (rel : KV kvs vs) (dd : h'.DictOf (mixKind P w) a vs) :
    ObjOk P w H' h' a (.dK kvs) := ⟨z, hd, vs, rel, dd⟩
theorem d_setItem {H' : Hp} {Q : Unit → Shared → Prop} (hu : A.units + 1 < cLine) (I : Inv X pins σ H s) (g : DPut H a y v H') (ry : RelV y u) (rv : RelV v r) (h : ∀ s', Inv X pins σ H' s' → Q () s') :
    wpAny (model X.prog X.w) A (setItem (.ref a) u r) Q E s := by
  rcases g with ⟨kvs, k, e, ey, l, eH⟩ | ⟨kvs, k, b, e, ey, eb, l, eH⟩
  · subst ey eH
    obtain ⟨z, hd, vs, rel, dd⟩ := dk_of I.hok e
    have hz : vs.length ≤ sizeLine := by rw [← rel.length]; exact z
    have hl : (putK kvs k v).length ≤ sizeLine := by have := length_putK kvs k v; omega
    refine wpAny_setItem_pairs (hsz := hz) (kV_is ry) dd fun h' dd' hs => h _ ?_
    have he : ∃ q, h'.get? a = some q := let ⟨q, _, _, hq, _⟩ := dd'; ⟨q, hq⟩
    exact d_write I (by rw [e]; exact True.intro) hs he (dk_new hl hd (rel.put k rv) dd')
  · subst ey eH
    cases (show u = Value.ref b from ry)
    obtain ⟨z, hd, xs, rel, dd⟩ := dt_of I.hok e
    have hz : xs.length ≤ sizeLine := by rw [← Paired.length rel]; exact z
    have hl : (putK kvs k v).length ≤ sizeLine := by have := length_putK kvs k v; omega
    refine wpAny_setItem_heap (hsz := hz) (tupleKind_room_in1 hu) (key_of I.hok eb) dd fun h' dd' hs => h _ ?_
    obtain ⟨q, es, ep, hq, h2, h3, h4, _, h5⟩ := dd'
    refine d_write I (by rw [e]; exact True.intro) hs ⟨q, hq⟩ ⟨hl, hd, _, (rel.put k eb rv).keeps fun c ys ec => ?_, q, es, ep, hq, h2, h3, h4, h5⟩
    rw [upd_ne (ne_of ec e (fun z => nomatch z))]
    exact ec
end
section
variable {X : Cx} {pins : List (Addr × Obj)} {σ : St} {H : Hp} {s : Shared} {a : Addr} {kvs : List (Key × V)} {k : Key} {u : Value} {A : Around} {E : Value → Shared → Prop}
end
def NoSl (i : Expr) : Prop := ∀ ov iv, subscripted i false ov iv = operate [ov, iv] (getItem ov iv)
theorem subD_of {prog : Program} {w : World} {A : Around} {E : Value → Shared → Prop} {s : Shared} {env : Env} {value slice : Expr} {pos : Pos} {T id : String} {Q : Value → Shared → Prop}
    (hl : typeLookup (.type T) "__getitem__" = pure (some (.builtin id))) (hs : NoSl slice)
    (h : wpAny (model prog w) A (eval value env) (fun o s₁ => wpAny (model prog w) A (eval slice env) (fun i s₂ => s₂.TypeIs o T ∧ wpAny (model prog w) A (getItem o i) Q E s₂) E s₁) E s) :
    wpAny (model prog w) A (eval (.Subscript value slice pos) env) Q E s := by
  refine Subscript_ (wpAny_mono h (fun o s₁ h₁ => wpAny_mono h₁ (fun i s₂ h₂ => ?_) fun _ _ x => x) fun _ _ x => x)
  obtain ⟨hT, h₂⟩ := h₂
  unfold subscriptTail
  refine wpAny_bind ?_
  rw [getitemInPython_of_ne hT.not_modules]
  refine wpAny_bind (wpAny_specialOf hT hl ?_)
  have fin : wpAny (model prog w) A (subscripted slice false o i) (fun r s₃ => wpAny (model prog w) A (letTemporaryGo value o r >>= fun _ => pure r) Q E s₃) E s₂ := by
    rw [hs o i]
    exact wpAny_operating (wpAny_mono h₂ (fun r s₃ h₃ => wpAny_bind (wpAny_letTemporaryGo (wpAny_pure h₃))) fun _ _ x => x)
  first
    | exact wpAny_pure (wpAny_bind fin)
    | exact wpAny_bind (wpAny_pure (wpAny_bind fin))
    | exact wpAny_bind fin
theorem dict_typeIs {X : Cx} {pins : List (Addr × Obj)} {σ : St} {H : Hp} {s : Shared} {a : Addr} {y : V} {o : Option V} (I : Inv X pins σ H s) (g : DGet H a y o) : s.TypeIs (.ref a) "dict" := by
  rcases g with ⟨kvs, k, e, _, _⟩ | ⟨kvs, k, b, e, _, _, _⟩
  · obtain ⟨_, _, vs, _, dd⟩ := dk_rd I.hok e
    exact dd.typeIs
  · obtain ⟨_, _, xs, _, dd⟩ := dt_rd I.hok e
    exact dd.typeIs
def tDGet (td ty : TE) : TE := fun σ H Q => td σ H fun x H1 => ty σ H1 fun y H2 => ∃ a v, x = .ref a ∧ DGet H2 a y (some v) ∧ Q v H2
def tDIn (ty td : TE) : TE := fun σ H Q => ty σ H fun y H1 => td σ H1 fun x H2 => ∃ a o, x = .ref a ∧ DGet H2 a y o ∧ Q (.bl o.isSome) H2
def tDNotIn (ty td : TE) : TE := fun σ H Q => ty σ H fun y H1 => td σ H1 fun x H2 => ∃ a o, x = .ref a ∧ DGet H2 a y o ∧ Q (.bl (!o.isSome)) H2
def sDPut (td ty tv : TE) : TS := fun D σ H => tv σ H fun v H1 => td σ H1 fun x H2 => ty σ H2 fun y H3 => ∃ a H4, x = .ref a ∧ DPut H3 a y v H4 ∧ D.nx σ H4
section
variable {X : Cx} {o i e value : Expr} {pos pos' tpos : Pos} {td ty tv : TE}
theorem pe_dget (hu : X.A.units + 1 < cLine) (ho : PE X o td) (hi : PE X i ty) (hs : NoSl i) : PE X (.Subscript o i pos) (tDGet td ty) := by
  intro pins s σ H Q I h
  refine subD_of PySem.F.slot_dict_getitem.lookup hs (thn (ho pins s σ H _ I h) fun u s1 ⟨x, H1, I1, rx, q1⟩ => thn (hi pins s1 σ H1 _ I1 q1) fun iv s2 ⟨y, H2, I2, ry, a, v, ex, g, q2⟩ => ?_)
  subst ex
  obtain rfl : u = Value.ref a := rx
  exact ⟨dict_typeIs I2 g, d_getItem hu I2 g ry fun w' s3 I3 rw' => ⟨v, H2, I3, rw', q2⟩⟩
theorem pc_din (hu : X.A.units + 1 < cLine) (hi : PE X i ty) (ho : PE X o td) : PC X .In i o (tDIn ty td) := by
  intro pins s σ H Q I h
  refine thn (hi pins s σ H _ I h) fun iv s1 ⟨y, H1, I1, ry, q1⟩ => thn (ho pins s1 σ H1 _ I1 q1) fun u s2 ⟨x, H2, I2, rx, a, ov, ex, g, q2⟩ => ?_
  subst ex
  obtain rfl : u = Value.ref a := rx
  exact d_in hu I2 g ry fun s3 I3 => ⟨.bl ov.isSome, H2, I3, rfl, q2⟩
theorem pc_dnotin (hu : X.A.units + 1 < cLine) (hi : PE X i ty) (ho : PE X o td) : PC X .NotIn i o (tDNotIn ty td) := by
  intro pins s σ H Q I h
  refine thn (hi pins s σ H _ I h) fun iv s1 ⟨y, H1, I1, ry, q1⟩ => thn (ho pins s1 σ H1 _ I1 q1) fun u s2 ⟨x, H2, I2, rx, a, ov, ex, g, q2⟩ => ?_
  subst ex
  obtain rfl : u = Value.ref a := rx
  exact d_notIn hu I2 g ry fun s3 I3 => ⟨.bl (!ov.isSome), H2, I3, rfl, q2⟩
theorem ps_dput (hu : X.A.units + 1 < cLine) (ho : PE X o td) (hi : PE X i ty) (hv : PE X value tv) (hs : swapsWith value (some (.Subscript o i pos')) pos.line X.env = pure false) :
    PS X (.Assign [.Subscript o i pos'] value pos) (sDPut td ty tv) := by
  intro pins s σ H D I h
  refine wpAny_Assign_Subscript (thn (hv pins s σ H _ I h) fun r s1 ⟨v, H1, I1, rv, q1⟩ => thn (ho pins s1 σ H1 _ I1 q1) fun u s2 ⟨x, H2, I2, rx, q2⟩ => thn (hi pins s2 σ H2 _ I2 q2) fun iv s3 ⟨y, H3, I3, ry, a, H4, ex, g, q3⟩ => ?_) hs
  subst ex
  obtain rfl : u = Value.ref a := rx
  exact d_setItem hu I3 g ry rv fun s4 I4 => ⟨σ, H4, I4, q3⟩
end
theorem dk_empty {P : Program} {w : World} {H : Hp} (h : Heap) (hb : sysModules < h.objs.size) : ObjOk P w H (h.push { cls := .type "dict", data := .dict #[] }) h.objs.size (.dK []) :=
  ⟨Nat.zero_le _, beq_eq_false_iff_ne.mpr (Ne.symm (Nat.ne_of_lt hb)), [], .nil, Heap.DictOf.new h⟩
theorem dt_empty {P : Program} {w : World} {H : Hp} (h : Heap) (hb : sysModules < h.objs.size) : ObjOk P w H (h.push { cls := .type "dict", data := .dict #[] }) h.objs.size (.dT []) :=
  ⟨Nat.zero_le _, beq_eq_false_iff_ne.mpr (Ne.symm (Nat.ne_of_lt hb)), [], .nil, _, #[], 0, Heap.get?_push_size _ rfl, ⟨rfl, rfl, rfl⟩, rfl, rfl, List.nodup_nil⟩
def tDNewT : TE := fun _ H Q => ∀ p, H p = none → Q (.ref p) (upd H p (.dT []))
section
variable {X : Cx} {pos : Pos}
theorem pe_dnewT : PE X (.Dict [] [] pos) tDNewT := fun pins s σ H Q I h =>
  wpAny_Dict_empty ⟨.ref s.heap.objs.size, _, I.laid (a := s.heap.objs.size) (o := .dT []) (t' := s.toks) (fun _ _ q => Heap.get?_push_of_some _ q) (Nat.le_refl _) (dt_empty s.heap I.big), rfl, h _ (I.hok.fresh (Nat.le_refl _))⟩
end
def tPairs : List (TE × TE) → St → Hp → (List (V × V) → Hp → Prop) → Prop
  | [], _, H, Q => Q [] H
  | (tk, tv) :: r, σ, H, Q => tk σ H fun x H1 => tv σ H1 fun y H2 => tPairs r σ H2 fun ps H3 => Q ((x, y) :: ps) H3
abbrev VV : List (V × V) → List (Value × Value) → Prop := Paired fun p q => RelV p.1 q.1 ∧ RelV p.2 q.2
def PPs (X : Cx) (pos : Pos) (keys : List (Option Expr)) (values : List Expr) (trs : List (TE × TE)) : Prop :=
  ∀ (pins : List (Addr × Obj)) (s : Shared) (σ : St) (H : Hp) (Q : List (V × V) → Hp → Prop), Inv X pins σ H s → tPairs trs σ H Q →
    wpAny (model X.prog X.w) X.A (evalPairs (pairTrees keys values X.env pos)) (fun vs s' => ∃ ps H', Inv X pins σ H' s' ∧ VV ps vs ∧ Q ps H') X.xe s
theorem pps_nil {X : Cx} {pos : Pos} : PPs X pos [] [] [] := fun pins s σ H Q I h => pairTrees_nil_walk ⟨[], H, I, .nil, h⟩
theorem pps_cons {X : Cx} {pos : Pos} {k v : Expr} {ks : List (Option Expr)} {vs : List Expr} {tk tv : TE} {trs : List (TE × TE)} (hk : PE X k tk) (hv : PE X v tv) (hr : PPs X pos ks vs trs) :
    PPs X pos (some k :: ks) (v :: vs) ((tk, tv) :: trs) := fun pins s σ H Q I h =>
  pairTrees_cons_walk (thn (hk pins s σ H _ I h) fun u s1 ⟨x, H1, I1, rx, q1⟩ => thn (hv pins s1 σ H1 _ I1 q1) fun w2 s2 ⟨y, H2, I2, ry, q2⟩ =>
    thn (hr pins s2 σ H2 _ I2 q2) fun ws s3 ⟨ps, H3, I3, rel, q3⟩ => ⟨(x, y) :: ps, H3, I3, .cons ⟨rx, ry⟩ rel, q3⟩)
def mergeK (kvs more : List (Key × V)) : List (Key × V) := more.foldl (fun acc kv => putK acc kv.1 kv.2) kvs
theorem KV.merge : ∀ {more : List (Key × V)} {rs : List (Key × Value)} {kvs : List (Key × V)} {vs : List (Key × Value)}, KV more rs → KV kvs vs → KV (mergeK kvs more) (merged vs rs) := by
  intro more rs kvs vs r
  unfold KV at r
  induction r generalizing kvs vs with
  | nil => intro q; exact q
  | @cons p q ps qs h t ih =>
    intro r0
    have e : KV (putK kvs p.1 p.2) (stored vs q.1 q.2) := by
      have := r0.put p.1 h.2
      rw [← h.1]; exact this
    exact ih e
theorem length_mergeK : ∀ (more kvs : List (Key × V)), (mergeK kvs more).length ≤ kvs.length + more.length
  | [], kvs => by show kvs.length ≤ kvs.length + 0; omega
  | p :: r, kvs => by
    have h1 := length_mergeK r (putK kvs p.1 p.2)
    have h2 := length_putK kvs p.1 p.2
    show (mergeK (putK kvs p.1 p.2) r).length ≤ _
    rw [List.length_cons]; omega
theorem carries_of {P : Program} {w : World} : ∀ {kvs : List (Key × V)} {ws : List (Value × Value)}, VV (kvs.map fun kv => (kV kv.1, kv.2)) ws → ∃ rs, Carries (mixKind P w) ws rs ∧ KV kvs rs
  | [], _, r => by rw [List.map_nil] at r; cases r; exact ⟨[], True.intro, .nil⟩
  | p :: kvs, _, r => by
    rw [List.map_cons] at r
    cases r with
    | @cons a b as bs h t =>
      obtain ⟨rs, c, q⟩ := carries_of (P := P) (w := w) t
      obtain ⟨b1, b2⟩ := b
      exact ⟨(p.1, b2) :: rs, ⟨kV_is h.1, rfl, c⟩, .cons ⟨rfl, h.2⟩ q⟩
def tDisp (trs : List (TE × TE)) : TE := fun σ H Q => ∀ p, H p = none → tPairs trs σ (upd H p (.dK [])) fun ps H2 => H2 p = some (.dK []) ∧ ∃ kvs : List (Key × V), ps = kvs.map (fun kv => (kV kv.1, kv.2)) ∧ kvs.length ≤ 15 ∧ Q (.ref p) (upd H2 p (.dK (mergeK [] kvs)))
theorem pe_disp {X : Cx} {pos : Pos} {keys : List (Option Expr)} {values : List Expr} {trs : List (TE × TE)} (h : PPs X pos keys values trs) (hall : keys.all (·.isSome) = true) (hl : keys.length = values.length) (h0 : keys ≠ [])
    (h15 : keys.length ≤ 15) : PE X (.Dict keys values pos) (tDisp trs) := by
  intro pins s σ H Q I q
  have hn := I.hok.fresh (Nat.le_refl s.heap.objs.size)
  have I1 := I.laid (a := s.heap.objs.size) (o := .dK []) (h' := s.heap.push { cls := .type "dict", data := .dict #[] }) (t' := s.toks) (fun _ _ q => Heap.get?_push_of_some _ q) (Nat.le_refl _) (dk_empty s.heap I.big)
  refine wpAny_Dict_walk (knd := mixKind X.prog X.w) hall hl h0 h15 (thn (h pins _ σ _ _ I1 (q _ hn)) fun ws s2 ⟨ps, H2, I2, rel, e, kvs, ep, lk, q2⟩ => ?_)
  subst ep
  obtain ⟨rs, c, rk⟩ := carries_of (P := X.prog) (w := X.w) rel
  obtain ⟨z, hd, vs0, r0, dd⟩ := dk_of I2.hok e
  cases r0
  refine ⟨rs, c, dd, fun h' dd' hs => ⟨.ref s.heap.objs.size, _, ?_, rfl, q2⟩⟩
  have hz : (mergeK [] kvs).length ≤ sizeLine := by
    have h1 := length_mergeK kvs []
    rw [List.length_nil] at h1
    rw [sizeLine_eq]; omega
  have he : ∃ q, h'.get? s.heap.objs.size = some q := let ⟨q, _, _, hq, _⟩ := dd'; ⟨q, hq⟩
  exact d_write I2 (by rw [e]; exact True.intro) hs he (dk_new hz hd (rk.merge .nil) dd')
structure M1 (X : Cx) (o : Expr) (m : Str) (apos : Pos) (e : Expr) (cpos : Pos) : Prop where
  base : attributeBase o m X.env (eval o X.env) = eval o X.env
  few : ((backTo cpos (starEach [e] X.env)).all (fun x => !x.1) && (backToKw cpos (keywordEach [] X.env)).all (fun x => x.1.isSome)
    && decide (([e] : List Expr).length + ([] : List Keyword).length + (if ([] : List Keyword).isEmpty then 0 else 1) < 30)) = true
  line : (apos.endLine == cpos.line) = true
  trees : backTo cpos (starEach [e] X.env) = [(false, eval e X.env)]
structure M2 (X : Cx) (o : Expr) (m : Str) (apos : Pos) (e f : Expr) (cpos : Pos) : Prop where
  base : attributeBase o m X.env (eval o X.env) = eval o X.env
  few : ((backTo cpos (starEach [e, f] X.env)).all (fun x => !x.1) && (backToKw cpos (keywordEach [] X.env)).all (fun x => x.1.isSome)
    && decide (([e, f] : List Expr).length + ([] : List Keyword).length + (if ([] : List Keyword).isEmpty then 0 else 1) < 30)) = true
  line : (apos.endLine == cpos.line) = true
  trees : backTo cpos (starEach [e, f] X.env) = [(false, eval e X.env), (false, eval f X.env)]
section
variable {X : Cx} {pins : List (Addr × Obj)} {σ : St} {H : Hp} {s : Shared} {a : Addr} {y d : V} {u r : Value} {o : Option V} {A : Around} {E : Value → Shared → Prop}
end
section
variable {X : Cx} {o e f : Expr} {apos cpos : Pos} {td ty tx : TE}
end
section
variable {X : Cx} {pins : List (Addr × Obj)} {σ : St} {H : Hp} {s : Shared} {a : Addr} {kvs : List (Key × V)} {A : Around} {E : Value → Shared → Prop}
end
section
variable {X : Cx} {pins : List (Addr × Obj)} {σ : St} {H : Hp} {s : Shared} {a : Addr} {y : V} {u : Value} {A : Around} {E : Value → Shared → Prop}
end
end L2
namespace S2
open PySem L2
theorem Same.put {H H2 : Hp} {l : Addr} {o : HO} (s : Same H H2) (hn : H l = none) : Same H (upd H2 l o) := fun b u e => by
  rw [upd_ne (ne_of_none e hn)]
  exact s b u e
theorem get_lt {α : Type} {l : List α} {i : Nat} {x : α} (h : l[i]? = some x) : i < l.length := (List.getElem?_eq_some_iff.mp h).1
theorem small {n : Nat} (h : n ≤ 100000) : n < sizeLine := Nat.lt_of_le_of_lt h (by decide)
theorem smallE {n : Nat} (h : n ≤ 100000) : n ≤ sizeLine := Nat.le_of_lt (small h)
theorem atI_of {α : Type} {xs : List α} {z : Int} {j : Nat} {v : α} (e : z = (j : Int)) (h : xs[j]? = some v) : atI xs z = some v := by
  rw [e]
  exact atI_nat h
def gi (ns : List Int) (i : Nat) : Int := (ns[i]?).getD 0
theorem gi_at {ns : List Int} {i : Nat} (h : i < ns.length) : (ns.map V.int)[i]? = some (V.int (gi ns i)) := by
  unfold gi
  rw [List.getElem?_map, List.getElem?_eq_getElem h]
  rfl
theorem mod_nat {z : Int} {n : Nat} (h : 0 < n) : ∃ i : Nat, z % (n : Int) = (i : Int) ∧ i < n := by
  have h1 : 0 ≤ z % (n : Int) := Int.emod_nonneg _ (by omega)
  have h2 : z % (n : Int) < (n : Int) := Int.emod_lt_of_pos _ (by omega)
  exact ⟨(z % (n : Int)).toNat, by omega, by omega⟩
def cellsOf (i j : Nat) (ns : List Int) : List Int := (ns.drop (min i ns.length)).take (min j ns.length - min i ns.length)
theorem cells_len (i j : Nat) (ns : List Int) : (cellsOf i j ns).length ≤ j - i := by
  unfold cellsOf
  rw [List.length_take, List.length_drop]
  omega
theorem cells_cut (i j : Nat) (ns : List Int) : cutV (ns.map V.int) (some (i : Int)) (some (j : Int)) = (cellsOf i j ns).map V.int := by
  unfold cutV cellsOf
  have e1 := HT.sIx_nat (ns.map V.int).length 0 i
  have e2 := HT.sIx_nat (ns.map V.int).length (ns.map V.int).length j
  rw [e1, e2, List.length_map, List.map_take, List.map_drop]
theorem int_at {ns : List Int} {i : Nat} {y : V} (h : (ns.map V.int)[i]? = some y) : ∃ z, y = V.int z ∧ ns[i]? = some z := by
  rw [List.getElem?_map] at h
  cases e : ns[i]? with
  | none => rw [e] at h; cases h
  | some z => rw [e] at h; exact ⟨z, (Option.some.inj h).symm, rfl⟩
def spCell (K : PySem.W.Frag) : Sp := fun vs H Q _ => ∃ (a : Addr) (k : Nat) (ns : List Int), vs = [.ref a, .int k] ∧ SqL K H a (ns.map V.int) ∧ ns.length ≤ 63 ∧ ∀ z : Int, Q (.int z) H
def spNumbers : Sp := fun vs H Q _ => ∃ (c : Int) (m : Nat), vs = [.int c, .int m] ∧ m ≤ 100 ∧ ∀ (l : Addr) (ns : List Int) (H' : Hp), H l = none → Same H H' → H' l = some (.lst (ns.map V.int)) → ns.length = m → Q (.ref l) H'
theorem snoc_at {H : Hp} {l : Addr} {ns : List Int} {x : Int} : (upd H l (.lst (ns.map V.int ++ [V.int x]))) l = some (.lst ((ns ++ [x]).map V.int)) := by
  rw [upd_same, List.map_append]
  rfl
theorem snoc_len {α : Type} {ns : List α} {x : α} : (ns ++ [x]).length = ns.length + 1 := by rw [List.length_append]; rfl
theorem iteB {A B : Prop} {c : Bool} (h : c = true) (a : A) : if c = true then A else B := by rw [if_pos h]; exact a
theorem iteC {A B : Prop} {c : Bool} (h : c = false) (b : B) : if c = true then A else B := by rw [if_neg (by rw [h]; exact Bool.false_ne_true)]; exact b
theorem while_out {c : TT} {tb : TS} {D : Ends} {σ : St} {H : Hp} (W : Nat → St → Hp → Prop) {m0 : Nat} (h0 : W m0 σ H) (out : ∀ m σ H, W m σ H → D.nx σ H)
    (turn : ∀ R : St → Hp → Prop, (∀ m σ H, W m σ H → R σ H) → ∀ m σ H, W m σ H → c σ H fun b H1 => if b = true then ∃ N : St → Hp → Prop, (∀ σ' H', N σ' H' → ∃ m', m' < m ∧ W m' σ' H') ∧ tb { D with nx := N, ct := N, bk := D.nx } σ H1 else R σ H1) : tWhile c tb D σ H :=
  ⟨W, ⟨m0, h0⟩, turn D.nx out⟩
theorem two_at {x y : Int} {i : Nat} (h : i < 2) : [V.int x, V.int y][i]? = some (V.int (if i = 0 then x else y)) := by
  match i, h with
  | 0, _ => rfl
  | 1, _ => rfl
theorem nat_of {z : Int} {n : Nat} (h0 : 0 ≤ z) (h1 : z < (n : Int)) : ∃ i : Nat, z = (i : Int) ∧ i < n := ⟨z.toNat, by omega, by omega⟩
end S2
namespace L2
open PySem PySem.Spec PyProof.Rows
inductive EqD (K : PySem.W.Frag) (H : Hp) : Nat → V → V → Bool → Prop
  | flat {n : Nat} {x y : V} (fx : flatV x = true) (fy : flatV y = true) : EqD K H n x y (eqV x y)
  | same {n : Nat} {a : Addr} : EqD K H n (.ref a) (.ref a) true
  | lst {n : Nat} {a b : Addr} {xs ys : List V} (ne : a ≠ b) (hA : SqL K H a xs) (hB : SqL K H b ys) (hl : xs.length = ys.length) (e : Nat → Bool)
      (he : ∀ (j : Nat) (x y : V), xs[j]? = some x → ys[j]? = some y → EqD K H n x y (e j)) : EqD K H (n + 1) (.ref a) (.ref b) ((List.range xs.length).all e)
  | tup {n : Nat} {a b : Addr} {xs ys : List V} (ne : a ≠ b) (hA : SqT K H a xs) (hB : SqT K H b ys) (hl : xs.length = ys.length) (e : Nat → Bool)
      (he : ∀ (j : Nat) (x y : V), xs[j]? = some x → ys[j]? = some y → EqD K H n x y (e j)) : EqD K H (n + 1) (.ref a) (.ref b) ((List.range xs.length).all e)
theorem all_true_range (n : Nat) : ((List.range n).all fun _ => true) = true := List.all_eq_true.mpr fun _ _ => rfl
theorem EqD.tupT {K : PySem.W.Frag} {H : Hp} {n : Nat} {a b : Addr} {xs ys : List V} (hA : SqT K H a xs) (hB : SqT K H b ys) (hl : xs.length = ys.length) (he : ∀ (j : Nat) (x y : V), xs[j]? = some x → ys[j]? = some y → EqD K H n x y true) : EqD K H (n + 1) (.ref a) (.ref b) true := by
  by_cases ne : a = b
  · subst ne
    exact .same
  · have := EqD.tup ne hA hB hl (fun _ => true) he
    rw [all_true_range] at this
    exact this
theorem EqD.lstT {K : PySem.W.Frag} {H : Hp} {n : Nat} {a b : Addr} {xs ys : List V} (hA : SqL K H a xs) (hB : SqL K H b ys) (hl : xs.length = ys.length) (he : ∀ (j : Nat) (x y : V), xs[j]? = some x → ys[j]? = some y → EqD K H n x y true) : EqD K H (n + 1) (.ref a) (.ref b) true := by
  by_cases ne : a = b
  · subst ne
    exact .same
  · have := EqD.lst ne hA hB hl (fun _ => true) he
    rw [all_true_range] at this
    exact this
theorem eqV_same : ∀ {x : V}, flatV x = true → eqV x x = true
  | .non, _ => rfl
  | .bl b, _ => by show (b == b) = true; simp
  | .int i, _ => by show (i == i) = true; simp
  | .str z, _ => by show (z == z) = true; simp
  | .ref _, h => nomatch (show false = true from h)
theorem EqD.refl {K : PySem.W.Frag} {H : Hp} {n : Nat} {x : V} (h : flatV x = true) : EqD K H n x x true := by
  have := EqD.flat (K := K) (H := H) (n := n) h h
  rw [eqV_same h] at this
  exact this
section
variable {X : Cx}
theorem vals_at {xs : List V} {us : List Value} (r : Vals xs us) (j : Nat) (h1 : j < us.toArray.size) : ∃ x, xs[j]? = some x ∧ RelV x us.toArray[j] := by
  have l1 := r.length
  rw [List.size_toArray] at h1
  have g1 : j < xs.length := by omega
  obtain ⟨w1, q1, p1⟩ := r.get (i := j) (x := xs[j]) (by simp [g1])
  have s1 : us.toArray[j] = w1 := by
    rw [List.getElem?_eq_getElem h1] at q1
    simpa using q1
  exact ⟨xs[j], by simp [g1], by rw [s1]; exact p1⟩
theorem eqD_at {pins : List (Addr × Obj)} {σ : St} {H : Hp} {s : Shared} (I : Inv X pins σ H s) {n : Nat} {x y : V} {b : Bool} (h : EqD X.K H n x y b) :
    ∀ {A : Around} {u v : Value}, A.units + n < cLine → RelV x u → RelV y v → SeqAt.EqAt A s u v b := by
  induction h with
  | flat fx fy => intro A u v _ rx ry; exact eqAt_V rx ry fx fy
  | @same n a =>
    intro A u v _ rx ry
    obtain rfl : u = Value.ref a := rx
    obtain rfl : v = Value.ref a := ry
    exact SeqAt.EqAt.same _
  | @lst n a b xs ys ne hA hB hl e he ih =>
    intro A u v hu rx ry
    obtain rfl : u = Value.ref a := rx
    obtain rfl : v = Value.ref b := ry
    obtain ⟨its, r, pl, hz⟩ := I.list hA
    obtain ⟨its2, r2, pl2, hz2⟩ := I.list hB
    have l1 := r.length
    have l2 := r2.length
    have rc := SeqAt.RcAt.lists (A := A) (s := s) (e := e) pl.isList pl2.isList (by rw [List.size_toArray, List.size_toArray]; omega) (by omega) (fun j h1 h2 => by
      obtain ⟨x, ex, rx⟩ := vals_at r j h1
      obtain ⟨y, ey, ry⟩ := vals_at r2 j h2
      exact ih j x y ex ey (show A.units + 1 + n < cLine by omega) rx ry)
    rw [List.size_toArray, ← l1] at rc
    exact SeqAt.EqAt.of_refs ne rc
  | @tup n a b xs ys ne hA hB hl e he ih =>
    intro A u v hu rx ry
    obtain rfl : u = Value.ref a := rx
    obtain rfl : v = Value.ref b := ry
    obtain ⟨its, r, pl, hz⟩ := I.tuple hA
    obtain ⟨its2, r2, pl2, hz2⟩ := I.tuple hB
    have l1 := r.length
    have l2 := r2.length
    have rc := SeqAt.RcAt.tuples (A := A) (s := s) (e := e) pl pl2 (by omega) (fun j h1 h2 => by
      obtain ⟨x, ex, rx⟩ := vals_at r j h1
      obtain ⟨y, ey, ry⟩ := vals_at r2 j h2
      exact ih j x y ex ey (show A.units + 1 + n < cLine by omega) rx ry)
    have e1 : min its.toArray.size its2.toArray.size = xs.length := by rw [List.size_toArray, List.size_toArray]; omega
    have e2 : (its.toArray.size == its2.toArray.size) = true := by rw [List.size_toArray, List.size_toArray]; exact beq_iff_eq.mpr (by omega)
    rw [e1, e2, Bool.and_true] at rc
    exact SeqAt.EqAt.of_refs ne rc
def rDeep (K : PySem.W.Frag) (neg : Bool) : R2 := fun x y H Q => ∃ (a b : Addr) (xs ys : List V) (e : Nat → Bool), x = .ref a ∧ y = .ref b ∧ ((SqL K H a xs ∧ SqL K H b ys) ∨ (SqT K H a xs ∧ SqT K H b ys)) ∧ xs.length = ys.length ∧
  (∀ (j : Nat) (x y : V), xs[j]? = some x → ys[j]? = some y → EqD K H 8 x y (e j)) ∧ Q (.bl (if neg then !((List.range xs.length).all e) else (List.range xs.length).all e)) H
theorem op_eqDeep (hu : X.A.units + 20 < cLine) : OpR X (compareOp .Eq) (rDeep X.K false) := by
  intro pins s σ H x y v u Q I rx ry h
  obtain ⟨a, b, xs, ys, e, e1, e2, hS, hl, he, q⟩ := h
  subst e1 e2
  obtain rfl : v = Value.ref a := rx
  obtain rfl : u = Value.ref b := ry
  rcases hS with ⟨hA, hB⟩ | ⟨hA, hB⟩
  · obtain ⟨its, r, pl, hz⟩ := I.list hA
    obtain ⟨its2, r2, pl2, hz2⟩ := I.list hB
    have l1 := r.length
    have l2 := r2.length
    refine SeqAt.eq_listAt (e := e) pl.isList pl2.isList (by rw [List.size_toArray, List.size_toArray]; omega) (by omega) (fun j h1 h2 => ?_) ⟨.bl _, H, I, rfl, ?_⟩
    · obtain ⟨x, ex, rx⟩ := vals_at r j h1
      obtain ⟨y, ey, ry⟩ := vals_at r2 j h2
      exact eqD_at I (he j x y ex ey) (show X.A.units + 1 + 8 < cLine by omega) rx ry
    · rw [List.size_toArray, ← l1]
      exact q
  · obtain ⟨its, r, pl, hz⟩ := I.tuple hA
    obtain ⟨its2, r2, pl2, hz2⟩ := I.tuple hB
    have l1 := r.length
    have l2 := r2.length
    refine SeqAt.eq_tupleAt (e := e) pl pl2 (by omega) (fun j h1 h2 => ?_) ⟨.bl _, H, I, rfl, ?_⟩
    · obtain ⟨x, ex, rx⟩ := vals_at r j h1
      obtain ⟨y, ey, ry⟩ := vals_at r2 j h2
      exact eqD_at I (he j x y ex ey) (show X.A.units + 1 + 8 < cLine by omega) rx ry
    · have e1 : min its.toArray.size its2.toArray.size = xs.length := by rw [List.size_toArray, List.size_toArray]; omega
      have e2 : (its.toArray.size == its2.toArray.size) = true := by rw [List.size_toArray, List.size_toArray]; exact beq_iff_eq.mpr (by omega)
      rw [e1, e2, Bool.and_true]
      exact q
theorem op_neDeep (hu : X.A.units + 20 < cLine) : OpR X (compareOp .NotEq) (rDeep X.K true) := by
  intro pins s σ H x y v u Q I rx ry h
  obtain ⟨a, b, xs, ys, e, e1, e2, hS, hl, he, q⟩ := h
  subst e1 e2
  obtain rfl : v = Value.ref a := rx
  obtain rfl : u = Value.ref b := ry
  rcases hS with ⟨hA, hB⟩ | ⟨hA, hB⟩
  · obtain ⟨its, r, pl, hz⟩ := I.list hA
    obtain ⟨its2, r2, pl2, hz2⟩ := I.list hB
    have l1 := r.length
    have l2 := r2.length
    refine SeqAt.RcNeAt.lists (e := e) pl.isList pl2.isList (by rw [List.size_toArray, List.size_toArray]; omega) (by omega) (fun j h1 h2 => ?_) _ _ _ _ ⟨.bl _, H, I, rfl, ?_⟩
    · obtain ⟨x, ex, rx⟩ := vals_at r j h1
      obtain ⟨y, ey, ry⟩ := vals_at r2 j h2
      exact eqD_at I (he j x y ex ey) (show X.A.units + 1 + 8 < cLine by omega) rx ry
    · rw [List.size_toArray, ← l1]
      exact q
  · obtain ⟨its, r, pl, hz⟩ := I.tuple hA
    obtain ⟨its2, r2, pl2, hz2⟩ := I.tuple hB
    have l1 := r.length
    have l2 := r2.length
    refine SeqAt.RcNeAt.tuples (e := e) pl pl2 (by omega) (fun j h1 h2 => ?_) _ _ _ _ ⟨.bl _, H, I, rfl, ?_⟩
    · obtain ⟨x, ex, rx⟩ := vals_at r j h1
      obtain ⟨y, ey, ry⟩ := vals_at r2 j h2
      exact eqD_at I (he j x y ex ey) (show X.A.units + 1 + 8 < cLine by omega) rx ry
    · have e1 : min its.toArray.size its2.toArray.size = xs.length := by rw [List.size_toArray, List.size_toArray]; omega
      have e2 : (its.toArray.size == its2.toArray.size) = true := by rw [List.size_toArray, List.size_toArray]; exact beq_iff_eq.mpr (by omega)
      rw [e1, e2, Bool.and_true]
      exact q
end
end L2
namespace L2
open PySem PySem.Spec PyProof.Rows
abbrev Cx.compN (X : Cx) (N' : List Str) (scope : Scope) (cl : List (Str × Addr)) (C : Addr) (fp : List Addr) (s : Shared) (H : Hp) : Cx :=
  { X with N := N', s₀ := s, H₀ := H, env := compEnvC scope cl C X.env, outer := X.stack, ex := fp, fn := fun _ => false, pn := [], xe := fun _ _ => False }
structure CompScN (X : Cx) (k : Nat) (N' : List Str) (scope : Scope) : Prop where
  kind : scope.kind = .function
  cell : ∀ y ∈ scope.names, y.2 ≠ .cell
  names : ∀ y ∈ scope.names, y.2 = .local → scope.names.lookup y.1 = some .local
  free : ∀ y ∈ scope.names, y.2 = .free → X.env.kindOf y.1 = some .cell ∨ X.env.kindOf y.1 = some .free
  len : N'.length = k + X.N.length
  cap : ∀ i y, N'[k + i]? = some y → (X.N[i]? = some y ∧ capOk scope X.env y = true) ∨ scope.names.lookup y = none
theorem compN_inv {X : Cx} {k : Nat} {N' : List Str} {scope : Scope} {cl : List (Str × Addr)} {fp : List Addr} {pins : List (Addr × Obj)} {σ : St} {H : Hp} {s : Shared} {h' : Heap} {tk : Nat} {m : Str → Option Value} (S : CompScN X k N' scope) (I : Inv X pins σ H s)
    (hns : h'.Ns s.heap.objs.size m) (hk : ∀ b o, s.heap.get? b = some o → h'.get? b = some o) (hf : ∀ b ∈ fp, FpOk X pins H b) (ho : ∀ b ∈ fp, ∃ o, s.heap.get? b = some o)
    (hsub : ∀ y c, cl.lookup y = some c → X.env.cells.lookup y = some c) (hall : ∀ y ∈ scope.names, y.2 = .free → ∃ c, cl.lookup y.1 = some c) :
    Inv (X.compN N' scope cl s.heap.objs.size fp s H) (X.pn ++ pins) (List.replicate k none ++ σ) H { s with heap := h', toks := tk } := by
  refine ⟨⟨I.ok.mod, S.kind, I.ok.glob, I.ok.blt, Nat.le_refl _, fun y z c h1 h2 => I.ok.inj y z c (hsub y c h1) (hsub z c h2), fun y hy => ?_, fun y c hfn => absurd hfn Bool.false_ne_true, I.ok.hd, I.ok.frames, .inl rfl, fun b hb => ⟨?_, fun y c e => (hf b hb).2.2.2.2.1 y c (hsub y c e)⟩,
    I.bs, Nat.le_trans I.ok.bsz I.sz, fun b o e hb => ?_, fun b hb hs => ?_, I.stack, I.stkFree⟩, rfl, I.bare, Un.kept hk, ⟨m, hns, fun i y v e1 e2 e3 => ?_⟩, fun y c e => ?_, I.fresh, fun y c e => I.freeC y c (hsub y c e), fun p hp => ?_, I.hok.kept hk, ?_⟩
  · have hy' : ∃ k, (k = NameKind.cell ∨ k = NameKind.free) ∧ (relabel scope X.env).names.lookup y = some k := by
      rcases hy with z | z
      · exact ⟨_, .inl rfl, z⟩
      · exact ⟨_, .inr rfl, z⟩
    obtain ⟨k, hk', e⟩ := hy'
    obtain ⟨k0, e0, r⟩ := rel_look e
    have kf : k0 = .free := by
      rcases r with r | r
      · subst r
        rcases hk' with z | z
        · subst z
          exact absurd rfl (S.cell _ (PySem.mem_of_lookup e0))
        · exact z
      · exact r.1
    subst kf
    exact hall (y, .free) (free_mem e0) rfl
  · obtain ⟨o, e⟩ := ho b hb
    exact Nat.ne_of_lt (Heap.lt_size e)
  · rcases (hf b hb).2.2.2.1 with z | z
    · exact I.ok.noex b o e z
    · exact absurd (Nat.lt_of_lt_of_le (Heap.lt_size e) (Nat.le_trans I.ok.bsz z)) (Nat.lt_irrefl _)
  · rcases List.mem_cons.mp (I.stkSub b hs) with z | z
    · exact (hf b hb).2.1 z
    · exact (hf b hb).2.2.1 z
  · have e1q : N'[i]? = some y := e1
    by_cases hik : i < k
    · rw [List.getElem?_append_left (by simpa using hik), List.getElem?_replicate] at e2
      rw [if_pos hik] at e2
      cases e2
    obtain ⟨i, rfl⟩ : ∃ d, i = k + d := ⟨i - k, by omega⟩
    have e2' : σ[i]? = some (some v) := by
      rw [List.getElem?_append_right (by simp)] at e2
      simpa using e2
    have hvis : ∃ k, (relabel scope X.env).names.lookup y = some k := by
      rcases e3 with z | z | z
      · exact ⟨_, z⟩
      · exact ⟨_, z⟩
      · exact ⟨_, z⟩
    obtain ⟨k, ek⟩ := hvis
    obtain ⟨k0, e0, r⟩ := rel_look ek
    rcases S.cap i y e1q with ⟨e1', hc⟩ | z0
    case inr => rw [z0] at e0; cases e0
    unfold capOk at hc
    rw [e0] at hc
    have kf : k0 = .free := by cases k0 <;> simp_all
    subst kf
    have hkk : X.env.kindOf y = some .cell ∨ X.env.kindOf y = some .free := by simpa using hc
    obtain ⟨m0, hn0, hl0⟩ := I.loc
    obtain ⟨u, ru, l⟩ := hl0 i y v e1' e2' (.inr hkk)
    refine ⟨u, ru, .inr ?_⟩
    obtain ⟨c', hc'⟩ := hall (y, .free) (free_mem e0) rfl
    rcases l with ⟨z, _⟩ | ⟨_, c, ec, ⟨o, ho', hd'⟩⟩
    · rcases hkk with q | q <;> rw [z] at q <;> cases q
    · have e4 := hsub y c' hc'
      rw [ec] at e4
      have e5 : c = c' := Option.some.inj e4
      subst e5
      refine ⟨?_, c, hc', o, hk _ _ ho', hd'⟩
      rcases r with r | r
      · subst r
        exact .inr ek
      · obtain ⟨_, r⟩ := r
        subst r
        exact .inl ek
  · obtain ⟨v, o, ho', hd'⟩ := I.cell y c (hsub y c e)
    exact ⟨v, o, hk _ _ ho', hd'⟩
  · have hp' : p ∈ X.pn ++ pins := by simpa using hp
    obtain ⟨e, n, ne, nf, d⟩ := I.pin p hp'
    refine ⟨hk _ _ e, n, Nat.ne_of_lt (Heap.lt_size e), fun z => ?_, d⟩
    rcases List.mem_cons.mp (I.stkSub p.1 z) with q | q
    · exact ne q
    · exact nf q
  · show (List.replicate k none ++ σ).length = N'.length
    rw [S.len, List.length_append, List.length_replicate, I.len]
def CompGoN (J : It) (H1 : Hp) (k : Nat) (σ : St) (g : TG) (tt : TT) (te : TE) (Q : VK) : Prop := ∀ D, H1 D = none → ∃ W : Nat → Nat → Hp → Prop, (∃ m, W 0 m (upd H1 D (.lst []))) ∧ ∀ i m H, W i m H →
  (J.stop i H ∧ Q (.ref D) H) ∨ (J.go i H ∧ ∀ x H' ρ, ρ.length = k → J.yld i H x H' → g x (ρ ++ σ) H' fun σ2 H2 => (∃ ρ2 : St, ρ2.length = k ∧ σ2 = ρ2 ++ σ) ∧ tt σ2 H2 fun b H3 => if b = true then te σ2 H3 fun y H4 => ∃ ys, H4 D = some (.lst ys) ∧ ys.length < sizeLine ∧ ∃ m', m' < m ∧ W (i + 1) m' (upd H4 D (.lst (ys ++ [y])))
    else ∃ m', m' < m ∧ W (i + 1) m' H3)
def tCompN (wi : TI) (k : Nat) (g : TG) (tt : TT) (te : TE) : TE := fun σ H Q => wi σ H fun J H1 => CompGoN J H1 k σ g tt te Q
section
variable {X : Cx} {k : Nat} {N' : List Str} {tg : Expr} {pos : Pos} {elt iter : Expr} {ifs : List Expr} {scope : Scope} {wi : TI} {g : TG} {tt : TT} {te : TE}
theorem compN_core {pins : List (Addr × Obj)} {σ : St} {H2 : Hp} {s2 : Shared} {it : Addr} {fp : List Addr} {tn : Nat → Heap → Prop} {J : It} {Q : VK} {cl : List (Str × Addr)} {E : Value → Shared → Prop} {RR : Value → Addr → Result → Shared → Prop}
    (S : CompScN X k N' scope) (hcal : X.calm = true) (hclos : (∀ y c, cl.lookup y = some c → X.env.cells.lookup y = some c) ∧ ∀ y ∈ scope.names, y.2 = .free → ∃ c, cl.lookup y.1 = some c)
    (hg : ∀ cl C fp s H, PG (X.compN N' scope cl C fp s H) tg g) (ht : ∀ cl C fp s H, PTs (X.compN N' scope cl C fp s H) ifs tt) (he : ∀ cl C fp s H, PE (X.compN N' scope cl C fp s H) elt te)
    (I2 : Inv X pins σ H2 s2) (T : Turn X.prog X.w X.K tg J fp it tn) (st2 : tn 0 s2.heap) (f2 : ∀ b ∈ fp, FpOk X pins H2 b)
    (q : CompGoN J H2 k σ g tt te Q)
    (hRR : ∀ D C s' H' m', Inv X pins σ H' s' → s'.heap.Ns C m' → FpOk X pins H' C → Q (.ref D) H' → RR (.ref D) C (.ok .next) s') :
    wpAny (model X.prog X.w) X.A (newList []) (fun acc s3 => wpAny (model X.prog X.w) X.A (newFunctionEnv scope X.env.globals cl [] X.env.qual none .none (some X.env)) (fun cenv s4 =>
      codeAny (model X.prog X.w) X.A (.compStart (.ListComp elt [⟨tg, iter, ifs, 0⟩] scope pos) 0 (.ref it) acc { cenv with scope := relabel scope X.env }) (RR acc cenv.locals) s4) E s3) E s2 := by
  obtain ⟨hsub, hall⟩ := hclos
  refine wpAny_newObj_type (wpAny_newFunctionEnv S.cell (by intro y hy; simp at hy) (fun h1 hns hsb => ?_) S.kind)
  have I3 : Inv X pins σ (upd H2 s2.heap.objs.size (.lst [])) { s2 with heap := s2.heap.push { cls := .type "list", data := .seq ([] : List Value).toArray } } := I2.lnew (t' := s2.toks) .nil (by simp)
  have hD : H2 s2.heap.objs.size = none := I2.fresh
  obtain ⟨W, ⟨m0, w0⟩, turn⟩ := q _ hD
  generalize hs3 : ({ s2 with heap := s2.heap.push { cls := .type "list", data := .seq ([] : List Value).toArray } } : Shared) = s3 at I3
  have hs3' : ({ s2 with heap := s2.heap.push { cls := .type "list", dict := none, data := .seq ([] : List Value).toArray } } : Shared) = s3 := hs3
  dsimp only at hns hsb ⊢
  generalize hDD : s2.heap.objs.size = D at *
  have eh : s2.heap.push { cls := .type "list", dict := none, data := .seq ([] : List Value).toArray } = s3.heap := by rw [← hs3]
  rw [eh] at hns hsb
  have keep : ∀ b o, s3.heap.get? b = some o → h1.get? b = some o := fun b o e => hsb.extBut b o (Nat.ne_of_lt (Heap.lt_size e)) (Heap.get?_push_of_some _ e)
  have objs : ∀ b ∈ fp, ∃ o, s3.heap.get? b = some o := fun b hb => by
    obtain ⟨o, e, _⟩ := T.obj _ _ st2 b hb
    rw [← eh]
    exact ⟨o, Heap.get?_push_of_some _ e⟩
  have f3 : ∀ b ∈ fp, FpOk X pins (upd H2 D (.lst [])) b := fun b hb => by
    obtain ⟨o, e, _⟩ := T.obj _ _ st2 b hb
    have ne : b ≠ D := by rw [← hDD]; exact Nat.ne_of_lt (Heap.lt_size e)
    exact ⟨by rw [upd_ne ne]; exact (f2 b hb).1, (f2 b hb).2⟩
  have I4 : Inv (X.compN N' scope cl s3.heap.objs.size fp s3 (upd H2 D (.lst []))) (X.pn ++ pins) (List.replicate k none ++ σ) (upd H2 D (.lst [])) { s3 with heap := h1, toks := s3.toks + ([] : List (Str × Value)).length } := compN_inv S I3 hns keep f3 objs hsub hall
  have st4 : tn 0 h1 := T.keep _ _ _ st2 fun b hb o e => keep b o (by rw [← eh]; exact Heap.get?_push_of_some _ e)
  -- what stays true of the iterator's objects
  have stat : ∀ {H' : Hp}, (∀ b ∈ fp, H' b = none) → ∀ b ∈ fp, FpOk (X.compN N' scope cl s3.heap.objs.size fp s3 (upd H2 D (.lst []))) (X.pn ++ pins) H' b := fun hn b hb => by
    refine ⟨hn b hb, (I4.ok.exf b hb).1, I4.ok.exfs b hb, .inl hb, (I4.ok.exf b hb).2, fun p hp => (f3 b hb).2.2.2.2.2 p (by simpa using hp)⟩
  have loop : codeAny (model X.prog X.w) X.A (.compLoop (.ListComp elt [⟨tg, iter, ifs, 0⟩] scope pos) 0 (.ref it) (.ref D) (compEnvC scope cl s3.heap.objs.size X.env)) (RR (.ref D) s3.heap.objs.size) { s3 with heap := h1, toks := s3.toks + ([] : List (Str × Value)).length } := by
    refine comp_loop_go (fun n s' => ∃ i ρ H', Inv (X.compN N' scope cl s3.heap.objs.size fp s3 (upd H2 D (.lst []))) (X.pn ++ pins) (ρ ++ σ) H' s' ∧ ρ.length = k ∧ tn i s'.heap ∧ (∀ b ∈ fp, H' b = none) ∧ W i n H') ?_ m0
      ⟨0, _, _, I4, by simp, st4, fun b hb => (f3 b hb).1, w0⟩
    rintro n s5 ⟨i, ρ, H5, I5, lρ, st5, fr5, w5⟩
    rcases turn i n H5 w5 with ⟨stop, qn⟩ | ⟨go, step⟩
    · refine thn (T.done (X.compN N' scope cl s3.heap.objs.size fp s3 (upd H2 D (.lst []))) rfl rfl rfl hcal i _ s5 _ H5 _ I5 (stat fr5) st5 stop) fun r s6 ⟨hr, I6⟩ => ?_
      subst hr
      obtain ⟨m6, hn6, _⟩ := I6.loc
      have I7 : Inv X pins σ H5 s6 := I3.call' (ch := fp) I6.os I6.base I6.hok I6.bare fun b hb => ⟨(f3 b hb).2.2.2.1, (f3 b hb).2.1, (f3 b hb).2.2.2.2.1, (f3 b hb).2.2.2.2.2⟩
      exact hRR D s3.heap.objs.size s6 H5 m6 I7 hn6 (I3.fpOk (Nat.le_refl _) I6.free) qn
    · refine thn (T.item (X.compN N' scope cl s3.heap.objs.size fp s3 (upd H2 D (.lst []))) rfl rfl rfl hcal i _ s5 _ H5 _ I5 (stat fr5) st5 go) fun r s6 ⟨u, hr, h6⟩ => ?_
      subst hr
      refine thn h6 fun _ s7 ⟨y, H7, I7, r7, y7, st7, fr7⟩ => ?_
      have I7' := I7.pinned (stat fr7) (T.obj _ _ st7)
      refine thn (hg _ _ _ _ _ _ s7 (ρ ++ σ) H7 y u _ I7' r7 (step y H7 ρ lρ y7)) fun _ s8 ⟨σ8, H8, I8, ⟨ρ2, l2, e8⟩, q8⟩ => ?_
      subst e8
      refine thn (ht _ _ _ _ _ _ s8 _ H8 _ I8 q8) fun ok s9 ⟨H9, I9, q9⟩ => ?_
      have back : ∀ {H' : Hp} {s' : Shared} {m' : Nat}, Inv (X.compN N' scope cl s3.heap.objs.size fp s3 (upd H2 D (.lst []))) (X.pn ++ pins ++ pinsAt fp s7.heap) (ρ2 ++ σ) H' s' → m' < n → W (i + 1) m' H' →
          ∃ m, m < n ∧ ∃ i ρ H', Inv (X.compN N' scope cl s3.heap.objs.size fp s3 (upd H2 D (.lst []))) (X.pn ++ pins) (ρ ++ σ) H' s' ∧ ρ.length = k ∧ tn i s'.heap ∧ (∀ b ∈ fp, H' b = none) ∧ W i m H' := fun {H' s' m'} I' hm w' => by
        have pin : ∀ b o, b ∈ fp → s7.heap.get? b = some o → s'.heap.get? b = some o ∧ H' b = none := fun b o hb e => by
          have z := I'.pin (b, o) (List.mem_append_right _ (List.mem_append_right _ (mem_pinsAt hb e)))
          exact ⟨z.1, z.2.1⟩
        refine ⟨m', hm, i + 1, ρ2, H', I'.unpinned, l2, T.keep _ _ _ st7 fun b hb o e => (pin b o hb e).1, fun b hb => ?_, w'⟩
        obtain ⟨o', e, _⟩ := T.obj _ _ st7 b hb
        exact (pin b o' hb e).2
      cases ok with
      | false =>
        rw [if_neg Bool.false_ne_true] at q9 ⊢
        obtain ⟨m', hm, w'⟩ := q9
        exact back I9 hm w'
      | true =>
        rw [if_pos rfl] at q9 ⊢
        refine thn (he _ _ _ _ _ _ s9 _ H9 _ I9 q9) fun v s10 ⟨z, H10, I10, r10, q10⟩ => ?_
        obtain ⟨ys, e10, l10, m', hm, w'⟩ := q10
        refine thn (mt_append _ s10 _ H10 (.ref D) [z] (.ref D) [v] (fun _ H' => H' = upd H10 D (.lst (ys ++ [z]))) I10 rfl (.cons r10 .nil) ⟨D, ys, z, rfl, rfl, e10, l10, rfl⟩) fun _ s11 ⟨_, H11, I11, _, e11⟩ => ?_
        subst e11
        exact back I11 hm w'
  exact codeAny_compStart_list loop (T.self _ 0 _ _ _ st4 loop)
theorem pe_compN (S : CompScN X k N' scope) (hcal : X.calm = true) (hi : PI X tg iter wi) (hg : ∀ cl C fp s H, PG (X.compN N' scope cl C fp s H) tg g) (ht : ∀ cl C fp s H, PTs (X.compN N' scope cl C fp s H) ifs tt) (he : ∀ cl C fp s H, PE (X.compN N' scope cl C fp s H) elt te)
    (hs : ∀ x, foldedSetIterable iter X.env x = pure x := by intro _; rfl) : PE X (.ListComp elt [⟨tg, iter, ifs, 0⟩] scope pos) (tCompN wi k g tt te) := by
  intro pins s σ H Q I h
  obtain ⟨cl, hcl, hc⟩ := clos_ok (env := X.env) (scope := scope) fun y hy hf => I.ok.has y.1 (S.free y hy hf)
  rw [eval_ListComp]
  refine wpAny_comprehension_free (use := none) rfl hs hcl S.kind S.names (thn (hi pins s σ H _ I h) fun xv s1 h1 => thn h1 fun itv s2 h2 => ?_)
  obtain ⟨it, fp, tn, J, H2, e, I2, T, st2, f2, q⟩ := h2
  subst e
  refine compN_core (RR := fun acc C => compPost (model X.prog X.w) X.A X.xe none (EP X pins σ Q) acc C) S hcal hc hg ht he I2 T st2 f2 q ?_
  intro D C s' H' m' I' hn F' hq
  exact ⟨m', hn, fun h' sb => ⟨.ref D, H', I'.turned (t' := s'.toks) (fun b o hb e => (sb.2 b hb).trans e) F'.1 F'.2.1 F'.2.2.2.1 F'.2.2.2.2.1 F'.2.2.2.2.2, rfl, hq⟩⟩
end
def compChkN (fs : Scope) (N : List Str) (k : Nat) (N' : List Str) (scope : Scope) : Bool :=
  decide (scope.kind = .function) && scope.names.all (fun y => decide (y.2 ≠ .cell)) && scope.names.all (fun y => decide (y.2 = .local → scope.names.lookup y.1 = some .local)) &&
  scope.names.all (fun y => decide (y.2 = .free → fs.names.lookup y.1 = some .cell ∨ fs.names.lookup y.1 = some .free)) && decide (N'.length = k + N.length) &&
  (List.range N.length).all (fun i => match N'[k + i]?, N[i]? with
    | some y, some z => (match scope.names.lookup y with
      | none => true
      | some .free => decide (y = z) && decide (fs.names.lookup y = some .cell ∨ fs.names.lookup y = some .free)
      | some _ => false)
    | _, _ => false)
theorem compScN_mk {X : Cx} {k : Nat} {N' : List Str} {scope fs : Scope} {N : List Str} (hs : X.env.scope = fs) (hN : X.N = N) (c : compChkN fs N k N' scope = true) : CompScN X k N' scope := by
  subst hs hN
  unfold compChkN at c
  simp only [Bool.and_eq_true, List.all_eq_true, decide_eq_true_eq] at c
  obtain ⟨⟨⟨⟨⟨c1, c2⟩, c3⟩, c4⟩, c5⟩, c6⟩ := c
  refine ⟨c1, c2, c3, c4, c5, fun i y hy => ?_⟩
  have hi : k + i < N'.length := (List.getElem?_eq_some_iff.mp hy).1
  have hi2 : i < X.N.length := by omega
  have q := c6 i (List.mem_range.mpr hi2)
  rw [hy, List.getElem?_eq_getElem hi2] at q
  dsimp only at q
  unfold capOk
  cases e : scope.names.lookup y with
  | none => exact .inr rfl
  | some kd =>
    rw [e] at q
    cases kd with
    | free =>
      have q2 : y = X.N[i] ∧ (X.env.scope.names.lookup y = some .cell ∨ X.env.scope.names.lookup y = some .free) := by simpa using q
      refine .inl ⟨by rw [List.getElem?_eq_getElem hi2, q2.1], ?_⟩
      show (X.env.kindOf y == some .cell || X.env.kindOf y == some .free) = true
      have e2 : X.env.kindOf y = X.env.scope.names.lookup y := rfl
      rw [e2]
      rcases q2.2 with z | z <;> rw [z] <;> rfl
    | _ => simp at q
end L2
namespace L2
open PySem PySem.Spec PyProof.Rows
section
variable {X : Cx} {pins : List (Addr × Obj)} {σ : St} {H : Hp} {s : Shared} {h' : Heap}
theorem Inv.turnedL {t' : Nat} {ch : List Addr} (I : Inv X pins σ H s) (k : ∀ b u, b ∉ ch → s.heap.get? b = some u → h'.get? b = some u) (hch : ∀ b ∈ ch, FpOk X pins H b) : Inv X pins σ H { s with heap := h', toks := t' } := by
  have nch : ∀ b u, H b = some u → b ∉ ch := fun b u e z => by rw [(hch b z).1] at e; cases e
  refine I.step (g' := s.gens) (d' := s.drawn) (ch := ch) (fun b hb => ⟨(hch b hb).2.2.2.1, (hch b hb).2.1, (hch b hb).2.2.2.2.1, (hch b hb).2.2.2.2.2⟩) (fun b o _ _ hc e _ => k b o hc e) (fun b o _ _ hc e _ => ⟨o.slots, k b o hc e⟩)
    (fun _ _ _ _ n => n) (fun b o hc e => ⟨o, k b o hc e⟩) (fun _ _ e => e) (fun _ _ _ e => e) (fun b ps e => ⟨#[], by rw [e]; simp⟩) (fun m hm => ?_) (fun b u e => ?_) I.bare
  · obtain ⟨ob, es, ep, ho, r⟩ := hm
    exact ⟨ob, es, ep, k _ ob (fun z => (hch _ z).2.1 rfl) ho, r⟩
  · refine (I.hok b u e).stay (fun c v hc q => k c v ?_ q) (fun c q => q) fun c xs q => q
    rcases hc with z | z
    · rw [z]
      exact nch b u e
    · exact nch c _ z
end
def Itz (K : PySem.W.Frag) (a b : Addr) : It :=
  ⟨fun i H => ∃ xs ys x y, SqL K H a xs ∧ SqL K H b ys ∧ xs[i]? = some x ∧ ys[i]? = some y, fun i H x H' => ∃ p u v, x = .ref p ∧ H p = none ∧ H' = upd H p (.tup [u, v]) ∧ (∀ xs, SqL K H a xs → xs[i]? = some u) ∧ ∀ ys, SqL K H b ys → ys[i]? = some v,
    fun i H => ∃ xs ys, SqL K H a xs ∧ SqL K H b ys ∧ (xs.length ≤ i ∨ ys.length ≤ i)⟩
theorem turn_zip {P : Program} {w : World} {K : PySem.W.Frag} {es : List Expr} {kk : Nat} {pt : Pos} {z TI TO i1 i2 a b : Addr} (D : ZipApart z TI TO i1 i2 a b) :
    Turn P w K (.Tuple es kk pt) (Itz K a b) [z, TI, TO, i1, i2] z (fun i h => IsZip h z TI TO .none ∧ IsPair h TI (.ref i1) (.ref i2) ∧ (∃ u v, IsPair h TO u v) ∧ h.IsListIter i1 a i ∧ h.IsListIter i2 b i) where
  mem := by simp
  obj := fun i h st c hc => by
    obtain ⟨hz, hTI, ⟨u, v, hTO⟩, ⟨o1, h1, c1, d1⟩, ⟨o2, h2, c2, d2⟩⟩ := st
    simp only [List.mem_cons, List.not_mem_nil, or_false] at hc
    rcases hc with q | q | q | q | q <;> subst q
    · exact ⟨_, hz, fun v q => by cases q⟩
    · exact ⟨_, hTI, fun v q => by cases q⟩
    · exact ⟨_, hTO, fun v q => by cases q⟩
    · exact ⟨o1, h1, fun v q => by rw [d1] at q; cases q⟩
    · exact ⟨o2, h2, fun v q => by rw [d2] at q; cases q⟩
  keep := fun i h h' st kk => by
    obtain ⟨hz, hTI, ⟨u, v, hTO⟩, ⟨o1, h1, c1⟩, ⟨o2, h2, c2⟩⟩ := st
    exact ⟨kk z (by simp) _ hz, kk TI (by simp) _ hTI, ⟨u, v, kk TO (by simp) _ hTO⟩, ⟨o1, kk i1 (by simp) _ h1, c1⟩, ⟨o2, kk i2 (by simp) _ h2, c2⟩⟩
  item := by
    intro X hP hw hK hc i pins s σ H E I hf st hg
    subst hP hw hK
    obtain ⟨xs, ys, x, y, hqa, hqb, hx, hy⟩ := hg
    obtain ⟨its, rv, p, hz1⟩ := I.list hqa
    obtain ⟨u, hu, ru⟩ := rv.get hx
    obtain ⟨its2, rv2, p2, hz2⟩ := I.list hqb
    obtain ⟨v, hv, rv'⟩ := rv2.get hy
    obtain ⟨hz, hTI, ⟨u0, v0, hTO⟩, hi1, hi2⟩ := st
    refine wpAny_pyNext_zip_item D hz hTI hTO hi1 hi2 p.isList p2.isList (x := u) (y := v) (by simpa using hu) (by simpa using hv) fun h' a1 a2 a3 a4 a5 a6 kp => ⟨_, rfl, ?_⟩
    refine wpAny_letOwnedTupleGo_zip a1 fun g2 hz2' sb => ?_
    have lz : z < s.heap.objs.size := Heap.lt_size hz
    have lTI : TI < s.heap.objs.size := Heap.lt_size hTI
    have lTO : TO < s.heap.objs.size := Heap.lt_size hTO
    have l1 : i1 < s.heap.objs.size := by obtain ⟨o, ho, _⟩ := hi1; exact Heap.lt_size ho
    have l2 : i2 < s.heap.objs.size := by obtain ⟨o, ho, _⟩ := hi2; exact Heap.lt_size ho
    have nT : H s.heap.objs.size = none := I.fresh
    have tt2 : g2.get? s.heap.objs.size = some { cls := .type "tuple", data := .seq #[u, v] } := (sb.2 _ (Nat.ne_of_gt lz)).trans a5
    have I1 : Inv X pins σ (upd H s.heap.objs.size (.tup [x, y])) { s with heap := g2, toks := s.toks } := by
      refine I.turnedNew (t' := s.toks) (ch := [z, TI, TO, i1, i2]) (fun c o hb q => ?_) hf (Nat.le_refl _) ⟨?_, [u, v], .cons ru (.cons rv' .nil), ⟨_, tt2, rfl, 0, rfl⟩⟩
      · simp only [List.mem_cons, List.not_mem_nil, or_false, not_or] at hb
        exact (sb.2 c hb.1).trans (kp c o hb.1 hb.2.2.1 hb.2.2.2.1 hb.2.2.2.2 q)
      · show 2 ≤ sizeLine
        decide
    refine ⟨.ref s.heap.objs.size, _, I1, rfl, ⟨_, x, y, rfl, nT, rfl, fun zs hy' => ?_, fun zs hy' => ?_⟩, ⟨hz2', ?_, ⟨u, v, ?_⟩, ?_, ?_⟩, fun c hb => ?_⟩
    · rw [I.list_inj hy' hqa]
      exact hx
    · rw [I.list_inj hy' hqb]
      exact hy
    · exact (sb.2 TI D.TIz).trans (kp TI _ D.TIz D.TITO D.TIi1 D.TIi2 hTI)
    · exact (sb.2 TO D.TOz).trans a2
    · obtain ⟨o, ho, r⟩ := a3
      exact ⟨o, (sb.2 i1 D.i1z).trans ho, r⟩
    · obtain ⟨o, ho, r⟩ := a4
      exact ⟨o, (sb.2 i2 D.i2z).trans ho, r⟩
    · have hb' := (hf c hb).1
      simp only [List.mem_cons, List.not_mem_nil, or_false] at hb
      rcases hb with q | q | q | q | q <;> subst q
      · rw [upd_ne (Nat.ne_of_lt lz)]; exact hb'
      · rw [upd_ne (Nat.ne_of_lt lTI)]; exact hb'
      · rw [upd_ne (Nat.ne_of_lt lTO)]; exact hb'
      · rw [upd_ne (Nat.ne_of_lt l1)]; exact hb'
      · rw [upd_ne (Nat.ne_of_lt l2)]; exact hb'
  done := by
    intro X hP hw hK hc i pins s σ H E I hf st hg
    subst hP hw hK
    obtain ⟨xs, ys, hqa, hqb, hend⟩ := hg
    obtain ⟨its, rv, p, hz1⟩ := I.list hqa
    obtain ⟨its2, rv2, p2, hz2⟩ := I.list hqb
    obtain ⟨hz, hTI, ⟨u0, v0, hTO⟩, hi1, hi2⟩ := st
    have l1 := rv.length
    have l2 := rv2.length
    refine wpAny_pyNext_zip_end (I.ok.hd hc) D hz hTI hTO hi1 hi2 p.isList p2.isList ?_ fun h' kp => ⟨rfl, I.turnedL (t' := s.toks) (ch := [z, TI, TO, i1, i2]) (fun c o hb q => ?_) hf⟩
    · rcases hend with q | q
      · exact .inl (by simp; omega)
      · exact .inr (by simp; omega)
    · simp only [List.mem_cons, List.not_mem_nil, or_false, not_or] at hb
      exact kp c o hb.1 hb.2.2.1 hb.2.2.2.1 hb.2.2.2.2 q
  self := fun _ _ _ _ _ st h => wpAny_pyIter_zip st.1 h
section
variable {X : Cx} {es : List Expr} {kk : Nat} {pt : Pos}
def iZip (K : PySem.W.Frag) (ta : TA) : TI := fun σ H R => ta σ H fun vs H1 => ∃ a b, vs = [.ref a, .ref b] ∧ (∃ xs, SqL K H1 a xs) ∧ (∃ ys, SqL K H1 b ys) ∧ R (Itz K a b) H1
theorem pi_zip {l m : Expr} {ta : TA} {p pos : Pos} (hg : Gl X "zip") (hm : X.mg "zip" = none) (ha : PA X [l, m] ta) (hs : starEach [l, m] X.env = [(false, eval l X.env), (false, eval m X.env)] := by rfl) (hs2 : starEach [m] X.env = [(false, eval m X.env)] := by rfl) :
    PI X (.Tuple es kk pt) (.Call (.Name "zip" p) [l, m] [] pos) (iZip X.K ta) := by
  intro pins s σ H R I h
  refine Call_ (ld_blt I hg hm PyProof.Rows.boot_zip (PyProof.Rows.callWith_type1 (thn (ha pos pins s σ H _ I h) fun us s1 ⟨vs, H1, I1, r1, q1⟩ => ?_) (by rw [hs, hs2]) (by rw [hs2]; rfl)))
  obtain ⟨a, b, e1, ⟨xs, hqa⟩, ⟨ys, hqb⟩, q⟩ := q1
  subst e1
  obtain ⟨u, v, e1, r3, r4⟩ := vals2 r1
  subst e1
  obtain rfl : u = Value.ref a := r3
  obtain rfl : v = Value.ref b := r4
  obtain ⟨its, rv, pl, hz⟩ := I1.list hqa
  obtain ⟨its2, rv2, pl2, hz2⟩ := I1.list hqb
  have la : a < s1.heap.objs.size := by obtain ⟨o, ho, _⟩ := pl.isList; exact Heap.lt_size ho
  have lb : b < s1.heap.objs.size := by obtain ⟨o, ho, _⟩ := pl2.isList; exact Heap.lt_size ho
  refine call_zip_2 pl.isList pl2.isList fun h' hz hTI hTO hi1 hi2 hsz kp => ?_
  have I3 : Inv X pins σ H1 { s1 with heap := h' } := I1.kept (t' := s1.toks) kp
  refine wpAny_pyIter_zip hz ⟨s1.heap.objs.size + 4, [s1.heap.objs.size + 4, s1.heap.objs.size + 2, s1.heap.objs.size + 3, s1.heap.objs.size, s1.heap.objs.size + 1], _, _, H1, rfl, I3, turn_zip (zipApart_new la lb), ⟨hz, hTI, ⟨_, _, hTO⟩, hi1, hi2⟩, fun c hb => ?_, q⟩
  have ge : s1.heap.objs.size ≤ c := by
    simp only [List.mem_cons, List.not_mem_nil, or_false] at hb
    rcases hb with q | q | q | q | q <;> rw [q]
    · exact Nat.le_add_right _ _
    · exact Nat.le_add_right _ _
    · exact Nat.le_add_right _ _
    · exact Nat.le_refl _
    · exact Nat.le_add_right _ _
  exact I1.fpOk ge (I1.hok.fresh ge)
end
end L2
namespace L2
open PySem PySem.Spec PyProof.Rows
section
variable {X : Cx} {C1 : Addr} {n c1 : Str} {np1 hp1 tpos : Pos} {tb : XK → TS} {T1 : TS} {b1 : Stmt} {su1 body : List Stmt} {i : Nat}
end
section
variable {X : Cx} {tg : Expr}
end
section
variable {X : Cx}
def CDivC (_ j : Int) : Prop := 0 < j ∧ j.natAbs.log2 < 9000
theorem op_fdivC : OpR X (binaryOp .FloorDiv) (rI CDivC fun i j => .int (i / j)) := opI fun i j _ _ _ _ _ hc q => by
  have h1 : (0 : Int) < j := hc.1
  exact floordiv_int (by omega) (by rw [Int.fdiv_eq_ediv_of_nonneg i (by omega)]; exact q) (.inl (PyProof.noPylong_of_log2 hc.2))
end
end L2
namespace L2
open PySem PySem.Spec PyProof.Rows
abbrev Cx.i1 (X : Cx) : Cx := { X with A := X.A.in1, xe := fun _ _ => False }
theorem Inv.i1 {X : Cx} {pins : List (Addr × Obj)} {σ : St} {H : Hp} {s : Shared} (I : Inv X pins σ H s) : Inv X.i1 pins σ H s :=
  ⟨⟨I.ok.mod, I.ok.kind, I.ok.glob, I.ok.blt, I.ok.above, I.ok.inj, I.ok.has, I.ok.cab, I.ok.hd, I.ok.frames, I.ok.stk, I.ok.exf, I.ok.bs, I.ok.bsz, I.ok.noex, I.ok.exfs, I.ok.funs, I.ok.frf⟩, I.os, I.bare, I.base, I.loc, I.cell, I.free, I.freeC, I.pin, I.hok, I.len⟩
theorem Inv.o1 {X : Cx} {pins : List (Addr × Obj)} {σ : St} {H : Hp} {s : Shared} (I : Inv X.i1 pins σ H s) (hd : X.calm = true → X.A.handled = none) (hf : X.A.frames = some X.stack) : Inv X pins σ H s :=
  ⟨⟨I.ok.mod, I.ok.kind, I.ok.glob, I.ok.blt, I.ok.above, I.ok.inj, I.ok.has, I.ok.cab, hd, hf, I.ok.stk, I.ok.exf, I.ok.bs, I.ok.bsz, I.ok.noex, I.ok.exfs, I.ok.funs, I.ok.frf⟩, I.os, I.bare, I.base, I.loc, I.cell, I.free, I.freeC, I.pin, I.hok, I.len⟩
section
variable {M : Model} {A : Around} {E : Value → Shared → Prop} {s : Shared} {env : Env}
theorem callWith_bK {pos : Pos} {T : String} {e : Expr} {rest : List Expr} {kws : List Keyword} {Q : Value → Shared → Prop}
    (h : wpAny M A (spliced (backTo pos (starEach (e :: rest) env))) (fun vs s1 => wpAny M A (evalAll ((backToKw pos (keywordEach kws env)).map (·.2)))
      (fun kvs s2 => wpAny M A (call (.builtin T) vs (((backToKw pos (keywordEach kws env)).filterMap (·.1)).zip kvs)) Q E s2) E s1) E s)
    (he : backTo pos (starEach (e :: rest) env) = (false, eval e env) :: backTo pos (starEach rest env) := by rfl) (hpl : (backTo pos (starEach (e :: rest) env)).any (·.1) = false := by rfl)
    (hall : (backToKw pos (keywordEach kws env)).all (·.1.isSome) = true := by rfl) (hkw : (backToKw pos (keywordEach kws env)).any (·.1.isNone) = false := by rfl) :
    wpAny M A (callWith pos (.builtin T) [] (backTo pos (starEach (e :: rest) env)) (backToKw pos (keywordEach kws env))) Q E s := by
  have h2 : wpAny M A (evalArgs (.builtin T) true (backTo pos (starEach (e :: rest) env)) (backToKw pos (keywordEach kws env))) (fun a s1 => wpAny M A (call (.builtin T) ([] ++ a.pos) a.kw) Q E s1) E s := by
    rw [he] at h ⊢
    exact evalArgs_kwB hall h
  unfold callWith
  refine wpAny_bind (wpAny_holding (wpAny_mono h2 (fun a s1 h1 => wpAny_bind (wpAny_standAt ?_)) fun _ _ z => z))
  simp only [hpl, hkw, Bool.or_false]
  exact wpAny_bind (wpAny_pure (wpAny_bind (wpAny_mono h1 (fun r s2 hr => wpAny_bind (wpAny_holding (wpAny_point (wpAny_pure hr)))) fun _ _ z => z)))
end
theorem argBest_T {bt : Nat → Nat → Bool} {k : Nat} (h : bt (k + 1) (argBest bt k) = true) : argBest bt (k + 1) = k + 1 := by simp only [argBest, h, if_true]
theorem argBest_F {bt : Nat → Nat → Bool} {k : Nat} (h : bt (k + 1) (argBest bt k) = false) : argBest bt (k + 1) = argBest bt k := by simp only [argBest, h, Bool.false_eq_true, if_false]
def KeyOk (sp : Sp) (H : Hp) (as : List Addr) (kf : Nat → Int) : Prop := ∀ (i : Nat) (a : Addr) (H' : Hp) (Q : VK), as[i]? = some a → Same H H' → (∀ H'', Same H' H'' → Q (.int (kf i)) H'') → sp [.ref a] H' Q E0
theorem same_none {H H' : Hp} {b : Addr} (s : Same H H') (h : H' b = none) : H b = none := by
  cases e : H b with
  | none => rfl
  | some u => rw [s b u e] at h; cases h
section
variable {X : Cx} {pins : List (Addr × Obj)} {σ : St}
theorem maxK_loop {k : Nat} {f : Addr} {fd : FuncData} {p0 : Str} {sp : Sp} {H : Hp} {l it Z : Addr} {as : List Addr} {kf : Nat → Int} {R : Result → Shared → Prop}
    (G : FnOk X.prog X.w X.K X.mg X.base CX0 k f fd [p0] sp) (hr : Room (k + 1) X.A) (hb : Binds X.K fd [p0] []) (hc : X.calm = true) (hS : SqL X.K H l (as.map V.ref)) (hk : KeyOk sp H as kf) (hne : it ≠ Z) :
    ∀ (m j : Nat) (s : Shared) (H1 : Hp) (vb vk : Value) (c : Nat), as.length - (j + 1) = m → j + 1 ≤ as.length → Inv X pins σ H1 s → Same H H1 → (∀ b ∈ [it, Z], FpOk X pins H1 b) → s.heap.IsListIter it l (j + 1) →
      s.heap.get? Z = some { cls := .type "list", dict := none, data := .seq #[vb, vk] c, slots := #[] } → (∃ a, as[argBest (fun i j => decide (kf i > kf j)) j]? = some a ∧ vb = .ref a) → (∃ t, vk = .int (kf (argBest (fun i j => decide (kf i > kf j)) j)) t) →
      (∀ a s' H', Inv X pins σ H' s' → Same H H' → as[argBest (fun i j => decide (kf i > kf j)) (as.length - 1)]? = some a → R (.ok (.ret (.ref a))) s') → codeAny (model X.prog X.w) X.A (.builtin "max.loop" ⟨[.ref it, .ref f, .ref Z], [("default", .none)]⟩) R s := by
  have nm : (toString "max" ++ toString ".loop" : String) = "max.loop" := by decide
  have T := turn_list (P := X.prog) (w := X.w) (K := X.K) (tg := .Name "" ⟨0, 0, 0, 0⟩) l it
  intro m
  induction m with
  | zero =>
    intro j s H1 vb vk c e1 e2 I s1 fp hit z0 hvb hvk fin
    have en : j + 1 = as.length := by omega
    refine codeAny_builtin PySem.F.entry_max_loop ?_
    rw [Around.under_plainId PySem.F.plain_max_loop _]
    show wpAny _ X.A.in1 (seqItems? (.ref Z) >>= _) _ _ s
    refine wpAny_bind (wpAny_seqItems z0 rfl ?_)
    show wpAny _ X.A.in1 (tryCatch (pyNext (.ref it)) _ >>= _) _ _ s
    obtain ⟨its, rv, pl, hz⟩ := I.list (s1.seq hS)
    have hl := rv.length
    rw [List.length_map] at hl
    refine wpAny_bind (wpAny_tryCatch (wpAny_pyNext_list_end (show X.A.in1.handled = none from I.ok.hd hc) hit pl.isList (by simp; omega) fun h' eb => ?_))
    have I1 : Inv X pins σ H1 { s with heap := h' } := I.turnedL (t' := s.toks) (ch := [it, Z]) (fun b o hb e => eb b o (fun q => hb (by simp [q])) e) fp
    have z1 := eb Z _ (Ne.symm hne) z0
    show wpAny _ X.A.in1 (updateSeq Z (fun _ => #[]) >>= _) _ _ _
    refine wpAny_bind (wpAny_updateSeq z1 rfl (wpAny_bind (wpAny_letGo (wpAny_pure ?_))))
    obtain ⟨a, ha, rfl⟩ := hvb
    refine fin a _ H1 (I1.turnedL (t' := s.toks) (ch := [it, Z]) (fun b o hb e => (Heap.get?_update_other _ _ (fun q => hb (by simp [q]))).trans e) fp) s1 ?_
    have e3 : as.length - 1 = j := by omega
    rw [e3]
    exact ha
  | succ m ih =>
    intro j s H1 vb vk c e1 e2 I s1 fp hit z0 hvb hvk fin
    have lt : j + 1 < as.length := by omega
    refine codeAny_builtin PySem.F.entry_max_loop ?_
    rw [Around.under_plainId PySem.F.plain_max_loop _]
    show wpAny _ X.A.in1 (seqItems? (.ref Z) >>= _) _ _ s
    refine wpAny_bind (wpAny_seqItems z0 rfl ?_)
    show wpAny _ X.A.in1 (tryCatch (pyNext (.ref it)) _ >>= _) _ _ s
    obtain ⟨its, rv, pl, hz⟩ := I.list (s1.seq hS)
    have ha : as[j + 1]? = some as[j + 1] := by simp [lt]
    obtain ⟨u, hu, ru⟩ := rv.get (i := j + 1) (x := V.ref as[j + 1]) (by rw [List.getElem?_map, ha]; rfl)
    obtain rfl : u = Value.ref as[j + 1] := ru
    refine wpAny_bind (wpAny_tryCatch (wpAny_pyNext_list_item hit pl.isList (x := .ref as[j + 1]) (by simpa using hu) fun h' hit' sb => ?_))
    have I1 : Inv X pins σ H1 { s with heap := h' } := I.turnedL (t' := s.toks) (ch := [it, Z]) (fun b o hb e => (sb.2 b (fun q => hb (by simp [q]))).trans e) fp
    have z1 := (sb.2 Z (Ne.symm hne)).trans z0
    show wpAny _ X.A.in1 (tryCatch (holding [.ref as[j + 1]] (call (.ref f) [.ref as[j + 1]])) _ >>= _) _ _ _
    obtain ⟨oi, hoi, ci, di⟩ := id hit'
    have ob : ∀ b ∈ [it, Z], ∃ o, h'.get? b = some o ∧ ∀ v, o.data ≠ .cell v := fun b hb => by
      simp only [List.mem_cons, List.not_mem_nil, or_false] at hb
      rcases hb with q | q <;> subst q
      · exact ⟨oi, hoi, fun v q => by rw [di] at q; cases q⟩
      · exact ⟨_, z1, fun v q => by cases q⟩
    have Ip := I1.pinned fp ob
    refine wpAny_bind (wpAny_tryCatch (wpAny_holding (wpAny_mono (run_fn (X := X.i1) (us := [.ref as[j + 1]]) (vs := [.ref as[j + 1]]) (Q := fun v H2 => v = .int (kf (j + 1)) ∧ Same H1 H2) (E := E0) G hr.in1 hb .nil pass0 Ip.i1 (.cons rfl .nil) (hk (j + 1) _ H1 _ ha s1 fun H2 s2 => ⟨rfl, s2⟩)) (fun v s2 hq => ?_) fun _ _ z => z.elim)))
    obtain ⟨y, H2, I2', ry, ey, s2'⟩ := hq
    subst ey
    obtain ⟨t, rfl⟩ := ry
    have I2 : Inv X (pins ++ pinsAt [it, Z] h') σ H2 s2 := I2'.o1 I.ok.hd I.ok.frames
    have pin : ∀ b o, b ∈ [it, Z] → h'.get? b = some o → s2.heap.get? b = some o ∧ H2 b = none := fun b o hb e => by
      have z := I2.pin (b, o) (List.mem_append_right _ (List.mem_append_right _ (mem_pinsAt hb e)))
      exact ⟨z.1, z.2.1⟩
    have z2 := (pin Z _ (by simp) z1).1
    have hit2 : s2.heap.IsListIter it l (j + 1 + 1) := ⟨oi, (pin it _ (by simp) hoi).1, ci, di⟩
    have fp2 : ∀ b ∈ [it, Z], FpOk X pins H2 b := fun b hb => by
      obtain ⟨o, e, _⟩ := ob b hb
      exact ⟨(pin b o hb e).2, (fp b hb).2⟩
    have I3 : Inv X pins σ H2 s2 := I2.unpinned
    have s3 : Same H H2 := Same.trans s1 s2'
    obtain ⟨tb, rfl⟩ := hvk
    show wpAny _ X.A.in1 (tryCatch (holding [.ref as[j + 1], .int (kf (j + 1)) t] (richCompare .Gt (.int (kf (j + 1)) t) (.int (kf (argBest (fun i j => decide (kf i > kf j)) j)) tb) >>= _)) _ >>= _) _ _ _
    refine wpAny_bind (wpAny_tryCatch (wpAny_holding (wpAny_bind (gt_int ?_))))
    refine wpAny_bind (wpAny_holding (wpAny_truthy_bool (wpAny_bind (wpAny_letGo (wpAny_pure ?_)))))
    cases hbt : decide (kf (j + 1) > kf (argBest (fun i j => decide (kf i > kf j)) j)) with
    | true =>
      simp only [if_true]
      refine wpAny_bind (wpAny_updateSeq z2 rfl (wpAny_bind (wpAny_letGo ?_)))
      rw [nm]
      have ek : argBest (fun i j => decide (kf i > kf j)) (j + 1) = j + 1 := argBest_T hbt
      refine wpAny_pure ⟨plainId_quiet PySem.F.plain_max_loop _, ih (j + 1) _ H2 _ _ _ (by omega) lt (I3.turnedL (t' := s2.toks) (ch := [it, Z]) (fun b o hb e => (Heap.get?_update_other _ _ (fun q => hb (by simp [q]))).trans e) fp2) s3 fp2
        ⟨oi, (Heap.get?_update_other _ _ (Ne.symm hne)).trans (pin it _ (by simp) hoi).1, ci, di⟩ (Heap.get?_update_self _ z2 rfl) ⟨_, by rw [ek]; exact ha, rfl⟩ ⟨t, by rw [ek]⟩ fin⟩
    | false =>
      simp only [Bool.false_eq_true, if_false]
      refine wpAny_bind (wpAny_letGo ?_)
      rw [nm]
      have ek : argBest (fun i j => decide (kf i > kf j)) (j + 1) = argBest (fun i j => decide (kf i > kf j)) j := argBest_F hbt
      refine wpAny_pure ⟨plainId_quiet PySem.F.plain_max_loop _, ih (j + 1) _ H2 _ _ _ (by omega) lt I3 s3 fp2 hit2 z2 (by rw [ek]; exact hvb) ⟨tb, by rw [ek]⟩ fin⟩
def rmaxK (K : PySem.W.Frag) (f : Addr) (sp : Sp) : List V → List V → Hp → VK → Prop := fun xs ws H Q => ∃ (l : Addr) (as : List Addr) (kf : Nat → Int), xs = [.ref l] ∧ ws = [.ref f, .non] ∧ SqL K H l (as.map V.ref) ∧ KeyOk sp H as kf ∧
  (as = [] → ∀ H', Same H H' → Q .non H') ∧ ∀ a H', as[argBest (fun i j => decide (kf i > kf j)) (as.length - 1)]? = some a → Same H H' → Q (.ref a) H'
set_option maxHeartbeats 1000000 in
theorem args_maxK (a b : Value) : argsOk "max" ⟨[a], [(Str.ofString "key", b), (Str.ofString "default", .none)]⟩ := by unfold argsOk; kernel_rfl
set_option maxHeartbeats 1000000 in
theorem call_maxK {k : Nat} {f : Addr} {fd : FuncData} {p0 : Str} {sp : Sp} (G : FnOk X.prog X.w X.K X.mg X.base CX0 k f fd [p0] sp) (hr : Room (k + 1) X.A) (hb : Binds X.K fd [p0] []) (hc : X.calm = true)
    {s : Shared} {H : Hp} {xs ws : List V} {us ks : List Value} {Q : VK} (I : Inv X pins σ H s) (r : Vals xs us) (r2 : Vals ws ks) (h : rmaxK X.K f sp xs ws H Q) :
    wpAny (model X.prog X.w) X.A (call (.builtin "max") us ([Str.ofString "key", Str.ofString "default"].zip ks)) (EP X pins σ Q) X.xe s := by
  obtain ⟨l, as, kf, e1, e2, hS, hk, q0, q1⟩ := h
  subst e1 e2
  obtain ⟨u, rfl, ru⟩ := vals1 r
  obtain rfl : u = Value.ref l := ru
  obtain ⟨v1, v2, rfl, rf, rn⟩ := vals2 r2
  obtain rfl : v1 = Value.ref f := rf
  obtain rfl : v2 = Value.none := rn
  have nm : (toString "max" ++ toString ".loop" : String) = "max.loop" := by decide
  refine PyProof.Rows.kmk_tree PySem.F.kind_max PySem.F.plain_max PySem.F.entry_max (args_maxK _ _) ?_
  show wpAny _ X.A.in1 (Builtin.Builtins.bindParams "max" ["key", "default"] 0 ⟨[], [(Str.ofString "key", .ref f), (Str.ofString "default", .none)]⟩ >>= _) _ _ s
  refine wpAny_bind (wpAny_of_eq (show Builtin.Builtins.bindParams "max" ["key", "default"] 0 ⟨[], [(Str.ofString "key", .ref f), (Str.ofString "default", .none)]⟩ = pure [some (.ref f), some .none] from rfl) ?_)
  refine wpAny_bind (wpAny_pure ?_)
  obtain ⟨its, rv, pl, hz⟩ := I.list hS
  have hlen := rv.length
  rw [List.length_map] at hlen
  have ll : l < s.heap.objs.size := by obtain ⟨o, ho, _⟩ := pl.isList; exact Heap.lt_size ho
  refine wpAny_bind (wpAny_pyIter_list pl.isList ?_)
  refine wpAny_bind (wpAny_newList ?_ (Nat.zero_le _))
  rw [nm]
  generalize hh1 : s.heap.push { cls := .type "list_iterator", data := .fields #[.ref l, .int 0 0] } = h1
  have sz1 : h1.objs.size = s.heap.objs.size + 1 := by rw [← hh1]; exact Heap.size_push ..
  generalize hh2 : h1.push { cls := .type "list", dict := none, data := .seq (([] : List Value).toArray) 0 } = h2
  have k1 : ∀ b o, s.heap.get? b = some o → h2.get? b = some o := fun b o e => by rw [← hh2, ← hh1]; exact Heap.get?_push_of_some _ (Heap.get?_push_of_some _ e)
  have gI : h2.get? s.heap.objs.size = some { cls := .type "list_iterator", data := .fields #[.ref l, .int 0 0] } := by rw [← hh2, ← hh1]; exact Heap.get?_push_of_some _ (Heap.get?_push_size _ rfl)
  have gZ : h2.get? h1.objs.size = some { cls := .type "list", dict := none, data := .seq #[] 0, slots := #[] } := by rw [← hh2]; exact Heap.get?_push_size _ rfl
  have I1 : Inv X pins σ H { s with heap := h2 } := I.kept (t' := s.toks) k1
  have hne : s.heap.objs.size ≠ h1.objs.size := by rw [sz1]; exact Nat.ne_of_lt (Nat.lt_succ_self _)
  have fp : ∀ b ∈ [s.heap.objs.size, h1.objs.size], FpOk X pins H b := fun b hb => by
    have ge : s.heap.objs.size ≤ b := by
      simp only [List.mem_cons, List.not_mem_nil, or_false] at hb
      rcases hb with q | q <;> rw [q]
      · exact Nat.le_refl _
      · rw [sz1]; exact Nat.le_succ _
    exact I.fpOk ge (I.hok.fresh ge)
  refine wpAny_pure ⟨plainId_quiet PySem.F.plain_max_loop _, ?_⟩
  generalize s.heap.objs.size = it at *
  generalize h1.objs.size = Z at *
  have hit : h2.IsListIter it l 0 := ⟨_, gI, rfl, rfl⟩
  refine codeAny_builtin PySem.F.entry_max_loop ?_
  rw [Around.under_plainId PySem.F.plain_max_loop _]
  show wpAny _ X.A.in1 (seqItems? (.ref Z) >>= _) _ _ _
  refine wpAny_bind (wpAny_seqItems gZ rfl ?_)
  show wpAny _ X.A.in1 (tryCatch (pyNext (.ref it)) _ >>= _) _ _ _
  have pl1 : h2.IsList l its.toArray := pl.isList.at fun o e => k1 l o e
  by_cases h0 : as = []
  · subst h0
    have e0 : its = [] := List.length_eq_zero_iff.mp (by simpa using hlen.symm)
    subst e0
    refine wpAny_bind (wpAny_tryCatch (wpAny_pyNext_list_end (show X.A.in1.handled = none from I.ok.hd hc) hit pl1 (by simp) fun h' eb => ?_))
    have I2 : Inv X pins σ H { s with heap := h' } := Inv.turnedL (s := { s with heap := h2 }) (h' := h') (t' := s.toks) (ch := [it, Z]) I1 (fun b o hb e => eb b o (fun q => hb (by simp [q])) e) fp
    refine wpAny_bind (wpAny_rule (wpAny_pure ?_))
    exact ⟨.non, H, I2, rfl, q0 rfl H (Same.refl H)⟩
  · have lt : 0 < as.length := List.length_pos_iff.mpr h0
    have ha : as[0]? = some as[0] := by simp [lt]
    obtain ⟨u, hu, ru⟩ := rv.get (i := 0) (x := V.ref as[0]) (by rw [List.getElem?_map, ha]; rfl)
    obtain rfl : u = Value.ref as[0] := ru
    refine wpAny_bind (wpAny_tryCatch (wpAny_pyNext_list_item hit pl1 (x := .ref as[0]) (by simpa using hu) fun h' hit' sb => ?_))
    have I2 : Inv X pins σ H { s with heap := h' } := Inv.turnedL (s := { s with heap := h2 }) (h' := h') (t' := s.toks) (ch := [it, Z]) I1 (fun b o hb e => (sb.2 b (fun q => hb (by simp [q]))).trans e) fp
    have z1 := (sb.2 Z (Ne.symm hne)).trans gZ
    show wpAny _ X.A.in1 (tryCatch (holding [.ref as[0]] (call (.ref f) [.ref as[0]])) _ >>= _) _ _ _
    obtain ⟨oi, hoi, ci, di⟩ := id hit'
    have ob : ∀ b ∈ [it, Z], ∃ o, h'.get? b = some o ∧ ∀ v, o.data ≠ .cell v := fun b hb => by
      simp only [List.mem_cons, List.not_mem_nil, or_false] at hb
      rcases hb with q | q <;> subst q
      · exact ⟨oi, hoi, fun v q => by rw [di] at q; cases q⟩
      · exact ⟨_, z1, fun v q => by cases q⟩
    have Ip := I2.pinned fp ob
    refine wpAny_bind (wpAny_tryCatch (wpAny_holding (wpAny_mono (run_fn (X := X.i1) (us := [.ref as[0]]) (vs := [.ref as[0]]) (Q := fun v H2 => v = .int (kf 0) ∧ Same H H2) (E := E0) G hr.in1 hb .nil pass0 Ip.i1 (.cons rfl .nil) (hk 0 _ H _ ha (Same.refl H) fun H2 s2 => ⟨rfl, s2⟩)) (fun v s2 hq => ?_) fun _ _ z => z.elim)))
    obtain ⟨y, H2, I2', ry, ey, s2'⟩ := hq
    subst ey
    obtain ⟨t, rfl⟩ := ry
    have I3' : Inv X (pins ++ pinsAt [it, Z] h') σ H2 s2 := I2'.o1 I.ok.hd I.ok.frames
    have pin : ∀ b o, b ∈ [it, Z] → h'.get? b = some o → s2.heap.get? b = some o ∧ H2 b = none := fun b o hb e => by
      have z := I3'.pin (b, o) (List.mem_append_right _ (List.mem_append_right _ (mem_pinsAt hb e)))
      exact ⟨z.1, z.2.1⟩
    have z2 := (pin Z _ (by simp) z1).1
    have fp2 : ∀ b ∈ [it, Z], FpOk X pins H2 b := fun b hb => by
      obtain ⟨o, e, _⟩ := ob b hb
      exact ⟨(pin b o hb e).2, (fp b hb).2⟩
    have I3 : Inv X pins σ H2 s2 := I3'.unpinned
    show wpAny _ X.A.in1 (updateSeq Z (fun _ => #[.ref as[0], .int (kf 0) t]) >>= _) _ _ _
    refine wpAny_bind (wpAny_updateSeq z2 rfl ?_)
    rw [nm]
    refine wpAny_pure ⟨plainId_quiet PySem.F.plain_max_loop _, ?_⟩
    exact maxK_loop (it := it) (Z := Z) (l := l) (as := as) (kf := kf) (H := H) G hr hb hc hS hk hne (as.length - (0 + 1)) 0 _ H2 _ _ _ rfl lt (I3.turnedL (t' := s2.toks) (ch := [it, Z]) (fun b o hb e => (Heap.get?_update_other _ _ (fun q => hb (by simp [q]))).trans e) fp2) s2' fp2
      ⟨oi, (Heap.get?_update_other _ _ (Ne.symm hne)).trans (pin it _ (by simp) hoi).1, ci, di⟩ (Heap.get?_update_self _ z2 rfl) ⟨_, ha, rfl⟩ ⟨t, rfl⟩ fun a s' H' I' s'' e => ⟨.ref a, H', I', rfl, q1 a H' e s''⟩
end
section
variable {X : Cx}
def tmaxK (K : PySem.W.Frag) (f : Addr) (sp : Sp) (ta tk : TA) : TE := fun σ H Q => ta σ H fun vs H1 => tk σ H1 fun ws H2 => rmaxK K f sp vs ws H2 Q
theorem pe_maxK {k : Nat} {f : Addr} {fd : FuncData} {p0 : Str} {sp : Sp} {l : Expr} {kws : List Keyword} {ta tk : TA} {p pos : Pos} (G : FnOk X.prog X.w X.K X.mg X.base CX0 k f fd [p0] sp) (hr : Room (k + 1) X.A) (hb : Binds X.K fd [p0] []) (hc : X.calm = true)
    (hg : Gl X "max") (hm : X.mg "max" = none) (ha : PA X [l] ta) (hk : PK X kws tk) (hks : (backToKw pos (keywordEach kws X.env)).filterMap (·.1) = [Str.ofString "key", Str.ofString "default"] := by rfl)
    (he : backTo pos (starEach [l] X.env) = (false, eval l X.env) :: backTo pos (starEach [] X.env) := by rfl) (hpl : (backTo pos (starEach [l] X.env)).any (·.1) = false := by rfl)
    (hall : (backToKw pos (keywordEach kws X.env)).all (·.1.isSome) = true := by rfl) (hkw : (backToKw pos (keywordEach kws X.env)).any (·.1.isNone) = false := by rfl) :
    PE X (.Call (.Name "max" p) [l] kws pos) (tmaxK X.K f sp ta tk) := by
  intro pins s σ H Q I h
  refine wpAny_Call_Name_kw (ld_blt I hg hm PyProof.Rows.boot_max (callWith_bK (thn (ha pos pins s σ H _ I h) fun us s1 ⟨vs, H1, I1, r1, q1⟩ => thn (hk pos pins s1 σ H1 _ I1 q1) fun ks s2 ⟨ws, H2, I2, r2, q2⟩ => ?_) he hpl hall hkw))
  rw [hks]
  exact call_maxK G hr hb hc I2 r1 r2 q2
end
section
variable {X : Cx} {pins : List (Addr × Obj)} {σ : St}
theorem minK_loop {k : Nat} {f : Addr} {fd : FuncData} {p0 : Str} {sp : Sp} {H : Hp} {l it Z : Addr} {as : List Addr} {kf : Nat → Int} {R : Result → Shared → Prop}
    (G : FnOk X.prog X.w X.K X.mg X.base CX0 k f fd [p0] sp) (hr : Room (k + 1) X.A) (hb : Binds X.K fd [p0] []) (hc : X.calm = true) (hS : SqL X.K H l (as.map V.ref)) (hk : KeyOk sp H as kf) (hne : it ≠ Z) :
    ∀ (m j : Nat) (s : Shared) (H1 : Hp) (vb vk : Value) (c : Nat), as.length - (j + 1) = m → j + 1 ≤ as.length → Inv X pins σ H1 s → Same H H1 → (∀ b ∈ [it, Z], FpOk X pins H1 b) → s.heap.IsListIter it l (j + 1) →
      s.heap.get? Z = some { cls := .type "list", dict := none, data := .seq #[vb, vk] c, slots := #[] } → (∃ a, as[argBest (fun i j => decide (kf i < kf j)) j]? = some a ∧ vb = .ref a) → (∃ t, vk = .int (kf (argBest (fun i j => decide (kf i < kf j)) j)) t) →
      (∀ a s' H', Inv X pins σ H' s' → Same H H' → as[argBest (fun i j => decide (kf i < kf j)) (as.length - 1)]? = some a → R (.ok (.ret (.ref a))) s') → codeAny (model X.prog X.w) X.A (.builtin "min.loop" ⟨[.ref it, .ref f, .ref Z], [("default", .none)]⟩) R s := by
  have nm : (toString "min" ++ toString ".loop" : String) = "min.loop" := by decide
  have T := turn_list (P := X.prog) (w := X.w) (K := X.K) (tg := .Name "" ⟨0, 0, 0, 0⟩) l it
  intro m
  induction m with
  | zero =>
    intro j s H1 vb vk c e1 e2 I s1 fp hit z0 hvb hvk fin
    have en : j + 1 = as.length := by omega
    refine codeAny_builtin PySem.F.entry_min_loop ?_
    rw [Around.under_plainId PySem.F.plain_min_loop _]
    show wpAny _ X.A.in1 (seqItems? (.ref Z) >>= _) _ _ s
    refine wpAny_bind (wpAny_seqItems z0 rfl ?_)
    show wpAny _ X.A.in1 (tryCatch (pyNext (.ref it)) _ >>= _) _ _ s
    obtain ⟨its, rv, pl, hz⟩ := I.list (s1.seq hS)
    have hl := rv.length
    rw [List.length_map] at hl
    refine wpAny_bind (wpAny_tryCatch (wpAny_pyNext_list_end (show X.A.in1.handled = none from I.ok.hd hc) hit pl.isList (by simp; omega) fun h' eb => ?_))
    have I1 : Inv X pins σ H1 { s with heap := h' } := I.turnedL (t' := s.toks) (ch := [it, Z]) (fun b o hb e => eb b o (fun q => hb (by simp [q])) e) fp
    have z1 := eb Z _ (Ne.symm hne) z0
    show wpAny _ X.A.in1 (updateSeq Z (fun _ => #[]) >>= _) _ _ _
    refine wpAny_bind (wpAny_updateSeq z1 rfl (wpAny_bind (wpAny_letGo (wpAny_pure ?_))))
    obtain ⟨a, ha, rfl⟩ := hvb
    refine fin a _ H1 (I1.turnedL (t' := s.toks) (ch := [it, Z]) (fun b o hb e => (Heap.get?_update_other _ _ (fun q => hb (by simp [q]))).trans e) fp) s1 ?_
    have e3 : as.length - 1 = j := by omega
    rw [e3]
    exact ha
  | succ m ih =>
    intro j s H1 vb vk c e1 e2 I s1 fp hit z0 hvb hvk fin
    have lt : j + 1 < as.length := by omega
    refine codeAny_builtin PySem.F.entry_min_loop ?_
    rw [Around.under_plainId PySem.F.plain_min_loop _]
    show wpAny _ X.A.in1 (seqItems? (.ref Z) >>= _) _ _ s
    refine wpAny_bind (wpAny_seqItems z0 rfl ?_)
    show wpAny _ X.A.in1 (tryCatch (pyNext (.ref it)) _ >>= _) _ _ s
    obtain ⟨its, rv, pl, hz⟩ := I.list (s1.seq hS)
    have ha : as[j + 1]? = some as[j + 1] := by simp [lt]
    obtain ⟨u, hu, ru⟩ := rv.get (i := j + 1) (x := V.ref as[j + 1]) (by rw [List.getElem?_map, ha]; rfl)
    obtain rfl : u = Value.ref as[j + 1] := ru
    refine wpAny_bind (wpAny_tryCatch (wpAny_pyNext_list_item hit pl.isList (x := .ref as[j + 1]) (by simpa using hu) fun h' hit' sb => ?_))
    have I1 : Inv X pins σ H1 { s with heap := h' } := I.turnedL (t' := s.toks) (ch := [it, Z]) (fun b o hb e => (sb.2 b (fun q => hb (by simp [q]))).trans e) fp
    have z1 := (sb.2 Z (Ne.symm hne)).trans z0
    show wpAny _ X.A.in1 (tryCatch (holding [.ref as[j + 1]] (call (.ref f) [.ref as[j + 1]])) _ >>= _) _ _ _
    obtain ⟨oi, hoi, ci, di⟩ := id hit'
    have ob : ∀ b ∈ [it, Z], ∃ o, h'.get? b = some o ∧ ∀ v, o.data ≠ .cell v := fun b hb => by
      simp only [List.mem_cons, List.not_mem_nil, or_false] at hb
      rcases hb with q | q <;> subst q
      · exact ⟨oi, hoi, fun v q => by rw [di] at q; cases q⟩
      · exact ⟨_, z1, fun v q => by cases q⟩
    have Ip := I1.pinned fp ob
    refine wpAny_bind (wpAny_tryCatch (wpAny_holding (wpAny_mono (run_fn (X := X.i1) (us := [.ref as[j + 1]]) (vs := [.ref as[j + 1]]) (Q := fun v H2 => v = .int (kf (j + 1)) ∧ Same H1 H2) (E := E0) G hr.in1 hb .nil pass0 Ip.i1 (.cons rfl .nil) (hk (j + 1) _ H1 _ ha s1 fun H2 s2 => ⟨rfl, s2⟩)) (fun v s2 hq => ?_) fun _ _ z => z.elim)))
    obtain ⟨y, H2, I2', ry, ey, s2'⟩ := hq
    subst ey
    obtain ⟨t, rfl⟩ := ry
    have I2 : Inv X (pins ++ pinsAt [it, Z] h') σ H2 s2 := I2'.o1 I.ok.hd I.ok.frames
    have pin : ∀ b o, b ∈ [it, Z] → h'.get? b = some o → s2.heap.get? b = some o ∧ H2 b = none := fun b o hb e => by
      have z := I2.pin (b, o) (List.mem_append_right _ (List.mem_append_right _ (mem_pinsAt hb e)))
      exact ⟨z.1, z.2.1⟩
    have z2 := (pin Z _ (by simp) z1).1
    have hit2 : s2.heap.IsListIter it l (j + 1 + 1) := ⟨oi, (pin it _ (by simp) hoi).1, ci, di⟩
    have fp2 : ∀ b ∈ [it, Z], FpOk X pins H2 b := fun b hb => by
      obtain ⟨o, e, _⟩ := ob b hb
      exact ⟨(pin b o hb e).2, (fp b hb).2⟩
    have I3 : Inv X pins σ H2 s2 := I2.unpinned
    have s3 : Same H H2 := Same.trans s1 s2'
    obtain ⟨tb, rfl⟩ := hvk
    show wpAny _ X.A.in1 (tryCatch (holding [.ref as[j + 1], .int (kf (j + 1)) t] (richCompare .Lt (.int (kf (j + 1)) t) (.int (kf (argBest (fun i j => decide (kf i < kf j)) j)) tb) >>= _)) _ >>= _) _ _ _
    refine wpAny_bind (wpAny_tryCatch (wpAny_holding (wpAny_bind (lt_int ?_))))
    refine wpAny_bind (wpAny_holding (wpAny_truthy_bool (wpAny_bind (wpAny_letGo (wpAny_pure ?_)))))
    cases hbt : decide (kf (j + 1) < kf (argBest (fun i j => decide (kf i < kf j)) j)) with
    | true =>
      simp only [if_true]
      refine wpAny_bind (wpAny_updateSeq z2 rfl (wpAny_bind (wpAny_letGo ?_)))
      rw [nm]
      have ek : argBest (fun i j => decide (kf i < kf j)) (j + 1) = j + 1 := argBest_T hbt
      refine wpAny_pure ⟨plainId_quiet PySem.F.plain_min_loop _, ih (j + 1) _ H2 _ _ _ (by omega) lt (I3.turnedL (t' := s2.toks) (ch := [it, Z]) (fun b o hb e => (Heap.get?_update_other _ _ (fun q => hb (by simp [q]))).trans e) fp2) s3 fp2
        ⟨oi, (Heap.get?_update_other _ _ (Ne.symm hne)).trans (pin it _ (by simp) hoi).1, ci, di⟩ (Heap.get?_update_self _ z2 rfl) ⟨_, by rw [ek]; exact ha, rfl⟩ ⟨t, by rw [ek]⟩ fin⟩
    | false =>
      simp only [Bool.false_eq_true, if_false]
      refine wpAny_bind (wpAny_letGo ?_)
      rw [nm]
      have ek : argBest (fun i j => decide (kf i < kf j)) (j + 1) = argBest (fun i j => decide (kf i < kf j)) j := argBest_F hbt
      refine wpAny_pure ⟨plainId_quiet PySem.F.plain_min_loop _, ih (j + 1) _ H2 _ _ _ (by omega) lt I3 s3 fp2 hit2 z2 (by rw [ek]; exact hvb) ⟨tb, by rw [ek]⟩ fin⟩
def rminK (K : PySem.W.Frag) (f : Addr) (sp : Sp) : List V → List V → Hp → VK → Prop := fun xs ws H Q => ∃ (l : Addr) (as : List Addr) (kf : Nat → Int), xs = [.ref l] ∧ ws = [.ref f, .non] ∧ SqL K H l (as.map V.ref) ∧ KeyOk sp H as kf ∧
  (as = [] → ∀ H', Same H H' → Q .non H') ∧ ∀ a H', as[argBest (fun i j => decide (kf i < kf j)) (as.length - 1)]? = some a → Same H H' → Q (.ref a) H'
set_option maxHeartbeats 1000000 in
theorem args_minK (a b : Value) : argsOk "min" ⟨[a], [(Str.ofString "key", b), (Str.ofString "default", .none)]⟩ := by unfold argsOk; kernel_rfl
set_option maxHeartbeats 1000000 in
theorem call_minK {k : Nat} {f : Addr} {fd : FuncData} {p0 : Str} {sp : Sp} (G : FnOk X.prog X.w X.K X.mg X.base CX0 k f fd [p0] sp) (hr : Room (k + 1) X.A) (hb : Binds X.K fd [p0] []) (hc : X.calm = true)
    {s : Shared} {H : Hp} {xs ws : List V} {us ks : List Value} {Q : VK} (I : Inv X pins σ H s) (r : Vals xs us) (r2 : Vals ws ks) (h : rminK X.K f sp xs ws H Q) :
    wpAny (model X.prog X.w) X.A (call (.builtin "min") us ([Str.ofString "key", Str.ofString "default"].zip ks)) (EP X pins σ Q) X.xe s := by
  obtain ⟨l, as, kf, e1, e2, hS, hk, q0, q1⟩ := h
  subst e1 e2
  obtain ⟨u, rfl, ru⟩ := vals1 r
  obtain rfl : u = Value.ref l := ru
  obtain ⟨v1, v2, rfl, rf, rn⟩ := vals2 r2
  obtain rfl : v1 = Value.ref f := rf
  obtain rfl : v2 = Value.none := rn
  have nm : (toString "min" ++ toString ".loop" : String) = "min.loop" := by decide
  refine PyProof.Rows.kmk_tree PySem.F.kind_min PySem.F.plain_min PySem.F.entry_min (args_minK _ _) ?_
  show wpAny _ X.A.in1 (Builtin.Builtins.bindParams "min" ["key", "default"] 0 ⟨[], [(Str.ofString "key", .ref f), (Str.ofString "default", .none)]⟩ >>= _) _ _ s
  refine wpAny_bind (wpAny_of_eq (show Builtin.Builtins.bindParams "min" ["key", "default"] 0 ⟨[], [(Str.ofString "key", .ref f), (Str.ofString "default", .none)]⟩ = pure [some (.ref f), some .none] from rfl) ?_)
  refine wpAny_bind (wpAny_pure ?_)
  obtain ⟨its, rv, pl, hz⟩ := I.list hS
  have hlen := rv.length
  rw [List.length_map] at hlen
  have ll : l < s.heap.objs.size := by obtain ⟨o, ho, _⟩ := pl.isList; exact Heap.lt_size ho
  refine wpAny_bind (wpAny_pyIter_list pl.isList ?_)
  refine wpAny_bind (wpAny_newList ?_ (Nat.zero_le _))
  rw [nm]
  generalize hh1 : s.heap.push { cls := .type "list_iterator", data := .fields #[.ref l, .int 0 0] } = h1
  have sz1 : h1.objs.size = s.heap.objs.size + 1 := by rw [← hh1]; exact Heap.size_push ..
  generalize hh2 : h1.push { cls := .type "list", dict := none, data := .seq (([] : List Value).toArray) 0 } = h2
  have k1 : ∀ b o, s.heap.get? b = some o → h2.get? b = some o := fun b o e => by rw [← hh2, ← hh1]; exact Heap.get?_push_of_some _ (Heap.get?_push_of_some _ e)
  have gI : h2.get? s.heap.objs.size = some { cls := .type "list_iterator", data := .fields #[.ref l, .int 0 0] } := by rw [← hh2, ← hh1]; exact Heap.get?_push_of_some _ (Heap.get?_push_size _ rfl)
  have gZ : h2.get? h1.objs.size = some { cls := .type "list", dict := none, data := .seq #[] 0, slots := #[] } := by rw [← hh2]; exact Heap.get?_push_size _ rfl
  have I1 : Inv X pins σ H { s with heap := h2 } := I.kept (t' := s.toks) k1
  have hne : s.heap.objs.size ≠ h1.objs.size := by rw [sz1]; exact Nat.ne_of_lt (Nat.lt_succ_self _)
  have fp : ∀ b ∈ [s.heap.objs.size, h1.objs.size], FpOk X pins H b := fun b hb => by
    have ge : s.heap.objs.size ≤ b := by
      simp only [List.mem_cons, List.not_mem_nil, or_false] at hb
      rcases hb with q | q <;> rw [q]
      · exact Nat.le_refl _
      · rw [sz1]; exact Nat.le_succ _
    exact I.fpOk ge (I.hok.fresh ge)
  refine wpAny_pure ⟨plainId_quiet PySem.F.plain_min_loop _, ?_⟩
  generalize s.heap.objs.size = it at *
  generalize h1.objs.size = Z at *
  have hit : h2.IsListIter it l 0 := ⟨_, gI, rfl, rfl⟩
  refine codeAny_builtin PySem.F.entry_min_loop ?_
  rw [Around.under_plainId PySem.F.plain_min_loop _]
  show wpAny _ X.A.in1 (seqItems? (.ref Z) >>= _) _ _ _
  refine wpAny_bind (wpAny_seqItems gZ rfl ?_)
  show wpAny _ X.A.in1 (tryCatch (pyNext (.ref it)) _ >>= _) _ _ _
  have pl1 : h2.IsList l its.toArray := pl.isList.at fun o e => k1 l o e
  by_cases h0 : as = []
  · subst h0
    have e0 : its = [] := List.length_eq_zero_iff.mp (by simpa using hlen.symm)
    subst e0
    refine wpAny_bind (wpAny_tryCatch (wpAny_pyNext_list_end (show X.A.in1.handled = none from I.ok.hd hc) hit pl1 (by simp) fun h' eb => ?_))
    have I2 : Inv X pins σ H { s with heap := h' } := Inv.turnedL (s := { s with heap := h2 }) (h' := h') (t' := s.toks) (ch := [it, Z]) I1 (fun b o hb e => eb b o (fun q => hb (by simp [q])) e) fp
    refine wpAny_bind (wpAny_rule (wpAny_pure ?_))
    exact ⟨.non, H, I2, rfl, q0 rfl H (Same.refl H)⟩
  · have lt : 0 < as.length := List.length_pos_iff.mpr h0
    have ha : as[0]? = some as[0] := by simp [lt]
    obtain ⟨u, hu, ru⟩ := rv.get (i := 0) (x := V.ref as[0]) (by rw [List.getElem?_map, ha]; rfl)
    obtain rfl : u = Value.ref as[0] := ru
    refine wpAny_bind (wpAny_tryCatch (wpAny_pyNext_list_item hit pl1 (x := .ref as[0]) (by simpa using hu) fun h' hit' sb => ?_))
    have I2 : Inv X pins σ H { s with heap := h' } := Inv.turnedL (s := { s with heap := h2 }) (h' := h') (t' := s.toks) (ch := [it, Z]) I1 (fun b o hb e => (sb.2 b (fun q => hb (by simp [q]))).trans e) fp
    have z1 := (sb.2 Z (Ne.symm hne)).trans gZ
    show wpAny _ X.A.in1 (tryCatch (holding [.ref as[0]] (call (.ref f) [.ref as[0]])) _ >>= _) _ _ _
    obtain ⟨oi, hoi, ci, di⟩ := id hit'
    have ob : ∀ b ∈ [it, Z], ∃ o, h'.get? b = some o ∧ ∀ v, o.data ≠ .cell v := fun b hb => by
      simp only [List.mem_cons, List.not_mem_nil, or_false] at hb
      rcases hb with q | q <;> subst q
      · exact ⟨oi, hoi, fun v q => by rw [di] at q; cases q⟩
      · exact ⟨_, z1, fun v q => by cases q⟩
    have Ip := I2.pinned fp ob
    refine wpAny_bind (wpAny_tryCatch (wpAny_holding (wpAny_mono (run_fn (X := X.i1) (us := [.ref as[0]]) (vs := [.ref as[0]]) (Q := fun v H2 => v = .int (kf 0) ∧ Same H H2) (E := E0) G hr.in1 hb .nil pass0 Ip.i1 (.cons rfl .nil) (hk 0 _ H _ ha (Same.refl H) fun H2 s2 => ⟨rfl, s2⟩)) (fun v s2 hq => ?_) fun _ _ z => z.elim)))
    obtain ⟨y, H2, I2', ry, ey, s2'⟩ := hq
    subst ey
    obtain ⟨t, rfl⟩ := ry
    have I3' : Inv X (pins ++ pinsAt [it, Z] h') σ H2 s2 := I2'.o1 I.ok.hd I.ok.frames
    have pin : ∀ b o, b ∈ [it, Z] → h'.get? b = some o → s2.heap.get? b = some o ∧ H2 b = none := fun b o hb e => by
      have z := I3'.pin (b, o) (List.mem_append_right _ (List.mem_append_right _ (mem_pinsAt hb e)))
      exact ⟨z.1, z.2.1⟩
    have z2 := (pin Z _ (by simp) z1).1
    have fp2 : ∀ b ∈ [it, Z], FpOk X pins H2 b := fun b hb => by
      obtain ⟨o, e, _⟩ := ob b hb
      exact ⟨(pin b o hb e).2, (fp b hb).2⟩
    have I3 : Inv X pins σ H2 s2 := I3'.unpinned
    show wpAny _ X.A.in1 (updateSeq Z (fun _ => #[.ref as[0], .int (kf 0) t]) >>= _) _ _ _
    refine wpAny_bind (wpAny_updateSeq z2 rfl ?_)
    rw [nm]
    refine wpAny_pure ⟨plainId_quiet PySem.F.plain_min_loop _, ?_⟩
    exact minK_loop (it := it) (Z := Z) (l := l) (as := as) (kf := kf) (H := H) G hr hb hc hS hk hne (as.length - (0 + 1)) 0 _ H2 _ _ _ rfl lt (I3.turnedL (t' := s2.toks) (ch := [it, Z]) (fun b o hb e => (Heap.get?_update_other _ _ (fun q => hb (by simp [q]))).trans e) fp2) s2' fp2
      ⟨oi, (Heap.get?_update_other _ _ (Ne.symm hne)).trans (pin it _ (by simp) hoi).1, ci, di⟩ (Heap.get?_update_self _ z2 rfl) ⟨_, ha, rfl⟩ ⟨t, rfl⟩ fun a s' H' I' s'' e => ⟨.ref a, H', I', rfl, q1 a H' e s''⟩
end
section
variable {X : Cx}
def tminK (K : PySem.W.Frag) (f : Addr) (sp : Sp) (ta tk : TA) : TE := fun σ H Q => ta σ H fun vs H1 => tk σ H1 fun ws H2 => rminK K f sp vs ws H2 Q
theorem pe_minK {k : Nat} {f : Addr} {fd : FuncData} {p0 : Str} {sp : Sp} {l : Expr} {kws : List Keyword} {ta tk : TA} {p pos : Pos} (G : FnOk X.prog X.w X.K X.mg X.base CX0 k f fd [p0] sp) (hr : Room (k + 1) X.A) (hb : Binds X.K fd [p0] []) (hc : X.calm = true)
    (hg : Gl X "min") (hm : X.mg "min" = none) (ha : PA X [l] ta) (hk : PK X kws tk) (hks : (backToKw pos (keywordEach kws X.env)).filterMap (·.1) = [Str.ofString "key", Str.ofString "default"] := by rfl)
    (he : backTo pos (starEach [l] X.env) = (false, eval l X.env) :: backTo pos (starEach [] X.env) := by rfl) (hpl : (backTo pos (starEach [l] X.env)).any (·.1) = false := by rfl)
    (hall : (backToKw pos (keywordEach kws X.env)).all (·.1.isSome) = true := by rfl) (hkw : (backToKw pos (keywordEach kws X.env)).any (·.1.isNone) = false := by rfl) :
    PE X (.Call (.Name "min" p) [l] kws pos) (tminK X.K f sp ta tk) := by
  intro pins s σ H Q I h
  refine wpAny_Call_Name_kw (ld_blt I hg hm PyProof.Rows.boot_min (callWith_bK (thn (ha pos pins s σ H _ I h) fun us s1 ⟨vs, H1, I1, r1, q1⟩ => thn (hk pos pins s1 σ H1 _ I1 q1) fun ks s2 ⟨ws, H2, I2, r2, q2⟩ => ?_) he hpl hall hkw))
  rw [hks]
  exact call_minK G hr hb hc I2 r1 r2 q2
end
end L2
namespace L2
open PySem PySem.Spec PyProof.Rows
section
variable {X : Cx} {tg : Expr}
end
end L2
namespace L2
open PySem PySem.Spec PyProof.Rows
abbrev gTwo (K : PySem.W.Frag) : TG := gTup K 2 (gCons (gName 0) (gCons (gName 1) gNil))
theorem Same.put1 {H H2 : Hp} {l : Addr} {o : HO} (s : Same H H2) (hn : H l = none) : Same H (upd H2 l o) := fun b u e => by
  rw [upd_ne (ne_of_none e hn)]
  exact s b u e
theorem range_filter_succ {α : Type} (n : Nat) (c : Nat → Bool) (f : Nat → α) : ((List.range (n + 1)).filter c).map f = ((List.range n).filter c).map f ++ (if c n = true then [f n] else []) := by
  rw [List.range_succ, List.filter_append, List.map_append]
  by_cases h : c n = true
  · rw [if_pos h, List.filter_cons_of_pos h]; rfl
  · rw [if_neg h, List.filter_cons_of_neg h]; rfl
theorem comp_zipP {K : PySem.W.Frag} {a b : Addr} {xs ys : List V} {tt : TT} {te : TE} {σ : St} {H : Hp} {Q : VK} (c : Nat → Bool) (f : Nat → V) (hA : SqL K H a xs) (hB : SqL K H b ys) (hn : min xs.length ys.length < sizeLine)
    (ht : ∀ (i : Nat) (x y : V) (H' : Hp) (Q' : Bool → Hp → Prop), xs[i]? = some x → ys[i]? = some y → Same H H' → (∀ H'', Same H' H'' → Q' (c i) H'') → tt (some x :: some y :: σ) H' Q')
    (he : ∀ (i : Nat) (x y : V) (H' : Hp) (Q' : VK), c i = true → xs[i]? = some x → ys[i]? = some y → Same H H' → (∀ H'', Same H' H'' → Q' (f i) H'') → te (some x :: some y :: σ) H' Q')
    (hd : ∀ D H', H D = none → Same H H' → H' D = some (.lst (((List.range (min xs.length ys.length)).filter c).map f)) → Q (.ref D) H') : CompGoN (Itz K a b) H 2 σ (gTwo K) tt te Q := by
  intro D hD
  refine ⟨fun i m H' => m = min xs.length ys.length - i ∧ i ≤ min xs.length ys.length ∧ Same H H' ∧ H' D = some (.lst (((List.range i).filter c).map f)), ⟨_, rfl, Nat.zero_le _, Same.put1 (Same.refl H) hD, upd_same⟩, ?_⟩
  rintro i m H' ⟨rfl, hi, s1, hl⟩
  have qa := s1.seq hA
  have qb := s1.seq hB
  by_cases hlt : i < min xs.length ys.length
  · have hx : i < xs.length := by omega
    have hy : i < ys.length := by omega
    refine .inr ⟨⟨xs, ys, xs[i], ys[i], qa, qb, by simp [hx], by simp [hy]⟩, fun x H2 ρ lρ y => ?_⟩
    obtain ⟨p, u, v, rfl, hp, rfl, yu, yv⟩ := y
    have eu := yu xs qa
    have ev := yv ys qb
    match ρ, lρ with
    | [r0, r1], _ =>
      have s2 : Same H' (upd H' p (.tup [u, v])) := Same.put1 (Same.refl _) hp
      refine ⟨p, _, rfl, SqT.of upd_same, rfl, _, _, rfl, _, _, rfl, rfl, ⟨[some u, some v], rfl, rfl⟩, ?_⟩
      have s12 := Same.trans s1 s2
      have hl2 := s2 _ _ hl
      refine ht i u v _ _ eu ev s12 fun H3 s3 => ?_
      have hl3 := s3 _ _ hl2
      have s13 := Same.trans s12 s3
      cases hc : c i with
      | true =>
        refine iteT (he i u v _ _ hc eu ev s13 fun H4 s4 => ⟨_, s4 _ _ hl3, ?_, _, Nat.sub_succ_lt_self _ _ hlt, rfl, hlt, Same.put1 (Same.trans s13 s4) hD, ?_⟩)
        · rw [List.length_map]
          exact Nat.lt_of_le_of_lt (Nat.le_trans (List.length_filter_le _ _) (by rw [List.length_range]; omega)) hn
        · rw [upd_same, range_filter_succ, if_pos hc]
      | false =>
        refine iteF ⟨_, Nat.sub_succ_lt_self _ _ hlt, rfl, hlt, s13, ?_⟩
        rw [hl3, range_filter_succ, if_neg (by rw [hc]; exact Bool.false_ne_true), List.append_nil]
  · have e : i = min xs.length ys.length := by omega
    refine .inl ⟨⟨xs, ys, qa, qb, by omega⟩, ?_⟩
    rw [e] at hl
    exact hd D H' hD s1 hl
theorem comp_tupP {K : PySem.W.Frag} {a : Addr} {xs : List V} {tt : TT} {te : TE} {σ : St} {H : Hp} {Q : VK} (c : Nat → Bool) (f : Nat → V) (hA : H a = some (.tup xs)) (hn : xs.length < sizeLine)
    (ht : ∀ (i : Nat) (x : V) (H' : Hp) (Q' : Bool → Hp → Prop), xs[i]? = some x → Same H H' → (∀ H'', Same H' H'' → Q' (c i) H'') → tt (some x :: σ) H' Q')
    (he : ∀ (i : Nat) (x : V) (H' : Hp) (Q' : VK), c i = true → xs[i]? = some x → Same H H' → (∀ H'', Same H' H'' → Q' (f i) H'') → te (some x :: σ) H' Q')
    (hd : ∀ D H', H D = none → Same H H' → H' D = some (.lst (((List.range xs.length).filter c).map f)) → Q (.ref D) H') : CompGo (Itt K a) H σ tt te Q := by
  intro D hD
  refine ⟨fun i m H' => m = xs.length - i ∧ i ≤ xs.length ∧ Same H H' ∧ H' D = some (.lst (((List.range i).filter c).map f)), ⟨_, rfl, Nat.zero_le _, Same.put1 (Same.refl H) hD, upd_same⟩, ?_⟩
  rintro i m H' ⟨rfl, hi, s1, hl⟩
  have qa : SqT K H' a xs := SqT.of (s1 _ _ hA)
  by_cases hlt : i < xs.length
  · refine .inr ⟨⟨xs, xs[i], qa, by simp [hlt]⟩, fun x H2 y => ?_⟩
    obtain ⟨e, y⟩ := y
    subst e
    have eu := y xs qa
    refine ht i x _ _ eu s1 fun H3 s3 => ?_
    have hl3 := s3 _ _ hl
    have s13 := Same.trans s1 s3
    cases hc : c i with
    | true =>
      refine iteT (he i x _ _ hc eu s13 fun H4 s4 => ⟨_, s4 _ _ hl3, ?_, _, Nat.sub_succ_lt_self _ _ hlt, rfl, hlt, Same.put1 (Same.trans s13 s4) hD, ?_⟩)
      · rw [List.length_map]
        exact Nat.lt_of_le_of_lt (Nat.le_trans (List.length_filter_le _ _) (by rw [List.length_range]; omega)) hn
      · rw [upd_same, range_filter_succ, if_pos hc]
    | false =>
      refine iteF ⟨_, Nat.sub_succ_lt_self _ _ hlt, rfl, hlt, s13, ?_⟩
      rw [hl3, range_filter_succ, if_neg (by rw [hc]; exact Bool.false_ne_true), List.append_nil]
  · have e : i = xs.length := by omega
    refine .inl ⟨⟨xs, qa, by omega⟩, ?_⟩
    rw [e] at hl
    exact hd D H' hD s1 hl
end L2
namespace S2
open PySem L2
def RowsOf (H : Hp) (as : List Addr) (rows : List (List V)) : Prop := as.length = rows.length ∧ ∀ (i : Nat) (p : Addr) (r : List V), as[i]? = some p → rows[i]? = some r → H p = some (.tup r)
theorem RowsOf.same {H H2 : Hp} {as : List Addr} {rows : List (List V)} (h : RowsOf H as rows) (s : Same H H2) : RowsOf H2 as rows := ⟨h.1, fun i p r e1 e2 => s _ _ (h.2 i p r e1 e2)⟩
theorem RowsOf.nil {H : Hp} : RowsOf H [] [] := ⟨rfl, fun i p r e => by simp at e⟩
theorem RowsOf.snoc {H H2 : Hp} {as : List Addr} {rows : List (List V)} {p : Addr} {r : List V} (h : RowsOf H as rows) (s : Same H H2) (hp : H2 p = some (.tup r)) : RowsOf H2 (as ++ [p]) (rows ++ [r]) := by
  refine ⟨by rw [List.length_append, List.length_append, h.1]; rfl, fun i q x e1 e2 => ?_⟩
  by_cases hi : i < as.length
  · rw [List.getElem?_append_left hi] at e1
    rw [List.getElem?_append_left (by rw [← h.1]; exact hi)] at e2
    exact s _ _ (h.2 i q x e1 e2)
  · rw [List.getElem?_append_right (by omega)] at e1
    rw [List.getElem?_append_right (by rw [← h.1]; omega), ← h.1] at e2
    cases e : i - as.length with
    | zero =>
      rw [e] at e1 e2
      cases e1
      cases e2
      exact hp
    | succ d => rw [e] at e1; simp at e1
theorem RowsOf.get {H : Hp} {as : List Addr} {rows : List (List V)} (h : RowsOf H as rows) {i : Nat} {x : V} (e : (as.map V.ref)[i]? = some x) : ∃ p r, x = .ref p ∧ as[i]? = some p ∧ rows[i]? = some r ∧ H p = some (.tup r) := by
  rw [List.getElem?_map] at e
  cases e1 : as[i]? with
  | none => rw [e1] at e; cases e
  | some p =>
    rw [e1] at e
    have hi : i < rows.length := by rw [← h.1]; exact get_lt e1
    exact ⟨p, rows[i], (Option.some.inj e).symm, rfl, by simp [hi], h.2 i p rows[i] e1 (by simp [hi])⟩
structure Fl where
  nm : Str
  lf : Bool
  w : Int
  h : Int
structure Pl where
  nm : Str
  x : Int
  y : Int
  w : Int
  h : Int
def fl0 : Fl := ⟨"", true, 0, 0⟩
def pl0 : Pl := ⟨"", 0, 0, 0, 0⟩
def sideOf (b : Bool) : Str := if b = true then "left" else "right"
def flRow (f : Fl) : List V := [.str f.nm, .str (sideOf f.lf), .int f.w, .int f.h]
def plRow (p : Pl) : List V := [.str p.nm, .int p.x, .int p.y, .int p.w, .int p.h]
theorem side_eq (b c : Bool) : (sideOf b = sideOf c) ↔ b = c := by
  cases b <;> cases c <;> simp [sideOf] <;> decide +kernel
def gF (fls : List Fl) (i : Nat) : Fl := fls.getD i fl0
def gP (pls : List Pl) (i : Nat) : Pl := pls.getD i pl0
theorem gF_of {fls : List Fl} {i : Nat} {f : Fl} (h : fls[i]? = some f) : gF fls i = f := by unfold gF; rw [List.getD_eq_getElem?_getD, h]; rfl
theorem gP_of {pls : List Pl} {i : Nat} {p : Pl} (h : pls[i]? = some p) : gP pls i = p := by unfold gP; rw [List.getD_eq_getElem?_getD, h]; rfl
def touB (p : Pl) (row high : Int) : Bool := decide ((if row > p.y then row else p.y) < (if row + high < p.y + p.h then row + high else p.y + p.h))
theorem touB_iff {p : Pl} {row high : Int} : touB p row high = true ↔ p.y < p.y + p.h ∧ p.y < row + high ∧ row < p.y + p.h ∧ row < row + high := by
  unfold touB
  rw [decide_eq_true_iff]
  constructor
  · intro h
    split at h <;> split at h <;> omega
  · intro h
    split <;> split <;> omega
def tIdx (fls : List Fl) (pls : List Pl) (sd : Bool) (row high : Int) : List Nat := (List.range (min fls.length pls.length)).filter fun i => decide (sideOf (gF fls i).lf = sideOf sd) && touB (gP pls i) row high
def bestR (pls : List Pl) (ix : List Nat) : Option Nat := ix[argBest (fun i j => decide ((gP pls (ix.getD i 0)).x + (gP pls (ix.getD i 0)).w > (gP pls (ix.getD j 0)).x + (gP pls (ix.getD j 0)).w)) (ix.length - 1)]?
def bestL (pls : List Pl) (ix : List Nat) : Option Nat := ix[argBest (fun i j => decide ((gP pls (ix.getD i 0)).x < (gP pls (ix.getD j 0)).x)) (ix.length - 1)]?
def nrL (fls : List Fl) (pls : List Pl) (row high : Int) : Option Nat := bestR pls (tIdx fls pls true row high)
def nrR (fls : List Fl) (pls : List Pl) (row high : Int) : Option Nat := bestL pls (tIdx fls pls false row high)
def edL (fls : List Fl) (pls : List Pl) (row high : Int) : Int := match nrL fls pls row high with
  | none => 0
  | some i => (gP pls i).x + (gP pls i).w
def edR (W : Int) (fls : List Fl) (pls : List Pl) (row high : Int) : Int := match nrR fls pls row high with
  | none => W
  | some i => (gP pls i).x
def optV (as : List Addr) : Option Nat → V
  | none => .non
  | some i => .ref (as.getD i 0)
theorem mem_tIdx {fls : List Fl} {pls : List Pl} {sd : Bool} {row high : Int} {i : Nat} : i ∈ tIdx fls pls sd row high ↔ i < fls.length ∧ i < pls.length ∧ (gF fls i).lf = sd ∧ touB (gP pls i) row high = true := by
  unfold tIdx
  rw [List.mem_filter, List.mem_range, Bool.and_eq_true, decide_eq_true_iff, side_eq]
  constructor
  · intro ⟨h1, h2, h3⟩; exact ⟨by omega, by omega, h2, h3⟩
  · intro ⟨h1, h2, h3, h4⟩; exact ⟨by omega, h3, h4⟩
theorem best_none {ix : List Nat} {bt : Nat → Nat → Bool} : ix[argBest bt (ix.length - 1)]? = none → (∀ k, argBest bt k ≤ k) → ix = [] := fun h hb => by
  rw [List.getElem?_eq_none_iff] at h
  have := hb (ix.length - 1)
  cases ix with
  | nil => rfl
  | cons x r => rw [List.length_cons] at h this; omega
theorem arg_le (bt : Nat → Nat → Bool) : ∀ k, argBest bt k ≤ k
  | 0 => Nat.le_refl _
  | k + 1 => by
    have := arg_le bt k
    unfold argBest
    split <;> omega
theorem getD_of {ix : List Nat} {k i : Nat} (h : ix[k]? = some i) : ix.getD k 0 = i := by rw [List.getD_eq_getElem?_getD, h]; rfl
theorem bestR_some {pls : List Pl} {ix : List Nat} {i : Nat} (h : bestR pls ix = some i) : i ∈ ix ∧ ∀ j ∈ ix, (gP pls j).x + (gP pls j).w ≤ (gP pls i).x + (gP pls i).w := by
  unfold bestR at h
  have e := getD_of h
  refine ⟨List.mem_of_getElem? h, fun j hj => ?_⟩
  obtain ⟨k, hk⟩ := List.getElem?_of_mem hj
  have g := (argBest_gt (fun i => (gP pls (ix.getD i 0)).x + (gP pls (ix.getD i 0)).w) (ix.length - 1)).2 k (by have := get_lt hk; omega)
  simp only [getD_of hk] at g
  rw [e] at g
  exact g
theorem bestL_some {pls : List Pl} {ix : List Nat} {i : Nat} (h : bestL pls ix = some i) : i ∈ ix ∧ ∀ j ∈ ix, (gP pls i).x ≤ (gP pls j).x := by
  unfold bestL at h
  have e := getD_of h
  refine ⟨List.mem_of_getElem? h, fun j hj => ?_⟩
  obtain ⟨k, hk⟩ := List.getElem?_of_mem hj
  have g := (argBest_lt (fun i => (gP pls (ix.getD i 0)).x) (ix.length - 1)).2 k (by have := get_lt hk; omega)
  simp only [getD_of hk] at g
  rw [e] at g
  exact g
theorem bestR_none {pls : List Pl} {ix : List Nat} (h : bestR pls ix = none) : ix = [] := best_none h (arg_le _)
theorem bestL_none {pls : List Pl} {ix : List Nat} (h : bestL pls ix = none) : ix = [] := best_none h (arg_le _)
end S2
namespace S2
open PySem L2
def endOf (p : Pl) : Int := p.y + p.h
def triRow (pls : List Pl) : Option Nat → Option Nat → Int
  | some i, some j => if endOf (gP pls j) < endOf (gP pls i) then endOf (gP pls j) else endOf (gP pls i)
  | some i, none => endOf (gP pls i)
  | none, some j => endOf (gP pls j)
  | none, none => 0
def nmOf (pls : List Pl) : Option Nat → Str
  | none => ""
  | some i => (gP pls i).nm
abbrev Tri := Int × Str × Str
def triV (t : Tri) : List V := [.int t.1, .str t.2.1, .str t.2.2]
def papF (W : Int) (fls : List Fl) (pls : List Pl) (w h : Int) : Nat → Int → List Tri × Int
  | 0, row => ([], row)
  | n + 1, row => if edR W fls pls row h - edL fls pls row h < w then
      ((triRow pls (nrL fls pls row h) (nrR fls pls row h), nmOf pls (nrL fls pls row h), nmOf pls (nrR fls pls row h)) :: (papF W fls pls w h n (triRow pls (nrL fls pls row h) (nrR fls pls row h))).1,
        (papF W fls pls w h n (triRow pls (nrL fls pls row h) (nrR fls pls row h))).2) else ([], row)
def cntF (row : Int) : List Pl → Nat
  | [] => 0
  | p :: r => (if row < endOf p then 1 else 0) + cntF row r
theorem cntF_le (row : Int) : ∀ pls : List Pl, cntF row pls ≤ pls.length
  | [] => Nat.le_refl _
  | p :: r => by
    have := cntF_le row r
    unfold cntF
    rw [List.length_cons]
    split <;> omega
theorem cntF_mono {row row' : Int} (h : row ≤ row') : ∀ pls : List Pl, cntF row' pls ≤ cntF row pls
  | [] => Nat.le_refl _
  | p :: r => by
    have := cntF_mono h r
    unfold cntF
    split <;> split <;> omega
theorem cntF_lt {row row' : Int} (h : row ≤ row') : ∀ {pls : List Pl} {p : Pl}, p ∈ pls → row < endOf p → endOf p ≤ row' → cntF row' pls < cntF row pls
  | [], _, hp, _, _ => by simp at hp
  | q :: r, p, hp, h1, h2 => by
    have m := cntF_mono h r
    unfold cntF
    rcases List.mem_cons.mp hp with e | e
    · subst e
      rw [if_neg (by omega), if_pos h1]
      omega
    · have := cntF_lt h e h1 h2
      split <;> split <;> omega
theorem gP_mem {pls : List Pl} {i : Nat} (h : i < pls.length) : gP pls i ∈ pls := by
  rw [gP_of (List.getElem?_eq_getElem h)]
  exact List.getElem_mem h
theorem noFit {W : Int} {fls : List Fl} {pls : List Pl} {w h row : Int} (hw : w ≤ W) (hf : edR W fls pls row h - edL fls pls row h < w) :
    (nrL fls pls row h ≠ none ∨ nrR fls pls row h ≠ none) ∧ row < triRow pls (nrL fls pls row h) (nrR fls pls row h) ∧ cntF (triRow pls (nrL fls pls row h) (nrR fls pls row h)) pls < cntF row pls := by
  have tl : ∀ i, nrL fls pls row h = some i → row < endOf (gP pls i) ∧ gP pls i ∈ pls := fun i e => by
    have m := mem_tIdx.mp (bestR_some e).1
    exact ⟨(touB_iff.mp m.2.2.2).2.2.1, gP_mem m.2.1⟩
  have tr : ∀ i, nrR fls pls row h = some i → row < endOf (gP pls i) ∧ gP pls i ∈ pls := fun i e => by
    have m := mem_tIdx.mp (bestL_some e).1
    exact ⟨(touB_iff.mp m.2.2.2).2.2.1, gP_mem m.2.1⟩
  unfold edL edR at hf
  cases e1 : nrL fls pls row h with
  | none =>
    cases e2 : nrR fls pls row h with
    | none =>
      rw [e1, e2] at hf
      dsimp only at hf
      omega
    | some j =>
      have q := tr j e2
      exact ⟨.inr (by simp), q.1, cntF_lt (Int.le_of_lt q.1) q.2 q.1 (Int.le_refl _)⟩
  | some i =>
    have p := tl i e1
    cases e2 : nrR fls pls row h with
    | none => exact ⟨.inl (by simp), p.1, cntF_lt (Int.le_of_lt p.1) p.2 p.1 (Int.le_refl _)⟩
    | some j =>
      have q := tr j e2
      show (_ ∨ _) ∧ row < (if endOf (gP pls j) < endOf (gP pls i) then endOf (gP pls j) else endOf (gP pls i)) ∧ cntF (if endOf (gP pls j) < endOf (gP pls i) then endOf (gP pls j) else endOf (gP pls i)) pls < cntF row pls
      split
      · exact ⟨.inl (by simp), q.1, cntF_lt (Int.le_of_lt q.1) q.2 q.1 (Int.le_refl _)⟩
      · exact ⟨.inl (by simp), p.1, cntF_lt (Int.le_of_lt p.1) p.2 p.1 (Int.le_refl _)⟩
def standF (W : Int) (fls : List Fl) (pls : List Pl) (row : Int) : Pl × List Tri :=
  (⟨(gF fls pls.length).nm, if (gF fls pls.length).lf = true then edL fls pls (papF W fls pls (gF fls pls.length).w (gF fls pls.length).h (cntF row pls) row).2 (gF fls pls.length).h
      else edR W fls pls (papF W fls pls (gF fls pls.length).w (gF fls pls.length).h (cntF row pls) row).2 (gF fls pls.length).h - (gF fls pls.length).w,
    (papF W fls pls (gF fls pls.length).w (gF fls pls.length).h (cntF row pls) row).2, (gF fls pls.length).w, (gF fls pls.length).h⟩,
    (papF W fls pls (gF fls pls.length).w (gF fls pls.length).h (cntF row pls) row).1)
def lastRow (pls : List Pl) : Int := match pls.getLast? with
  | none => 0
  | some p => p.y
def allF (W : Int) (fls : List Fl) : Nat → List Pl × List (List Tri)
  | 0 => ([], [])
  | n + 1 => ((allF W fls n).1 ++ [(standF W fls (allF W fls n).1 (lastRow (allF W fls n).1)).1], (allF W fls n).2 ++ [(standF W fls (allF W fls n).1 (lastRow (allF W fls n).1)).2])
theorem allF_len (W : Int) (fls : List Fl) : ∀ n, (allF W fls n).1.length = n ∧ (allF W fls n).2.length = n
  | 0 => ⟨rfl, rfl⟩
  | n + 1 => by
    have := allF_len W fls n
    unfold allF
    rw [List.length_append, List.length_append, this.1, this.2]
    exact ⟨rfl, rfl⟩
theorem lastRow_snoc (pls : List Pl) (p : Pl) : lastRow (pls ++ [p]) = p.y := by
  unfold lastRow
  rw [List.getLast?_append]
  rfl
def PapsAt (H : Hp) (qa : List Addr) (pps : List (List Tri)) : Prop := qa.length = pps.length ∧ ∀ (i : Nat) (q : Addr) (ts : List Tri), qa[i]? = some q → pps[i]? = some ts → ∃ ta : List Addr, H q = some (.lst (ta.map V.ref)) ∧ RowsOf H ta (ts.map triV)
theorem PapsAt.same {H H2 : Hp} {qa : List Addr} {pps : List (List Tri)} (h : PapsAt H qa pps) (s : Same H H2) : PapsAt H2 qa pps := ⟨h.1, fun i q ts e1 e2 => by
  obtain ⟨ta, h1, h2⟩ := h.2 i q ts e1 e2
  exact ⟨ta, s _ _ h1, h2.same s⟩⟩
theorem RowsOf.updL {H : Hp} {as : List Addr} {rows : List (List V)} {l : Addr} {xs : List V} {o : HO} (h : RowsOf H as rows) (hl : H l = some (.lst xs)) : RowsOf (upd H l o) as rows := ⟨h.1, fun i p r e1 e2 => by
  have hp := h.2 i p r e1 e2
  rw [upd_ne (ne_of hp hl (by intro z; cases z))]
  exact hp⟩
theorem PapsAt.updL {H : Hp} {qa : List Addr} {pps : List (List Tri)} {l : Addr} {xs : List V} {o : HO} (h : PapsAt H qa pps) (hl : H l = some (.lst xs)) (hn : ∀ q ∈ qa, q ≠ l) : PapsAt (upd H l o) qa pps := ⟨h.1, fun i q ts e1 e2 => by
  obtain ⟨ta, h1, h2⟩ := h.2 i q ts e1 e2
  exact ⟨ta, by rw [upd_ne (hn q (List.mem_of_getElem? e1))]; exact h1, h2.updL hl⟩⟩
theorem PapsAt.snoc {H : Hp} {qa : List Addr} {pps : List (List Tri)} {q : Addr} {ts : List Tri} {ta : List Addr} (h : PapsAt H qa pps) (hq : H q = some (.lst (ta.map V.ref))) (ht : RowsOf H ta (ts.map triV)) : PapsAt H (qa ++ [q]) (pps ++ [ts]) := by
  refine ⟨by rw [List.length_append, List.length_append, h.1]; rfl, fun i p x e1 e2 => ?_⟩
  by_cases hi : i < qa.length
  · rw [List.getElem?_append_left hi] at e1
    rw [List.getElem?_append_left (by rw [← h.1]; exact hi)] at e2
    exact h.2 i p x e1 e2
  · rw [List.getElem?_append_right (by omega)] at e1
    rw [List.getElem?_append_right (by rw [← h.1]; omega), ← h.1] at e2
    cases e : i - qa.length with
    | zero =>
      rw [e] at e1 e2
      cases e1
      cases e2
      exact ⟨ta, hq, ht⟩
    | succ d => rw [e] at e1; simp at e1
end S2
namespace S2
open PySem L2
structure InW (W row : Int) (p : Pl) : Prop where
  x0 : 0 ≤ p.x
  xw : p.x + p.w ≤ W
  w0 : 0 < p.w
  h0 : 0 < p.h
  y : p.y ≤ row
theorem edL_ge {fls : List Fl} {pls : List Pl} {row h : Int} {i : Nat} (m : i ∈ tIdx fls pls true row h) : (gP pls i).x + (gP pls i).w ≤ edL fls pls row h := by
  unfold edL
  cases e : nrL fls pls row h with
  | none =>
    have := bestR_none e
    rw [this] at m
    cases m
  | some j => exact (bestR_some e).2 i m
theorem edR_le {W : Int} {fls : List Fl} {pls : List Pl} {row h : Int} {i : Nat} (m : i ∈ tIdx fls pls false row h) : edR W fls pls row h ≤ (gP pls i).x := by
  unfold edR
  cases e : nrR fls pls row h with
  | none =>
    have := bestL_none e
    rw [this] at m
    cases m
  | some j => exact (bestL_some e).2 i m
theorem edL_is (fls : List Fl) (pls : List Pl) (row h : Int) : edL fls pls row h = 0 ∨ ∃ i ∈ tIdx fls pls true row h, edL fls pls row h = (gP pls i).x + (gP pls i).w := by
  unfold edL
  cases e : nrL fls pls row h with
  | none => exact .inl rfl
  | some j => exact .inr ⟨j, (bestR_some e).1, rfl⟩
theorem edR_is (W : Int) (fls : List Fl) (pls : List Pl) (row h : Int) : edR W fls pls row h = W ∨ ∃ i ∈ tIdx fls pls false row h, edR W fls pls row h = (gP pls i).x := by
  unfold edR
  cases e : nrR fls pls row h with
  | none => exact .inl rfl
  | some j => exact .inr ⟨j, (bestL_some e).1, rfl⟩
theorem edL_0 {W row0 : Int} {fls : List Fl} {pls : List Pl} (hp : ∀ p ∈ pls, InW W row0 p) (row h : Int) : 0 ≤ edL fls pls row h := by
  rcases edL_is fls pls row h with e | ⟨i, m, e⟩
  · omega
  · have q := hp _ (gP_mem (mem_tIdx.mp m).2.1)
    have := q.x0
    have := q.w0
    omega
theorem edR_W {W row0 : Int} {fls : List Fl} {pls : List Pl} (hp : ∀ p ∈ pls, InW W row0 p) (row h : Int) : edR W fls pls row h ≤ W := by
  rcases edR_is W fls pls row h with e | ⟨i, m, e⟩
  · omega
  · have q := hp _ (gP_mem (mem_tIdx.mp m).2.1)
    have := q.xw
    have := q.w0
    omega
theorem tou_on {W row r h : Int} {p : Pl} (q : InW W row p) (hr : row ≤ r) (hh : 0 < h) (he : r < endOf p) : touB p r h = true := by
  have := q.y
  have := q.h0
  unfold endOf at he
  exact touB_iff.mpr ⟨by omega, by omega, he, by omega⟩
theorem tight {W : Int} {fls : List Fl} {pls : List Pl} {w h row r : Int} (hp : ∀ p ∈ pls, InW W row p) (hw : w ≤ W) (hh : 0 < h) (hf : edR W fls pls row h - edL fls pls row h < w) (h1 : row ≤ r) (h2 : r < triRow pls (nrL fls pls row h) (nrR fls pls row h)) :
    edR W fls pls r h - edL fls pls r h < w := by
  have L : edL fls pls row h ≤ edL fls pls r h := by
    have z0 := edL_0 (fls := fls) hp r h
    cases e : nrL fls pls row h with
    | none =>
      have : edL fls pls row h = 0 := by unfold edL; rw [e]
      omega
    | some i =>
      have m := mem_tIdx.mp (bestR_some e).1
      have ee : edL fls pls row h = (gP pls i).x + (gP pls i).w := by unfold edL; rw [e]
      have he : r < endOf (gP pls i) := by
        rw [e] at h2
        cases e2 : nrR fls pls row h with
        | none => rw [e2] at h2; exact h2
        | some j =>
          rw [e2] at h2
          have h3 : r < (if endOf (gP pls j) < endOf (gP pls i) then endOf (gP pls j) else endOf (gP pls i)) := h2
          split at h3 <;> omega
      have := edL_ge (mem_tIdx.mpr ⟨m.1, m.2.1, m.2.2.1, tou_on (hp _ (gP_mem m.2.1)) h1 hh he⟩)
      omega
  have R : edR W fls pls r h ≤ edR W fls pls row h := by
    have z0 := edR_W (fls := fls) hp r h
    cases e : nrR fls pls row h with
    | none =>
      have : edR W fls pls row h = W := by unfold edR; rw [e]
      omega
    | some i =>
      have m := mem_tIdx.mp (bestL_some e).1
      have ee : edR W fls pls row h = (gP pls i).x := by unfold edR; rw [e]
      have he : r < endOf (gP pls i) := by
        rw [e] at h2
        cases e2 : nrL fls pls row h with
        | none => rw [e2] at h2; exact h2
        | some j =>
          rw [e2] at h2
          have h3 : r < (if endOf (gP pls i) < endOf (gP pls j) then endOf (gP pls i) else endOf (gP pls j)) := h2
          split at h3 <;> omega
      have := edR_le (W := W) (mem_tIdx.mpr ⟨m.1, m.2.1, m.2.2.1, tou_on (hp _ (gP_mem m.2.1)) h1 hh he⟩)
      omega
  omega
theorem InW.mono {W row row' : Int} {p : Pl} (q : InW W row p) (h : row ≤ row') : InW W row' p := ⟨q.x0, q.xw, q.w0, q.h0, Int.le_trans q.y h⟩
theorem first_fit {W : Int} {fls : List Fl} {pls : List Pl} {w h : Int} (hw : w ≤ W) (hh : 0 < h) : ∀ (n : Nat) (row : Int), (∀ p ∈ pls, InW W row p) → cntF row pls ≤ n →
    row ≤ (papF W fls pls w h n row).2 ∧ w ≤ edR W fls pls (papF W fls pls w h n row).2 h - edL fls pls (papF W fls pls w h n row).2 h ∧ ∀ r, row ≤ r → r < (papF W fls pls w h n row).2 → edR W fls pls r h - edL fls pls r h < w := by
  intro n
  induction n with
  | zero =>
    intro row hp hc
    refine ⟨Int.le_refl _, ?_, fun r h1 h2 => absurd h1 (by have : r < row := h2; omega)⟩
    show w ≤ edR W fls pls row h - edL fls pls row h
    by_cases hf : edR W fls pls row h - edL fls pls row h < w
    · have := (noFit hw hf).2.2
      omega
    · omega
  | succ n ih =>
    intro row hp hc
    by_cases hf : edR W fls pls row h - edL fls pls row h < w
    · obtain ⟨_, n2, n3⟩ := noFit hw hf
      have q := ih (triRow pls (nrL fls pls row h) (nrR fls pls row h)) (fun p hm => (hp p hm).mono (by omega)) (by omega)
      have e : (papF W fls pls w h (n + 1) row).2 = (papF W fls pls w h n (triRow pls (nrL fls pls row h) (nrR fls pls row h))).2 := by rw [papF, if_pos hf]
      rw [e]
      refine ⟨by omega, q.2.1, fun r h1 h2 => ?_⟩
      by_cases hr : r < triRow pls (nrL fls pls row h) (nrR fls pls row h)
      · exact tight hp hw hh hf h1 hr
      · exact q.2.2 r (by omega) h2
    · have e : (papF W fls pls w h (n + 1) row).2 = row := by rw [papF, if_neg hf]
      rw [e]
      exact ⟨Int.le_refl _, by omega, fun r h1 h2 => by omega⟩
def FlsOk (W : Int) (fls : List Fl) : Prop := ∀ f ∈ fls, 0 < f.w ∧ f.w ≤ W ∧ 0 < f.h
theorem gF_mem' {fls : List Fl} {i : Nat} (h : i < fls.length) : gF fls i ∈ fls := by
  rw [gF_of (List.getElem?_eq_getElem h)]
  exact List.getElem_mem h
structure StandOk (W : Int) (fls : List Fl) (pls : List Pl) (row : Int) (st : Pl) : Prop where
  nm : st.nm = (gF fls pls.length).nm
  w : st.w = (gF fls pls.length).w
  h : st.h = (gF fls pls.length).h
  ge : row ≤ st.y
  x : st.x = if (gF fls pls.length).lf = true then edL fls pls st.y (gF fls pls.length).h else edR W fls pls st.y (gF fls pls.length).h - (gF fls pls.length).w
  fit : (gF fls pls.length).w ≤ edR W fls pls st.y (gF fls pls.length).h - edL fls pls st.y (gF fls pls.length).h
  first : ∀ r, row ≤ r → r < st.y → edR W fls pls r (gF fls pls.length).h - edL fls pls r (gF fls pls.length).h < (gF fls pls.length).w
theorem standF_ok {W : Int} {fls : List Fl} {pls : List Pl} {row : Int} (hF : FlsOk W fls) (hl : pls.length < fls.length) (hp : ∀ p ∈ pls, InW W row p) : StandOk W fls pls row (standF W fls pls row).1 := by
  obtain ⟨f1, f2, f3⟩ := hF _ (gF_mem' hl)
  obtain ⟨q1, q2, q3⟩ := first_fit (fls := fls) (pls := pls) f2 f3 (cntF row pls) row hp (Nat.le_refl _)
  exact ⟨rfl, rfl, rfl, q1, rfl, q2, q3⟩
theorem allF_ok {W : Int} {fls : List Fl} (hF : FlsOk W fls) : ∀ n, n ≤ fls.length → 0 ≤ lastRow (allF W fls n).1 ∧ ∀ p ∈ (allF W fls n).1, InW W (lastRow (allF W fls n).1) p
  | 0, _ => ⟨Int.le_refl _, fun p hp => by cases hp⟩
  | n + 1, hn => by
    obtain ⟨q0, q1⟩ := allF_ok hF n (by omega)
    have ln := (allF_len W fls n).1
    have st := standF_ok (row := lastRow (allF W fls n).1) hF (by rw [ln]; omega) q1
    have e : (allF W fls (n + 1)).1 = (allF W fls n).1 ++ [(standF W fls (allF W fls n).1 (lastRow (allF W fls n).1)).1] := rfl
    rw [e, lastRow_snoc]
    generalize (standF W fls (allF W fls n).1 (lastRow (allF W fls n).1)).1 = s at *
    obtain ⟨f1, f2, f3⟩ := hF _ (gF_mem' (fls := fls) (i := (allF W fls n).1.length) (by rw [ln]; omega))
    have z0 := edL_0 (fls := fls) q1 s.y (gF fls (allF W fls n).1.length).h
    have z1 := edR_W (fls := fls) q1 s.y (gF fls (allF W fls n).1.length).h
    have hfit := st.fit
    have hx := st.x
    have hw := st.w
    have hh := st.h
    have hge := st.ge
    refine ⟨by omega, fun p hp => ?_⟩
    rcases List.mem_append.mp hp with z | z
    · exact (q1 p z).mono hge
    · rw [List.mem_singleton.mp z]
      refine ⟨?_, ?_, by omega, by omega, Int.le_refl _⟩
      · rw [hx]; split <;> omega
      · rw [hx, hw]; split <;> omega
end S2
namespace S2
open PySem L2
def lawTou (row high : Int) (p : Pl) : Bool := decide (p.y < row + high) && decide (row < p.y + p.h)
theorem gP_snoc_lt {pls : List Pl} {s : Pl} {i : Nat} (h : i < pls.length) : gP (pls ++ [s]) i = gP pls i := by
  rw [gP_of (List.getElem?_eq_getElem h), gP_of (p := pls[i]) (by rw [List.getElem?_append_left h, List.getElem?_eq_getElem h])]
theorem gP_snoc_eq {pls : List Pl} {s : Pl} : gP (pls ++ [s]) pls.length = s := gP_of (by rw [List.getElem?_append_right (Nat.le_refl _), Nat.sub_self]; rfl)
theorem lawTou_eq {W row0 row high : Int} {p : Pl} (q : InW W row0 p) (hh : 0 < high) : lawTou row high p = touB p row high := by
  have := q.h0
  rw [Bool.eq_iff_iff, touB_iff]
  unfold lawTou
  rw [Bool.and_eq_true, decide_eq_true_iff, decide_eq_true_iff]
  constructor
  · intro ⟨a, b⟩; exact ⟨by omega, a, b, by omega⟩
  · intro ⟨a, b, c, d⟩; exact ⟨b, c⟩
end S2
namespace S2
open PySem L2
theorem allF_get {W : Int} {fls : List Fl} : ∀ {n k : Nat}, k < n → gP (allF W fls n).1 k = (standF W fls (allF W fls k).1 (lastRow (allF W fls k).1)).1 ∧ (allF W fls n).1.take k = (allF W fls k).1
  | n + 1, k, h => by
    have ln := (allF_len W fls n).1
    have e : (allF W fls (n + 1)).1 = (allF W fls n).1 ++ [(standF W fls (allF W fls n).1 (lastRow (allF W fls n).1)).1] := rfl
    rw [e]
    by_cases hk : k = n
    · subst hk
      refine ⟨?_, ?_⟩
      · have q := gP_snoc_eq (pls := (allF W fls k).1) (s := (standF W fls (allF W fls k).1 (lastRow (allF W fls k).1)).1)
        rw [ln] at q
        exact q
      · rw [List.take_append_of_le_length (by omega), List.take_of_length_le (by omega)]
    · have q := allF_get (W := W) (fls := fls) (n := n) (k := k) (by omega)
      exact ⟨by rw [gP_snoc_lt (by omega)]; exact q.1, by rw [List.take_append_of_le_length (by omega)]; exact q.2⟩
theorem gP_take {pls : List Pl} {k j : Nat} (h : j < k) (hk : k ≤ pls.length) : gP (pls.take k) j = gP pls j := by
  rw [gP_of (p := pls[j]) (by rw [List.getElem?_take_of_lt h, List.getElem?_eq_getElem (by omega)]), gP_of (List.getElem?_eq_getElem (by omega))]
end S2
namespace L2
open PySem PySem.Spec PyProof.Rows
def trues (n : Nat) : List V := (List.replicate n true).map V.bl
theorem trues_succ (n : Nat) : trues (n + 1) = trues n ++ [V.bl true] := by
  unfold trues
  rw [List.replicate_succ', List.map_append]
  rfl
theorem trues_len (n : Nat) : (trues n).length = n := by unfold trues; rw [List.length_map, List.length_replicate]
theorem trues_all (n : Nat) : (List.replicate n true).all id = true := by
  rw [List.all_eq_true]
  intro b hb
  rw [(List.mem_replicate.mp hb).2]
  rfl
theorem Same.put' {H H2 : Hp} {l : Addr} {o : HO} (s : Same H H2) (hn : H l = none) : Same H (upd H2 l o) := fun b u e => by
  rw [upd_ne (ne_of_none e hn)]
  exact s b u e
theorem comp_allL {K : PySem.W.Frag} {a : Addr} {xs : List V} {te : TE} {σ : St} {H : Hp} {Q : VK} (hq : SqL K H a xs) (hn : xs.length < sizeLine)
    (he : ∀ (i : Nat) (x : V) (H' : Hp) (Q' : VK), xs[i]? = some x → Same H H' → (∀ H3, Same H' H3 → Q' (.bl true) H3) → te (some x :: σ) H' Q') (hd : ∀ D H', H D = none → Same H H' → H' D = some (.lst (trues xs.length)) → Q (.ref D) H') : CompGo (Itl K a) H σ ttAll te Q := by
  refine comp_listG (xs := xs) (fun D i l H' => Same H H' ∧ H D = none ∧ H' D = some (.lst l) ∧ l = trues i) hn (fun D hD => ⟨Same.put' (Same.refl H) hD, hD, upd_same, rfl⟩) (fun D i l H' h => h.1.seq hq) (fun D i l H' h => by rw [h.2.2.2, trues_len]; exact Nat.le_refl _) ?_ fun D l H' h => hd D H' h.2.1 h.1 (by rw [h.2.2.1, h.2.2.2])
  rintro D i x l H' Q' hx ⟨s1, hD, hl, rfl⟩ k
  refine he i x H' Q' hx s1 fun H3 s3 => ?_
  exact k _ _ (s3 _ _ hl) ⟨Same.put' (Same.trans s1 s3) hD, hD, upd_same, (trues_succ i).symm⟩
theorem comp_allT {K : PySem.W.Frag} {a : Addr} {xs : List V} {te : TE} {σ : St} {H : Hp} {Q : VK} (hq : H a = some (.tup xs)) (hn : xs.length < sizeLine)
    (he : ∀ (i : Nat) (x : V) (H' : Hp) (Q' : VK), xs[i]? = some x → Same H H' → (∀ H3, Same H' H3 → Q' (.bl true) H3) → te (some x :: σ) H' Q') (hd : ∀ D H', H D = none → Same H H' → H' D = some (.lst (trues xs.length)) → Q (.ref D) H') : CompGo (Itt K a) H σ ttAll te Q := by
  intro D hD
  refine ⟨fun i m H' => m = xs.length - i ∧ i ≤ xs.length ∧ Same H H' ∧ H' D = some (.lst (trues i)), ⟨xs.length, by omega, Nat.zero_le _, Same.put' (Same.refl H) hD, upd_same⟩, ?_⟩
  rintro i m H' ⟨rfl, hi, s1, hl⟩
  have q : SqT K H' a xs := SqT.of (s1 _ _ hq)
  by_cases hlt : i < xs.length
  · refine .inr ⟨⟨xs, xs[i], q, by simp [hlt]⟩, fun x H2 y => ?_⟩
    obtain ⟨e, y⟩ := y
    subst e
    unfold ttAll
    refine iteT (he i x H2 _ (y xs q) s1 fun H3 s3 => ?_)
    exact ⟨trues i, s3 _ _ hl, by rw [trues_len]; omega, xs.length - (i + 1), by omega, rfl, hlt, Same.put' (Same.trans s1 s3) hD, by rw [upd_same, trues_succ]⟩
  · have e : i = xs.length := by omega
    subst e
    exact .inl ⟨⟨xs, q, Nat.le_refl _⟩, hd D H' hD s1 hl⟩
theorem comp_listF {K : PySem.W.Frag} {a : Addr} {xs : List V} {tt : TT} {te : TE} {σ : St} {H : Hp} {Q : VK} (Pv : Addr → Nat → List V → Hp → Prop) (hn : xs.length < sizeLine) (h0 : ∀ D, H D = none → Pv D 0 [] (upd H D (.lst [])))
    (hs : ∀ D i l H', Pv D i l H' → SqL K H' a xs) (hl : ∀ D i l H', Pv D i l H' → l.length ≤ i)
    (he : ∀ (D : Addr) (i : Nat) (x : V) (l : List V) (H' : Hp) (Q1 : Bool → Hp → Prop), xs[i]? = some x → Pv D i l H' → (∀ b H2, (b = false → Pv D (i + 1) l H2) → (b = true → ∀ Q' : VK, (∀ y H3, H3 D = some (.lst l) → Pv D (i + 1) (l ++ [y]) (upd H3 D (.lst (l ++ [y]))) → Q' y H3) → te (some x :: σ) H2 Q') → Q1 b H2) → tt (some x :: σ) H' Q1)
    (hd : ∀ D l H', H D = none → Pv D xs.length l H' → Q (.ref D) H') : CompGo (Itl K a) H σ tt te Q := by
  intro D hD
  refine ⟨fun i m H' => m = xs.length - i ∧ i ≤ xs.length ∧ ∃ l, Pv D i l H', ⟨xs.length, by omega, Nat.zero_le _, [], h0 D hD⟩, ?_⟩
  rintro i m H' ⟨rfl, hi, l, hp⟩
  have q := hs D i l H' hp
  by_cases hlt : i < xs.length
  · refine .inr ⟨⟨xs, xs[i], q, by simp [hlt]⟩, fun x H2 y => ?_⟩
    obtain ⟨e, y⟩ := y
    subst e
    refine he D i x l H2 _ (y xs q) hp fun b H3 hf ht => ?_
    cases b with
    | false =>
      refine iteF ?_
      exact ⟨xs.length - (i + 1), by omega, rfl, hlt, l, hf rfl⟩
    | true =>
      refine iteT (ht rfl _ fun v H4 z1 z2 => ?_)
      have hl2 := hl D i l H2 hp
      exact ⟨l, z1, Nat.lt_of_le_of_lt hl2 (by omega), xs.length - (i + 1), by omega, rfl, hlt, l ++ [v], z2⟩
  · have e : i = xs.length := by omega
    subst e
    exact .inl ⟨⟨xs, q, Nat.le_refl _⟩, hd D l H' hD hp⟩
end L2
namespace L2
open PySem PySem.Spec PyProof.Rows
section
variable {X : Cx}
def rIsB (neg : Bool) : R2 := fun x y H Q => ∃ a b : Bool, x = .bl a ∧ y = .bl b ∧ Q (.bl (if neg then !(a == b) else a == b)) H
theorem op_isB : OpR X (compareOp .Is) (rIsB false) := by
  intro pins s σ H x y v u Q I rx ry h
  obtain ⟨a, b, rfl, rfl, q⟩ := h
  cases rx
  cases ry
  refine wpAny_is_plain rfl (fin_bl I q ?_)
  cases a <;> cases b <;> rfl
theorem op_isnB : OpR X (compareOp .IsNot) (rIsB true) := by
  intro pins s σ H x y v u Q I rx ry h
  obtain ⟨a, b, rfl, rfl, q⟩ := h
  cases rx
  cases ry
  refine wpAny_isNot_plain rfl (fin_bl I q ?_)
  cases a <;> cases b <;> rfl
end
end L2
namespace B68
open PySem L2 S2
def top (i : Nat) : Stmt := PySem.Challenge.pw_boxgalley_k68_papers_of_floats.main.body.getD i (.Pass ⟨0, 0, 0, 0⟩)
abbrev sTou : Stmt := top 4
abbrev sTouching : Stmt := top 5
abbrev sLEnd : Stmt := top 6
abbrev sREnd : Stmt := top 7
abbrev sNear : Stmt := top 8
abbrev sEdges : Stmt := top 9
abbrev sAcross : Stmt := top 10
abbrev sTriple : Stmt := top 11
abbrev sStand : Stmt := top 12
abbrev sStandAll : Stmt := top 13
abbrev sWhole : Stmt := top 15
abbrev sTupOf : Stmt := top 16
abbrev sLstOf : Stmt := top 17
abbrev sPlaced : Stmt := top 19
abbrev sIsTri : Stmt := top 20
abbrev sPaper : Stmt := top 21
abbrev sWay : Stmt := top 22
abbrev sCant : Stmt := top 23
abbrev sStands : Stmt := top 24
abbrev sStood : Stmt := top 25
abbrev sCell : Stmt := top 27
abbrev sNumbers : Stmt := top 28
abbrev sLNames : Stmt := top 29
abbrev sLFloats : Stmt := top 30
abbrev sLTouch : Stmt := top 31
abbrev sLBarred : Stmt := top 32
abbrev sLWalked : Stmt := top 33
abbrev sLaw : Stmt := top 34
structure Names (mg : Str → Option Value) : Prop where
  len : mg "len" = none
  max : mg "max" = none
  min : mg "min" = none
  zip : mg "zip" = none
  list : mg "list" = none
  tuple : mg "tuple" = none
  int : mg "int" = none
  inst : mg "isinstance" = none
  enum : mg "enumerate" = none
  range : mg "range" = none
  all : mg "all" = none
  str : mg "str" = none
  bool : mg "bool" = none
theorem asg_join {te : TE} {g : TG} {D : Ends} {σ : St} {H : Hp} (v : V) (ht : ∀ Q', (∀ H', Same H H' → Q' v H') → te σ H Q') (h : ∀ H', Same H H' → g v σ H' D.nx) : tAsg te g D σ H := ht _ h
theorem rmaxK_of {K : PySem.W.Frag} {f : Addr} {sp : Sp} {H : Hp} {Q : VK} {l : Addr} {as : List Addr} {kf : Nat → Int} (hS : SqL K H l (as.map V.ref)) (hk : KeyOk sp H as kf)
    (v : V) (hv : v = match as[argBest (fun i j => decide (kf i > kf j)) (as.length - 1)]? with | none => .non | some a => .ref a) (h : ∀ H', Same H H' → Q v H') : rmaxK K f sp [.ref l] [.ref f, .non] H Q := by
  subst hv
  refine ⟨l, as, kf, rfl, rfl, hS, hk, fun e H' s' => ?_, fun a H' e s' => ?_⟩
  · subst e
    exact h H' s'
  · have := h H' s'
    rw [e] at this
    exact this
theorem rminK_of {K : PySem.W.Frag} {f : Addr} {sp : Sp} {H : Hp} {Q : VK} {l : Addr} {as : List Addr} {kf : Nat → Int} (hS : SqL K H l (as.map V.ref)) (hk : KeyOk sp H as kf)
    (v : V) (hv : v = match as[argBest (fun i j => decide (kf i < kf j)) (as.length - 1)]? with | none => .non | some a => .ref a) (h : ∀ H', Same H H' → Q v H') : rminK K f sp [.ref l] [.ref f, .non] H Q := by
  subst hv
  refine ⟨l, as, kf, rfl, rfl, hS, hk, fun e H' s' => ?_, fun a H' e s' => ?_⟩
  · subst e
    exact h H' s'
  · have := h H' s'
    rw [e] at this
    exact this
theorem pg_twoK {X : Cx} {K : PySem.W.Frag} (hK : X.K = K) {x y : Str} {px py pt : Pos} {kk : Nat} (hc : X.calm = true) (hN : X.N.Nodup) (h0 : X.N[0]? = some x) (h1 : X.N[1]? = some y) (hx : X.env.scope.names.lookup x = some .local) (hy : X.env.scope.names.lookup y = some .local)
    (ha : (assignEach [.Name x px, .Name y py] X.env).map (·.2) = [assign (.Name x px) X.env, assign (.Name y py) X.env] := by rfl) (hb : (assignEach [.Name y py] X.env).map (·.2) = [assign (.Name y py) X.env] := by rfl)
    (hn : (assignEach [.Name x px, .Name y py] X.env).length = 2 := by rfl) (hst : (assignEach [.Name x px, .Name y py] X.env).findIdx? (·.1) = none := by rfl) : PG X (.Tuple [.Name x px, .Name y py] kk pt) (gTwo K) := by
  subst hK
  exact pg_tup hc (pgs_cons (pg_name hN h0 (.inl hx) (.inr hx)) (pgs_cons (pg_name hN h1 (.inl hy) (.inr hy)) pgs_nil (by rw [hb]; rfl)) (by rw [ha, hb])) hn hst
def FlAt (H : Hp) (a : Addr) (fa : List Addr) (fls : List Fl) : Prop := H a = some (.lst (fa.map V.ref)) ∧ RowsOf H fa (fls.map flRow) ∧ fls.length ≤ 100
def PlAt (H : Hp) (b : Addr) (pa : List Addr) (pls : List Pl) : Prop := H b = some (.lst (pa.map V.ref)) ∧ RowsOf H pa (pls.map plRow) ∧ pls.length ≤ 100
theorem FlAt.same {H H2 : Hp} {a : Addr} {fa : List Addr} {fls : List Fl} (h : FlAt H a fa fls) (s : Same H H2) : FlAt H2 a fa fls := ⟨s _ _ h.1, h.2.1.same s, h.2.2⟩
theorem PlAt.same {H H2 : Hp} {a : Addr} {fa : List Addr} {fls : List Pl} (h : PlAt H a fa fls) (s : Same H H2) : PlAt H2 a fa fls := ⟨s _ _ h.1, h.2.1.same s, h.2.2⟩
theorem row_map {α : Type} {f : α → List V} {xs : List α} {i : Nat} {r : List V} (h : (xs.map f)[i]? = some r) : ∃ x, xs[i]? = some x ∧ r = f x := by
  rw [List.getElem?_map] at h
  cases e : xs[i]? with
  | none => rw [e] at h; cases h
  | some x => rw [e] at h; exact ⟨x, rfl, (Option.some.inj h).symm⟩
theorem PlAt.get {H : Hp} {b : Addr} {pa : List Addr} {pls : List Pl} (h : PlAt H b pa pls) {i : Nat} (hi : i < pls.length) : pa[i]? = some (pa.getD i 0) ∧ H (pa.getD i 0) = some (.tup (plRow (gP pls i))) := by
  have hl : pa.length = pls.length := by rw [h.2.1.1, List.length_map]
  have e1 : pa[i]? = some (pa.getD i 0) := by
    rw [List.getD_eq_getElem?_getD, List.getElem?_eq_getElem (by omega)]
    rfl
  refine ⟨e1, h.2.1.2 i _ _ e1 ?_⟩
  rw [List.getElem?_map, List.getElem?_eq_getElem hi]
  rw [gP_of (List.getElem?_eq_getElem hi)]
  rfl
def spTou : Sp := fun vs H Q _ => ∃ (a : Addr) (p : Pl) (row high : Int), vs = [.ref a, .int row, .int high] ∧ H a = some (.tup (plRow p)) ∧ Q (.bl (touB p row high)) H
def spTouching : Sp := fun vs H Q _ => ∃ (a b : Addr) (fa pa : List Addr) (fls : List Fl) (pls : List Pl) (sd : Bool) (row high : Int), vs = [.ref a, .ref b, .str (sideOf sd), .int row, .int high] ∧ FlAt H a fa fls ∧ PlAt H b pa pls ∧
  ∀ D H', H D = none → Same H H' → H' D = some (.lst ((tIdx fls pls sd row high).map fun i => V.ref (pa.getD i 0))) → Q (.ref D) H'
def spLEnd : Sp := fun vs H Q _ => ∃ (a : Addr) (p : Pl), vs = [.ref a] ∧ H a = some (.tup (plRow p)) ∧ Q (.int p.x) H
def spREnd : Sp := fun vs H Q _ => ∃ (a : Addr) (p : Pl), vs = [.ref a] ∧ H a = some (.tup (plRow p)) ∧ Q (.int (p.x + p.w)) H
def spNear : Sp := fun vs H Q _ => ∃ (a b : Addr) (fa pa : List Addr) (fls : List Fl) (pls : List Pl) (row high : Int), vs = [.ref a, .ref b, .int row, .int high] ∧ FlAt H a fa fls ∧ PlAt H b pa pls ∧
  ∀ t H', H t = none → Same H H' → H' t = some (.tup [optV pa (nrL fls pls row high), optV pa (nrR fls pls row high)]) → Q (.ref t) H'
def spEdges : Sp := fun vs H Q _ => ∃ (a b : Addr) (fa pa : List Addr) (fls : List Fl) (pls : List Pl) (W row high : Int), vs = [.int W, .ref a, .ref b, .int row, .int high] ∧ FlAt H a fa fls ∧ PlAt H b pa pls ∧
  ∀ t H', H t = none → Same H H' → H' t = some (.tup [.int (edL fls pls row high), .int (edR W fls pls row high)]) → Q (.ref t) H'
section
variable {P : Program} {w : World} {K : PySem.W.Frag} {mg : Str → Option Value} {base : Heap}
theorem scTou : FnScope ["placed", "row", "high"] ["placed", "row", "high"] (defScope sTou) := ⟨rfl, rfl, rfl, by decide +kernel, rfl, by decide +kernel, by decide +kernel⟩
theorem ok_tou {f : Addr} {fd : FuncData} (F : Fun K "touches" "touches" sTou f fd) (N : Names mg) : FnOk P w K mg base CX0 1 f fd ["placed", "row", "high"] spTou := by
  refine F.ok scTou (fun vs H Q E h => ?_) (fun cdv A outer s H vs Q E hr h => ?_)
  · obtain ⟨a, p, row, high, e, _⟩ := h
    rw [e]
    rfl
  · obtain ⟨a, p, row, high, e, ha, k⟩ := h
    subst e
    refine ⟨_, pss_one (ps_ret (pe_cmpR op_lt (pe_callB (call_max2 rfl) (by rfl) N.max PyProof.Rows.boot_max (pa_cons (pe_ix ix_tup (pv 0) pe_int (fun _ _ => rfl)) (pa_cons (pv 1) pa_nil)))
      (pe_callB (call_min2 rfl) (by rfl) N.min PyProof.Rows.boot_min (pa_cons (pe_op op_add (pe_ix ix_tup (pv 0) pe_int (fun _ _ => rfl)) (pe_ix ix_tup (pv 0) pe_int (fun _ _ => rfl))) (pa_cons (pe_op op_add (pv 1) (pv 2)) pa_nil))) (nomark _))), ?_⟩
    refine ⟨_, rfl, a, _, _, _, rfl, rfl, SqT.of ha, atI_nat (j := 2) rfl, _, rfl, _, _, rfl, ?_⟩
    refine ⟨_, rfl, a, _, _, _, rfl, rfl, SqT.of ha, atI_nat (j := 2) rfl, _, rfl, a, _, _, _, rfl, rfl, SqT.of ha, atI_nat (j := 4) rfl, _, _, rfl, rfl, _, rfl, _, rfl, _, _, rfl, rfl, _, _, rfl, _, _, rfl, rfl, ?_⟩
    exact k
theorem scLEnd : FnScope ["placed"] ["placed"] (defScope sLEnd) := ⟨rfl, rfl, rfl, by decide +kernel, rfl, by decide +kernel, by decide +kernel⟩
theorem ok_lend {f : Addr} {fd : FuncData} (F : Fun K "left_end" "left_end" sLEnd f fd) : FnOk P w K mg base CX0 1 f fd ["placed"] spLEnd := by
  refine F.ok scLEnd (fun vs H Q E h => ?_) (fun cdv A outer s H vs Q E hr h => ?_)
  · obtain ⟨a, p, e, _⟩ := h
    rw [e]
    rfl
  · obtain ⟨a, p, e, ha, k⟩ := h
    subst e
    refine ⟨_, pss_one (ps_ret (pe_ix ix_tup (pv 0) pe_int (fun _ _ => rfl))), ?_⟩
    exact ⟨_, rfl, a, _, _, _, rfl, rfl, SqT.of ha, atI_nat (j := 1) rfl, k⟩
theorem scREnd : FnScope ["placed"] ["placed"] (defScope sREnd) := ⟨rfl, rfl, rfl, by decide +kernel, rfl, by decide +kernel, by decide +kernel⟩
theorem ok_rend {f : Addr} {fd : FuncData} (F : Fun K "right_end" "right_end" sREnd f fd) : FnOk P w K mg base CX0 1 f fd ["placed"] spREnd := by
  refine F.ok scREnd (fun vs H Q E h => ?_) (fun cdv A outer s H vs Q E hr h => ?_)
  · obtain ⟨a, p, e, _⟩ := h
    rw [e]
    rfl
  · obtain ⟨a, p, e, ha, k⟩ := h
    subst e
    refine ⟨_, pss_one (ps_ret (pe_op op_add (pe_ix ix_tup (pv 0) pe_int (fun _ _ => rfl)) (pe_ix ix_tup (pv 0) pe_int (fun _ _ => rfl)))), ?_⟩
    exact ⟨_, rfl, a, _, _, _, rfl, rfl, SqT.of ha, atI_nat (j := 1) rfl, _, rfl, a, _, _, _, rfl, rfl, SqT.of ha, atI_nat (j := 3) rfl, _, _, rfl, rfl, k⟩
abbrev nTouching : List Str := ["floats", "standing", "side", "row", "high"]
theorem scTouching : FnScope nTouching nTouching (defScope sTouching) := ⟨rfl, rfl, rfl, by decide +kernel, rfl, by decide +kernel, by decide +kernel⟩
theorem ndTouching : (["thing", "placed", "floats", "standing", "side", "row", "high"] : List Str).Nodup := by decide +kernel
set_option maxHeartbeats 2000000 in
theorem ok_touching {f f1 : Addr} {fd d1 : FuncData} (F : Fun K "touching" "touching" sTouching f fd) (N : Names mg) (G1 : FnOk P w K mg base CX0 1 f1 d1 ["placed", "row", "high"] spTou) (b1 : Binds K d1 ["placed", "row", "high"] []) (m1 : mg "touches" = some (.ref f1)) (k1 : PySem.W.keepIn K (.ref f1) = true) :
    FnOk P w K mg base CX0 2 f fd nTouching spTouching := by
  refine F.ok scTouching (fun vs H Q E h => ?_) (fun cdv A outer s H vs Q E hr h => ?_)
  · obtain ⟨a, b, fa, pa, fls, pls, sd, row, high, e, _⟩ := h
    rw [e]
    rfl
  · obtain ⟨a, b, fa, pa, fls, pls, sd, row, high, e, hF, hP, k⟩ := h
    subst e
    refine ⟨_, pss_one (ps_ret (pe_compN (k := 2) (N' := ["thing", "placed", "floats", "standing", "side", "row", "high"]) (compScN_mk (fs := defScope sTouching) (N := nTouching) rfl rfl (by decide +kernel)) rfl
      (pi_zip rfl N.zip (pa_cons (pv 0) (pa_cons (pv 1) pa_nil))) (fun _ _ _ _ _ => pg_twoK (K := K) rfl rfl ndTouching rfl rfl rfl rfl)
      (fun _ _ _ _ _ => pts_one (pw_and (pt_cmpR op_eq (pe_ix (r := rIxT K) ix_tup (pv 0) pe_int (fun _ _ => rfl)) (pv 4) (nomark _)) (pw_and1 (pt_val (pe_call G1 hr (by rfl) m1 k1 b1 .nil pass0 (pa_cons (pv 1) (pa_cons (pv 5) (pa_cons (pv 6) pa_nil))))))).pt)
      (fun _ _ _ _ _ => pv 1))), ?_⟩
    have lf : fa.length = fls.length := by rw [hF.2.1.1, List.length_map]
    have lp : pa.length = pls.length := by rw [hP.2.1.1, List.length_map]
    refine ⟨_, rfl, _, rfl, a, b, rfl, ⟨_, SqL.of hF.1⟩, ⟨_, SqL.of hP.1⟩, ?_⟩
    refine comp_zipP (K := K) (a := a) (b := b) (fun i => decide (sideOf (gF fls i).lf = sideOf sd) && touB (gP pls i) row high) (fun i => V.ref (pa.getD i 0)) (SqL.of hF.1) (SqL.of hP.1) (small (by rw [List.length_map, List.length_map]; have := hF.2.2; omega)) ?_ ?_ ?_
    · intro i x y H' Q' hx hy s1 hq
      obtain ⟨p, r, rfl, ep, er, hp⟩ := hF.2.1.get hx
      obtain ⟨p2, r2, rfl, ep2, er2, hp2⟩ := hP.2.1.get hy
      obtain ⟨fl, efl, rfl⟩ := row_map er
      obtain ⟨pl, epl, rfl⟩ := row_map er2
      refine ⟨_, rfl, p, _, _, _, rfl, rfl, SqT.of (s1 _ _ hp), atI_nat (j := 1) rfl, _, rfl, rfl, _, rfl, ?_⟩
      have hq0 := hq H' (Same.refl _)
      rw [gF_of efl, gP_of epl] at hq0
      refine ite2 (fun hc => ?_) (fun hc => ?_)
      · refine ⟨_, rfl, _, rfl, _, rfl, p2, pl, row, high, rfl, s1 _ _ hp2, _, rfl, ?_⟩
        have e1 : (sideOf fl.lf = sideOf sd) := by simpa using of_decide_eq_true hc
        rw [decide_eq_true e1, Bool.true_and] at hq0
        exact hq0
      · have e1 : ¬ (sideOf fl.lf = sideOf sd) := fun z => hc (decide_eq_true (by rw [z]))
        rw [decide_eq_false e1, Bool.false_and] at hq0
        exact hq0
    · intro i x y H' Q' hc hx hy s1 hq
      obtain ⟨p2, r2, rfl, ep2, er2, hp2⟩ := hP.2.1.get hy
      have e3 : pa.getD i 0 = p2 := by rw [List.getD_eq_getElem?_getD, ep2]; rfl
      refine ⟨_, rfl, ?_⟩
      rw [← e3]
      exact hq H' (Same.refl _)
    · intro D H' hD s1 hl
      refine k D H' hD s1 ?_
      rw [hl]
      unfold tIdx
      rw [List.length_map, List.length_map, lf, lp]
end
section
variable {P : Program} {w : World} {K : PySem.W.Frag} {mg : Str → Option Value} {base : Heap}
theorem scNear : FnScope ["floats", "standing", "row", "high", "lefts", "rights"] ["floats", "standing", "row", "high"] (defScope sNear) := ⟨rfl, rfl, rfl, by decide +kernel, rfl, by decide +kernel, by decide +kernel⟩
theorem idx_map (pa : List Addr) (ix : List Nat) : (ix.map fun i => V.ref (pa.getD i 0)) = (ix.map fun i => pa.getD i 0).map V.ref := by rw [List.map_map]; rfl
theorem keyR {H : Hp} {b : Addr} {pa : List Addr} {pls : List Pl} {ix : List Nat} (hP : PlAt H b pa pls) (hix : ∀ i ∈ ix, i < pls.length) : KeyOk spREnd H (ix.map fun i => pa.getD i 0) (fun i => (gP pls (ix.getD i 0)).x + (gP pls (ix.getD i 0)).w) := by
  intro i a H' Q e s1 hq
  rw [List.getElem?_map] at e
  cases e1 : ix[i]? with
  | none => rw [e1] at e; cases e
  | some j =>
    rw [e1] at e
    have ea : pa.getD j 0 = a := Option.some.inj e
    subst ea
    refine ⟨_, gP pls j, rfl, s1 _ _ (hP.get (hix j (List.mem_of_getElem? e1))).2, ?_⟩
    have := hq H' (Same.refl _)
    dsimp only at this
    rw [getD_of e1] at this
    exact this
theorem keyL {H : Hp} {b : Addr} {pa : List Addr} {pls : List Pl} {ix : List Nat} (hP : PlAt H b pa pls) (hix : ∀ i ∈ ix, i < pls.length) : KeyOk spLEnd H (ix.map fun i => pa.getD i 0) (fun i => (gP pls (ix.getD i 0)).x) := by
  intro i a H' Q e s1 hq
  rw [List.getElem?_map] at e
  cases e1 : ix[i]? with
  | none => rw [e1] at e; cases e
  | some j =>
    rw [e1] at e
    have ea : pa.getD j 0 = a := Option.some.inj e
    subst ea
    refine ⟨_, gP pls j, rfl, s1 _ _ (hP.get (hix j (List.mem_of_getElem? e1))).2, ?_⟩
    have := hq H' (Same.refl _)
    dsimp only at this
    rw [getD_of e1] at this
    exact this
theorem optV_eq (pa : List Addr) (ix : List Nat) (k : Nat) : optV pa ix[k]? = (match (ix.map fun i => pa.getD i 0)[k]? with | none => V.non | some a => .ref a) := by
  rw [List.getElem?_map]
  cases ix[k]? with
  | none => rfl
  | some j => rfl
set_option maxHeartbeats 2000000 in
theorem ok_near {f f1 f2 f3 : Addr} {fd d1 d2 d3 : FuncData} (F : Fun K "nearest" "nearest" sNear f fd) (N : Names mg) (G1 : FnOk P w K mg base CX0 2 f1 d1 nTouching spTouching) (b1 : Binds K d1 nTouching []) (m1 : mg "touching" = some (.ref f1)) (k1 : PySem.W.keepIn K (.ref f1) = true)
    (G2 : FnOk P w K mg base CX0 1 f2 d2 ["placed"] spREnd) (b2 : Binds K d2 ["placed"] []) (m2 : mg "right_end" = some (.ref f2)) (G3 : FnOk P w K mg base CX0 1 f3 d3 ["placed"] spLEnd) (b3 : Binds K d3 ["placed"] []) (m3 : mg "left_end" = some (.ref f3)) :
    FnOk P w K mg base CX0 3 f fd ["floats", "standing", "row", "high"] spNear := by
  refine F.ok scNear (fun vs H Q E h => ?_) (fun cdv A outer s H vs Q E hr h => ?_)
  · obtain ⟨a, b, fa, pa, fls, pls, row, high, e, _⟩ := h
    rw [e]
    rfl
  · obtain ⟨a, b, fa, pa, fls, pls, row, high, e, hF, hP, k⟩ := h
    subst e
    refine ⟨_, pss_cons (ps_set (i := 4) scNear.nd rfl (Or.inl rfl) (pe_call G1 hr rfl m1 k1 b1 .nil pass0 (pa_cons (pv 0) (pa_cons (pv 1) (pa_cons pe_str (pa_cons (pv 2) (pa_cons (pv 3) pa_nil)))))))
      (pss_cons (ps_set (i := 5) scNear.nd rfl (Or.inl rfl) (pe_call G1 hr rfl m1 k1 b1 .nil pass0 (pa_cons (pv 0) (pa_cons (pv 1) (pa_cons pe_str (pa_cons (pv 2) (pa_cons (pv 3) pa_nil)))))))
      (pss_one (ps_ret (pe_tup (pa_cons (pe_maxK G2 hr b2 rfl rfl N.max (pa_cons (pv 4) pa_nil) (pk_cons (pe_glob (v := .ref f2) rfl m2 rfl) (pk_cons pe_non pk_nil))) (pa_cons (pe_minK G3 hr b3 rfl rfl N.min (pa_cons (pv 5) pa_nil) (pk_cons (pe_glob (v := .ref f3) rfl m3 rfl) (pk_cons pe_non pk_nil))) pa_nil)))))), ?_⟩
    refine ⟨_, rfl, _, rfl, _, rfl, _, rfl, a, b, fa, pa, fls, pls, true, row, high, rfl, hF, hP, fun l1 H1 hl1 s1 h1 => ?_⟩
    refine ⟨_, rfl, _, rfl, _, rfl, _, rfl, a, b, fa, pa, fls, pls, false, row, high, rfl, hF.same s1, hP.same s1, fun l2 H2 hl2 s2 h2 => ?_⟩
    have s12 := Same.trans s1 s2
    have h1' := s2 _ _ h1
    rw [idx_map] at h1' h2
    refine ⟨_, rfl, ?_⟩
    dsimp only [tNil, tCons, tC]
    refine rmaxK_of (SqL.of h1') (keyR (hP.same s12) fun i hi => (mem_tIdx.mp hi).2.1) (optV pa (nrL fls pls row high)) (by rw [List.length_map]; exact optV_eq _ _ _) fun H3 s3 => ?_
    have s13 := Same.trans s12 s3
    refine ⟨_, rfl, ?_⟩
    dsimp only [tNil, tCons, tC]
    refine rminK_of (SqL.of (s3 _ _ h2)) (keyL (hP.same s13) fun i hi => (mem_tIdx.mp hi).2.1) (optV pa (nrR fls pls row high)) (by rw [List.length_map]; exact optV_eq _ _ _) fun H4 s4 => ?_
    have s14 := Same.trans s13 s4
    refine ⟨by show 2 ≤ sizeLine; decide, fun t ht => ?_⟩
    have ft : H t = none := same_none s14 ht
    exact k t _ ft (Same.put s14 ft) upd_same
theorem scEdges : FnScope ["W", "floats", "standing", "row", "high", "near", "left", "right"] ["W", "floats", "standing", "row", "high"] (defScope sEdges) := ⟨rfl, rfl, rfl, by decide +kernel, rfl, by decide +kernel, by decide +kernel⟩
theorem nrL_lt {fls : List Fl} {pls : List Pl} {row high : Int} {i : Nat} (h : nrL fls pls row high = some i) : i < pls.length := (mem_tIdx.mp (bestR_some h).1).2.1
theorem nrR_lt {fls : List Fl} {pls : List Pl} {row high : Int} {i : Nat} (h : nrR fls pls row high = some i) : i < pls.length := (mem_tIdx.mp (bestL_some h).1).2.1
set_option maxHeartbeats 2000000 in
theorem ok_edges {f f1 f2 f3 : Addr} {fd d1 d2 d3 : FuncData} (F : Fun K "edges_at" "edges_at" sEdges f fd) (G1 : FnOk P w K mg base CX0 3 f1 d1 ["floats", "standing", "row", "high"] spNear) (b1 : Binds K d1 ["floats", "standing", "row", "high"] []) (m1 : mg "nearest" = some (.ref f1)) (k1 : PySem.W.keepIn K (.ref f1) = true)
    (G2 : FnOk P w K mg base CX0 1 f2 d2 ["placed"] spREnd) (b2 : Binds K d2 ["placed"] []) (m2 : mg "right_end" = some (.ref f2)) (k2 : PySem.W.keepIn K (.ref f2) = true) (G3 : FnOk P w K mg base CX0 1 f3 d3 ["placed"] spLEnd) (b3 : Binds K d3 ["placed"] []) (m3 : mg "left_end" = some (.ref f3)) (k3 : PySem.W.keepIn K (.ref f3) = true) :
    FnOk P w K mg base CX0 4 f fd ["W", "floats", "standing", "row", "high"] spEdges := by
  refine F.ok scEdges (fun vs H Q E h => ?_) (fun cdv A outer s H vs Q E hr h => ?_)
  · obtain ⟨a, b, fa, pa, fls, pls, W, row, high, e, _⟩ := h
    rw [e]
    rfl
  · obtain ⟨a, b, fa, pa, fls, pls, W, row, high, e, hF, hP, k⟩ := h
    subst e
    have hr1 := hr.mono (j := 1) (by decide)
    refine ⟨_, pss_cons (ps_set (i := 5) scEdges.nd rfl (Or.inl rfl) (pe_call G1 hr rfl m1 k1 b1 .nil pass0 (pa_cons (pv 1) (pa_cons (pv 2) (pa_cons (pv 3) (pa_cons (pv 4) pa_nil))))))
      (pss_cons (ps_set (i := 6) scEdges.nd rfl (Or.inl rfl) (pe_ifExp (pt_cmp (pc_isN (pe_ix ix_tup (pv 5) pe_int (fun _ _ => rfl)))) pe_int (pe_call G2 hr1 rfl m2 k2 b2 .nil pass0 (pa_cons (pe_ix ix_tup (pv 5) pe_int (fun _ _ => rfl)) pa_nil))))
      (pss_cons (ps_set (i := 7) scEdges.nd rfl (Or.inl rfl) (pe_ifExp (pt_cmp (pc_isN (pe_ix ix_tup (pv 5) pe_int (fun _ _ => rfl)))) (pv 0) (pe_call G3 hr1 rfl m3 k3 b3 .nil pass0 (pa_cons (pe_ix ix_tup (pv 5) pe_int (fun _ _ => rfl)) pa_nil))))
      (pss_one (ps_ret (pe_tup (pa_cons (pv 6) (pa_cons (pv 7) pa_nil))))))), ?_⟩
    refine ⟨_, rfl, _, rfl, _, rfl, _, rfl, a, b, fa, pa, fls, pls, row, high, rfl, hF, hP, fun n H1 hn s1 h1 => ?_⟩
    have hP1 := hP.same s1
    dsimp only [gName, tSeq]
    refine asg_join (.int (edL fls pls row high)) (fun Q' hq => ?_) (fun H2 s2 => ?_)
    · refine ⟨_, rfl, n, _, _, _, rfl, rfl, SqT.of h1, atI_nat (j := 0) rfl, _, rfl, ?_⟩
      cases e : nrL fls pls row high with
      | none =>
        have := hq H1 (Same.refl _)
        unfold edL at this
        rw [e] at this
        exact this
      | some i =>
        have hp := (hP1.get (nrL_lt e)).2
        have := hq H1 (Same.refl _)
        unfold edL at this
        rw [e] at this h1
        exact ⟨_, rfl, n, _, _, _, rfl, rfl, SqT.of h1, atI_nat (j := 0) rfl, _, gP pls i, rfl, hp, this⟩
    have h2 := s2 _ _ h1
    have hP2 := hP1.same s2
    dsimp only [gName, tSeq]
    refine asg_join (.int (edR W fls pls row high)) (fun Q' hq => ?_) (fun H3 s3 => ?_)
    · refine ⟨_, rfl, n, _, _, _, rfl, rfl, SqT.of h2, atI_nat (j := 1) rfl, _, rfl, ?_⟩
      cases e : nrR fls pls row high with
      | none =>
        have := hq H2 (Same.refl _)
        unfold edR at this
        rw [e] at this
        exact ⟨_, rfl, this⟩
      | some i =>
        have hp := (hP2.get (nrR_lt e)).2
        have := hq H2 (Same.refl _)
        unfold edR at this
        rw [e] at this h2
        exact ⟨_, rfl, n, _, _, _, rfl, rfl, SqT.of h2, atI_nat (j := 1) rfl, _, gP pls i, rfl, hp, this⟩
    refine ⟨_, rfl, _, rfl, by show 2 ≤ sizeLine; decide, fun t ht => ?_⟩
    have s13 := Same.trans s1 (Same.trans s2 s3)
    have ft : H t = none := same_none s13 ht
    exact k t _ ft (Same.put s13 ft) upd_same
end
def spAcross : Sp := fun vs H Q _ => ∃ (e : Addr) (b : Bool) (w l r : Int), vs = [.str (sideOf b), .int w, .ref e] ∧ H e = some (.tup [.int l, .int r]) ∧ Q (.int (if b = true then l else r - w)) H
def spTriple : Sp := fun vs H Q _ => ∃ (n b : Addr) (pa : List Addr) (pls : List Pl) (i j : Option Nat), vs = [.ref n] ∧ PlAt H b pa pls ∧ H n = some (.tup [optV pa i, optV pa j]) ∧ (∀ k, i = some k → k < pls.length) ∧ (∀ k, j = some k → k < pls.length) ∧ (i ≠ none ∨ j ≠ none) ∧
  ∀ t H', H t = none → Same H H' → H' t = some (.tup (triV (triRow pls i j, nmOf pls i, nmOf pls j))) → Q (.ref t) H'
def spStand : Sp := fun vs H Q _ => ∃ (a b : Addr) (fa pa : List Addr) (fls : List Fl) (pls : List Pl) (W row : Int), vs = [.int W, .ref a, .ref b, .int row] ∧ FlAt H a fa fls ∧ PlAt H b pa pls ∧ pls.length < fls.length ∧ (gF fls pls.length).w ≤ W ∧
  ∀ (t tp l : Addr) (ta : List Addr) (H' : Hp), H l = none → Same H H' → H' t = some (.tup [.ref tp, .ref l]) → H' tp = some (.tup (plRow (standF W fls pls row).1)) → H' l = some (.lst (ta.map V.ref)) → RowsOf H' ta ((standF W fls pls row).2.map triV) → Q (.ref t) H'
section
variable {P : Program} {w : World} {K : PySem.W.Frag} {mg : Str → Option Value} {base : Heap}
theorem scAcross : FnScope ["side", "wide", "edges"] ["side", "wide", "edges"] (defScope sAcross) := ⟨rfl, rfl, rfl, by decide +kernel, rfl, by decide +kernel, by decide +kernel⟩
theorem ok_across {f : Addr} {fd : FuncData} (F : Fun K "place_across" "place_across" sAcross f fd) : FnOk P w K mg base CX0 1 f fd ["side", "wide", "edges"] spAcross := by
  refine F.ok scAcross (fun vs H Q E h => ?_) (fun cdv A outer s H vs Q E hr h => ?_)
  · obtain ⟨e, b, w, l, r, e1, _⟩ := h
    rw [e1]
    rfl
  · obtain ⟨e, b, w, l, r, e1, he, k⟩ := h
    subst e1
    refine ⟨_, pss_one (ps_ret (pe_ifExp (pt_cmpR op_eq (pv 0) pe_str (nomark _)) (pe_ix ix_tup (pv 2) pe_int (fun _ _ => rfl)) (pe_op op_sub (pe_ix ix_tup (pv 2) pe_int (fun _ _ => rfl)) (pv 1)))), ?_⟩
    refine ⟨_, rfl, rfl, _, rfl, ?_⟩
    cases b with
    | true => exact iteT ⟨_, rfl, e, _, _, _, rfl, rfl, SqT.of he, atI_nat (j := 0) rfl, k⟩
    | false => exact iteF ⟨_, rfl, e, _, _, _, rfl, rfl, SqT.of he, atI_nat (j := 1) rfl, _, rfl, _, _, rfl, rfl, k⟩
theorem scTriple : FnScope ["near", "ends", "names"] ["near"] (defScope sTriple) := ⟨rfl, rfl, rfl, by decide +kernel, rfl, by decide +kernel, by decide +kernel⟩
abbrev nTriple : List Str := ["near", "ends", "names"]
theorem optV_non {pa : List Addr} {i : Option Nat} : decide (optV pa i = .non) = i.isNone := by
  cases i with
  | none => rfl
  | some k => rfl
set_option maxHeartbeats 4000000 in
theorem ok_triple {f : Addr} {fd : FuncData} (F : Fun K "triple_of" "triple_of" sTriple f fd) (N : Names mg) : FnOk P w K mg base CX0 1 f fd ["near"] spTriple := by
  refine F.ok scTriple (fun vs H Q E h => ?_) (fun cdv A outer s H vs Q E hr h => ?_)
  · obtain ⟨n, b, pa, pls, i, j, e, _⟩ := h
    rw [e]
    rfl
  · obtain ⟨n, b, pa, pls, i, j, e, hP, hn, hi, hj, hij, k⟩ := h
    subst e
    refine ⟨_, pss_cons (ps_setComp (i := 1) (compSc_mk (fs := defScope sTriple) (N := nTriple) rfl rfl (by decide +kernel)) rfl scTriple.nd rfl (Or.inl rfl) (pi_tup (pv 0)) (fun _ _ _ _ _ => pts_one (pt_cmp (pc_notN (pv 0))))
        (fun _ _ _ _ _ => pe_op op_add (pe_ix (r := rIxT K) ix_tup (pv 0) pe_int (fun _ _ => rfl)) (pe_ix (r := rIxT K) ix_tup (pv 0) pe_int (fun _ _ => rfl))) rfl)
      (pss_cons (ps_setComp (i := 2) (compSc_mk (fs := defScope sTriple) (N := nTriple) rfl rfl (by decide +kernel)) rfl scTriple.nd rfl (Or.inl rfl) (pi_tup (pv 0)) (fun _ _ _ _ _ => pts_nil)
        (fun _ _ _ _ _ => pe_ifExp (pt_cmp (pc_isN (pv 0))) pe_str (pe_ix (r := rIxT K) ix_tup (pv 0) pe_int (fun _ _ => rfl))) rfl)
      (pss_one (ps_ret (pe_tup (pa_cons (pe_callB (call_minL rfl) (by rfl) N.min PyProof.Rows.boot_min (pa_cons (pv 1) pa_nil)) (pa_cons (pe_ix ix_list (pv 2) pe_int (fun _ _ => rfl)) (pa_cons (pe_ix ix_list (pv 2) pe_int (fun _ _ => rfl)) pa_nil))))))), ?_⟩
    have op : ∀ m : Nat, m < 2 → [optV pa i, optV pa j][m]? = some (optV pa (if m = 0 then i else j)) := fun m hm => by
      match m, hm with
      | 0, _ => rfl
      | 1, _ => rfl
    have vd : ∀ m : Nat, ∀ q, (if m = 0 then i else j) = some q → q < pls.length := fun m q e => by
      split at e
      · exact hi q e
      · exact hj q e
    have x2 : ∀ {m : Nat} {x : V}, [optV pa i, optV pa j][m]? = some x → m < 2 ∧ x = optV pa (if m = 0 then i else j) := fun {m x} hx => by
      have hm : m < 2 := get_lt hx
      rw [op m hm] at hx
      exact ⟨hm, (Option.some.inj hx).symm⟩
    refine ⟨_, rfl, n, rfl, ⟨_, SqT.of hn⟩, ?_⟩
    refine comp_tupP (K := K) (a := n) (fun m => (if m = 0 then i else j).isSome) (fun m => match (if m = 0 then i else j) with | none => .int 0 | some q => .int (endOf (gP pls q))) hn (by show 2 < sizeLine; decide) ?_ ?_ ?_
    · intro m x H' Q' hx s1 hq
      obtain ⟨hm, rfl⟩ := x2 hx
      refine ⟨_, rfl, _, rfl, ?_⟩
      have := hq H' (Same.refl _)
      rw [optV_non]
      cases e : (if m = 0 then i else j) with
      | none => rw [e] at this; exact this
      | some q => rw [e] at this; exact this
    · intro m x H' Q' hc hx s1 hq
      obtain ⟨hm, rfl⟩ := x2 hx
      have := hq H' (Same.refl _)
      cases e : (if m = 0 then i else j) with
      | none => rw [e] at hc; cases hc
      | some q =>
        have hp := s1 _ _ (hP.get (vd m q e)).2
        rw [e] at this
        exact ⟨_, rfl, _, _, _, _, rfl, rfl, SqT.of hp, atI_nat (j := 2) rfl, _, rfl, _, _, _, _, rfl, rfl, SqT.of hp, atI_nat (j := 4) rfl, _, _, rfl, rfl, this⟩
    intro le H1 hle s1 h1
    have hn1 := s1 _ _ hn
    refine ⟨_, rfl, n, rfl, ⟨_, SqT.of hn1⟩, ?_⟩
    refine comp_tupP (K := K) (a := n) (fun m => true) (fun m => V.str (nmOf pls (if m = 0 then i else j))) hn1 (by show 2 < sizeLine; decide) (fun m x H' Q' hx s2 hq => hq H' (Same.refl _)) ?_ ?_
    · intro m x H' Q' hc hx s2 hq
      obtain ⟨hm, rfl⟩ := x2 hx
      have := hq H' (Same.refl _)
      refine ⟨_, rfl, _, rfl, ?_⟩
      rw [optV_non]
      cases e : (if m = 0 then i else j) with
      | none => rw [e] at this; exact this
      | some q =>
        have hp := s2 _ _ (s1 _ _ (hP.get (vd m q e)).2)
        rw [e] at this
        exact ⟨_, rfl, _, _, _, _, rfl, rfl, SqT.of hp, atI_nat (j := 0) rfl, this⟩
    intro ln H2 hln s2 h2
    have h1' := s2 _ _ h1
    have s12 := Same.trans s1 s2
    obtain ⟨ns, ens, hne, hall⟩ : ∃ ns : List Int, (((List.range [optV pa i, optV pa j].length).filter fun m => (if m = 0 then i else j).isSome).map fun m => (match (if m = 0 then i else j) with | none => V.int 0 | some q => V.int (endOf (gP pls q)))) = ns.map V.int ∧ 0 < ns.length ∧
        ∀ M, M ∈ ns → (∀ c ∈ ns, M ≤ c) → M = triRow pls i j := by
      cases i with
      | none =>
        cases j with
        | none => exact absurd rfl (hij.elim (fun z => z) fun z => z)
        | some q => exact ⟨[endOf (gP pls q)], rfl, by show 0 < 1; decide, fun M hM _ => List.mem_singleton.mp hM⟩
      | some p =>
        cases j with
        | none => exact ⟨[endOf (gP pls p)], rfl, by show 0 < 1; decide, fun M hM _ => List.mem_singleton.mp hM⟩
        | some q =>
          refine ⟨[endOf (gP pls p), endOf (gP pls q)], rfl, by show 0 < 2; decide, fun M hM hb => ?_⟩
          have b1 := hb _ (List.mem_cons_self ..)
          have b2 := hb (endOf (gP pls q)) (by simp)
          show M = (if endOf (gP pls q) < endOf (gP pls p) then endOf (gP pls q) else endOf (gP pls p))
          rcases List.mem_cons.mp hM with z | z
          · subst z
            split <;> omega
          · have z : M = endOf (gP pls q) := by simpa using z
            subst z
            split <;> omega
    rw [ens] at h1'
    refine ⟨_, rfl, le, ns, rfl, SqL.of h1', hne, fun M hM hb => ?_⟩
    have eM := hall M hM hb
    subst eM
    refine ⟨_, rfl, ln, _, _, _, rfl, rfl, SqL.of h2, atI_nat (j := 0) rfl, _, rfl, ln, _, _, _, rfl, rfl, SqL.of h2, atI_nat (j := 1) rfl, (by show 3 ≤ sizeLine; decide), fun t ht => ?_⟩
    have ft : H t = none := same_none s12 ht
    exact k t _ ft (Same.put s12 ft) upd_same
end
end B68
namespace B68
open PySem L2 S2
theorem kit_ints {K : PySem.W.Frag} : PySem.W.kitOne K (.type "int") (.type "int") = some true := by rfl
theorem kit_intb {K : PySem.W.Frag} : PySem.W.kitOne K (.type "int") (.type "bool") = some false := by rfl
theorem kit_tup {K : PySem.W.Frag} : PySem.W.kitOne K (.type "tuple") (.type "tuple") = some true := by rfl
theorem kit_list {K : PySem.W.Frag} : PySem.W.kitOne K (.type "list") (.type "list") = some true := by rfl
theorem dec_int {i j : Int} : decide (V.int i = V.int j) = decide (i = j) := by
  by_cases e : i = j
  · subst e
    simp
  · rw [decide_eq_false e, decide_eq_false fun z => e (V.int.inj z)]
theorem kit_strs {K : PySem.W.Frag} : PySem.W.kitOne K (.type "str") (.type "str") = some true := by rfl
theorem all3 (a b c : Bool) : ((List.range 3).all fun j => match j with | 0 => a | 1 => b | _ => c) = (a && (b && c)) := by
  cases a <;> cases b <;> cases c <;> rfl
def spWhole : Sp := fun vs H Q _ => ∃ i : Int, vs = [.int i] ∧ Q (.bl true) H
def spTupOf : Sp := fun vs H Q _ => ∃ (p : Addr) (xs : List V) (n : Int), vs = [.ref p, .int n] ∧ H p = some (.tup xs) ∧ Q (.bl (decide ((xs.length : Int) = n))) H
def spLstOf : Sp := fun vs H Q _ => ∃ (p : Addr) (xs : List V) (n : Int), vs = [.ref p, .int n] ∧ H p = some (.lst xs) ∧ Q (.bl (decide ((xs.length : Int) = n))) H
def plB (p : Pl) (nm : Str) (w h : Int) : Bool := decide (p.nm = nm) && (decide (p.w = w) && decide (p.h = h))
def spPlaced : Sp := fun vs H Q _ => ∃ (a : Addr) (p : Pl) (nm : Str) (w h : Int), vs = [.ref a, .str nm, .int w, .int h] ∧ H a = some (.tup (plRow p)) ∧ ∀ H', Same H H' → Q (.bl (plB p nm w h)) H'
def spIsTri : Sp := fun vs H Q _ => ∃ (a : Addr) (t : Tri), vs = [.ref a] ∧ H a = some (.tup (triV t)) ∧ Q (.bl true) H
def spPaper : Sp := fun vs H Q _ => ∃ (a : Addr) (ta : List Addr) (ts : List Tri), vs = [.ref a] ∧ H a = some (.lst (ta.map V.ref)) ∧ RowsOf H ta (ts.map triV) ∧ ts.length ≤ 100000 ∧ ∀ H', Same H H' → Q (.bl true) H'
section
variable {P : Program} {w : World} {K : PySem.W.Frag} {mg : Str → Option Value} {base : Heap}
theorem scWhole : FnScope ["thing"] ["thing"] (defScope sWhole) := ⟨rfl, rfl, rfl, by decide +kernel, rfl, by decide +kernel, by decide +kernel⟩
theorem ok_whole {f : Addr} {fd : FuncData} (F : Fun K "is_whole" "is_whole" sWhole f fd) (N : Names mg) : FnOk P w K mg base CX0 1 f fd ["thing"] spWhole := by
  refine F.ok scWhole (fun vs H Q E h => ?_) (fun cdv A outer s H vs Q E hr h => ?_)
  · obtain ⟨i, e, _⟩ := h
    rw [e]
    rfl
  · obtain ⟨i, e, k⟩ := h
    subst e
    refine ⟨_, pss_one (ps_ret (pe_and (pe_callB call_isinst (by rfl) N.inst PyProof.Rows.boot_isinstance (pa_cons (pv 0) (pa_cons (pe_bltn (v := .ty "int") (by rfl) N.int PyProof.Rows.boot_int rfl (by decide)) pa_nil)))
      (pe_one (pe_not (pe_callB call_isinst (by rfl) N.inst PyProof.Rows.boot_isinstance (pa_cons (pv 0) (pa_cons (pe_bltn (v := .ty "bool") (by rfl) N.bool PyProof.Rows.boot_bool rfl (by decide)) pa_nil))))))), ?_⟩
    refine ⟨_, rfl, _, "int", _, _, rfl, TyOf.int i, kit_ints, _, rfl, iteT ?_⟩
    exact ⟨_, rfl, _, "bool", _, _, rfl, TyOf.int i, kit_intb, _, rfl, k⟩
theorem scTupOf : FnScope ["thing", "many"] ["thing", "many"] (defScope sTupOf) := ⟨rfl, rfl, rfl, by decide +kernel, rfl, by decide +kernel, by decide +kernel⟩
theorem ok_tupOf {f : Addr} {fd : FuncData} (F : Fun K "is_tuple_of" "is_tuple_of" sTupOf f fd) (N : Names mg) : FnOk P w K mg base CX0 1 f fd ["thing", "many"] spTupOf := by
  refine F.ok scTupOf (fun vs H Q E h => ?_) (fun cdv A outer s H vs Q E hr h => ?_)
  · obtain ⟨p, xs, n, e, _⟩ := h
    rw [e]
    rfl
  · obtain ⟨p, xs, n, e, hp, k⟩ := h
    subst e
    refine ⟨_, pss_one (ps_ret (pe_and (pe_callB call_isinst (by rfl) N.inst PyProof.Rows.boot_isinstance (pa_cons (pv 0) (pa_cons (pe_bltn (v := .ty "tuple") (by rfl) N.tuple PyProof.Rows.boot_tuple rfl (by decide)) pa_nil)))
      (pe_one (pe_cmpR op_eq (pe_callB call_len_seq (by rfl) N.len PySem.boot_len (pa_cons (pv 0) pa_nil)) (pv 1) (nomark _))))), ?_⟩
    refine ⟨_, rfl, _, "tuple", _, _, rfl, TyOf.tup hp, kit_tup, _, rfl, iteT ?_⟩
    refine ⟨_, rfl, p, _, rfl, .inr (SqT.of hp), _, rfl, rfl, ?_⟩
    rw [dec_int]
    exact k
theorem scLstOf : FnScope ["thing", "many"] ["thing", "many"] (defScope sLstOf) := ⟨rfl, rfl, rfl, by decide +kernel, rfl, by decide +kernel, by decide +kernel⟩
theorem ok_lstOf {f : Addr} {fd : FuncData} (F : Fun K "is_list_of" "is_list_of" sLstOf f fd) (N : Names mg) : FnOk P w K mg base CX0 1 f fd ["thing", "many"] spLstOf := by
  refine F.ok scLstOf (fun vs H Q E h => ?_) (fun cdv A outer s H vs Q E hr h => ?_)
  · obtain ⟨p, xs, n, e, _⟩ := h
    rw [e]
    rfl
  · obtain ⟨p, xs, n, e, hp, k⟩ := h
    subst e
    refine ⟨_, pss_one (ps_ret (pe_and (pe_callB call_isinst (by rfl) N.inst PyProof.Rows.boot_isinstance (pa_cons (pv 0) (pa_cons (pe_bltn (v := .ty "list") (by rfl) N.list PyProof.Rows.boot_list rfl (by decide)) pa_nil)))
      (pe_one (pe_cmpR op_eq (pe_callB call_len_seq (by rfl) N.len PySem.boot_len (pa_cons (pv 0) pa_nil)) (pv 1) (nomark _))))), ?_⟩
    refine ⟨_, rfl, _, "list", _, _, rfl, TyOf.lst hp, kit_list, _, rfl, iteT ?_⟩
    refine ⟨_, rfl, p, _, rfl, .inl (SqL.of hp), _, rfl, rfl, ?_⟩
    rw [dec_int]
    exact k
theorem scPlaced : FnScope ["thing", "name", "wide", "high"] ["thing", "name", "wide", "high"] (defScope sPlaced) := ⟨rfl, rfl, rfl, by decide +kernel, rfl, by decide +kernel, by decide +kernel⟩
set_option maxHeartbeats 4000000 in
theorem ok_placed {f fT fW : Addr} {fd dT dW : FuncData} (F : Fun K "is_placed" "is_placed" sPlaced f fd) (N : Names mg)
    (GT : FnOk P w K mg base CX0 1 fT dT ["thing", "many"] spTupOf) (bT : Binds K dT ["thing", "many"] []) (mT : mg "is_tuple_of" = some (.ref fT)) (kT : PySem.W.keepIn K (.ref fT) = true)
    (GW : FnOk P w K mg base CX0 1 fW dW ["thing"] spWhole) (bW : Binds K dW ["thing"] []) (mW : mg "is_whole" = some (.ref fW)) (kW : PySem.W.keepIn K (.ref fW) = true) : FnOk P w K mg base CX0 2 f fd ["thing", "name", "wide", "high"] spPlaced := by
  refine F.ok scPlaced (fun vs H Q E h => ?_) (fun cdv A outer s H vs Q E hr h => ?_)
  · obtain ⟨a, p, nm, w, h, e, _⟩ := h
    rw [e]
    rfl
  · obtain ⟨a, p, nm, w, h, e, hp, k⟩ := h
    subst e
    have hu : (A.deeper (PyProof.Rows.envOfC "is_placed" (defScope sPlaced) s.heap.objs.size f cdv)).units + 20 < cLine := by have := hr.units; omega
    refine ⟨_, pss_cons (ps_if (pt_not (pw_and (pt_val (pe_call GT hr (by rfl) mT kT bT .nil pass0 (pa_cons (pv 0) (pa_cons pe_int pa_nil))))
        (pw_and (pt_val (pe_callB call_isinst (by rfl) N.inst PyProof.Rows.boot_isinstance (pa_cons (pe_ix ix_tup (pv 0) pe_int (fun _ _ => rfl)) (pa_cons (pe_bltn (v := .ty "str") (by rfl) N.str PyProof.Rows.boot_str rfl (by decide)) pa_nil))))
        (pw_and1 (pt_val (pe_callB (call_allL rfl) (by rfl) N.all PyProof.Rows.boot_all (pa_cons (pe_comp (compSc_mk (fs := defScope sPlaced) (N := ["thing", "name", "wide", "high"]) rfl rfl (by decide +kernel)) rfl (pi_tup (pe_slice sl_tup (pv 0) (po_some pe_int) po_none)) (fun _ _ _ _ _ => pts_nil)
          (fun _ _ _ _ _ => pe_call GW hr (by rfl) mW kW bW .nil pass0 (pa_cons (pv 0) pa_nil))) pa_nil)))))).pt) (pss_one (ps_ret pe_bl)) pss_nil)
      (pss_one (ps_ret (pe_cmpR (op_eqDeep hu) (pe_tup (pa_cons (pe_ix ix_tup (pv 0) pe_int (fun _ _ => rfl)) (pa_cons (pe_ix ix_tup (pv 0) pe_int (fun _ _ => rfl)) (pa_cons (pe_ix ix_tup (pv 0) pe_int (fun _ _ => rfl)) pa_nil)))) (pe_tup (pa_cons (pv 1) (pa_cons (pv 2) (pa_cons (pv 3) pa_nil)))) (nomark _)))), ?_⟩
    have a0 : atI (plRow p) 0 = some (V.str p.nm) := rfl
    have a3 : atI (plRow p) 3 = some (V.int p.w) := rfl
    have a4 : atI (plRow p) 4 = some (V.int p.h) := rfl
    refine ⟨_, rfl, a, _, 5, rfl, hp, _, rfl, iteB (by rfl) ?_⟩
    refine ⟨_, rfl, a, _, _, _, rfl, rfl, SqT.of hp, a0, _, "str", _, _, rfl, TyOf.str p.nm, kit_strs, _, rfl, iteT ?_⟩
    refine ⟨_, rfl, _, rfl, a, _, rfl, SqT.of hp, (fun z => absurd z.1 (by show ¬ (1 = 0); decide)), fun b hb => ?_⟩
    have s1 : Same H (upd H b (.tup [.int p.x, .int p.y, .int p.w, .int p.h])) := Same.put (Same.refl _) hb
    have h1 : (upd H b (.tup [.int p.x, .int p.y, .int p.w, .int p.h])) b = some (.tup [.int p.x, .int p.y, .int p.w, .int p.h]) := upd_same
    have ecut : cutV (plRow p) (some 1) none = [.int p.x, .int p.y, .int p.w, .int p.h] := rfl
    rw [ecut]
    generalize upd H b (.tup [.int p.x, .int p.y, .int p.w, .int p.h]) = H1 at *
    refine ⟨b, rfl, ⟨_, SqT.of h1⟩, comp_allT h1 (small (Nat.le_of_ble_eq_true rfl)) ?_ fun D H' hD s2 hl => ?_⟩
    · intro i x H' Q' hx s2 kk
      obtain ⟨z, rfl⟩ : ∃ z, x = V.int z := by
        match i, hx with
        | 0, hx => exact ⟨_, (Option.some.inj hx).symm⟩
        | 1, hx => exact ⟨_, (Option.some.inj hx).symm⟩
        | 2, hx => exact ⟨_, (Option.some.inj hx).symm⟩
        | 3, hx => exact ⟨_, (Option.some.inj hx).symm⟩
      exact ⟨_, rfl, z, rfl, kk _ (Same.refl _)⟩
    refine ⟨D, _, rfl, SqL.of hl, _, rfl, ?_⟩
    rw [trues_all]
    refine iteF ?_
    have s02 := Same.trans s1 s2
    have hp2 := s02 _ _ hp
    refine ⟨_, rfl, a, _, _, _, rfl, rfl, SqT.of hp2, a0, _, rfl, a, _, _, _, rfl, rfl, SqT.of hp2, a3, _, rfl, a, _, _, _, rfl, rfl, SqT.of hp2, a4, (by show 3 ≤ sizeLine; decide), fun t1 ht1 => ?_⟩
    have s3 : Same H' (upd H' t1 (.tup [.str p.nm, .int p.w, .int p.h])) := Same.put (Same.refl _) ht1
    have h3 : (upd H' t1 (.tup [.str p.nm, .int p.w, .int p.h])) t1 = some (.tup [.str p.nm, .int p.w, .int p.h]) := upd_same
    generalize upd H' t1 (.tup [.str p.nm, .int p.w, .int p.h]) = H3 at *
    refine ⟨_, rfl, _, rfl, _, rfl, (by show 3 ≤ sizeLine; decide), fun t2 ht2 => ?_⟩
    have s4 : Same H3 (upd H3 t2 (.tup [.str nm, .int w, .int h])) := Same.put (Same.refl _) ht2
    have h4 : (upd H3 t2 (.tup [.str nm, .int w, .int h])) t2 = some (.tup [.str nm, .int w, .int h]) := upd_same
    generalize upd H3 t2 (.tup [.str nm, .int w, .int h]) = H4 at *
    refine ⟨t1, t2, _, _, fun j => match j with | 0 => decide (p.nm = nm) | 1 => decide (p.w = w) | _ => decide (p.h = h), rfl, rfl, .inr ⟨SqT.of (s4 _ _ h3), SqT.of h4⟩, rfl, (fun j x y e1 e2 => ?_), ?_⟩
    · match j, e1, e2 with
      | 0, e1, e2 =>
        cases e1
        cases e2
        exact EqD.flat rfl rfl
      | 1, e1, e2 =>
        cases e1
        cases e2
        exact EqD.flat rfl rfl
      | 2, e1, e2 =>
        cases e1
        cases e2
        exact EqD.flat rfl rfl
    · have := k H4 (Same.trans s02 (Same.trans s3 s4))
      exact (congrArg (fun b => Q (V.bl b) H4) (all3 (decide (p.nm = nm)) (decide (p.w = w)) (decide (p.h = h)))).mpr this
theorem scIsTri : FnScope ["thing"] ["thing"] (defScope sIsTri) := ⟨rfl, rfl, rfl, by decide +kernel, rfl, by decide +kernel, by decide +kernel⟩
theorem ok_isTri {f fT fW : Addr} {fd dT dW : FuncData} (F : Fun K "is_triple" "is_triple" sIsTri f fd) (N : Names mg)
    (GT : FnOk P w K mg base CX0 1 fT dT ["thing", "many"] spTupOf) (bT : Binds K dT ["thing", "many"] []) (mT : mg "is_tuple_of" = some (.ref fT)) (kT : PySem.W.keepIn K (.ref fT) = true)
    (GW : FnOk P w K mg base CX0 1 fW dW ["thing"] spWhole) (bW : Binds K dW ["thing"] []) (mW : mg "is_whole" = some (.ref fW)) (kW : PySem.W.keepIn K (.ref fW) = true) : FnOk P w K mg base CX0 2 f fd ["thing"] spIsTri := by
  refine F.ok scIsTri (fun vs H Q E h => ?_) (fun cdv A outer s H vs Q E hr h => ?_)
  · obtain ⟨a, t, e, _⟩ := h
    rw [e]
    rfl
  · obtain ⟨a, t, e, hp, k⟩ := h
    subst e
    refine ⟨_, pss_one (ps_ret (pe_and (pe_call GT hr rfl mT kT bT .nil pass0 (pa_cons (pv 0) (pa_cons pe_int pa_nil)))
      (pe_and (pe_call GW hr rfl mW kW bW .nil pass0 (pa_cons (pe_ix ix_tup (pv 0) pe_int (fun _ _ => rfl)) pa_nil))
      (pe_and (pe_callB call_isinst (by rfl) N.inst PyProof.Rows.boot_isinstance (pa_cons (pe_ix ix_tup (pv 0) pe_int (fun _ _ => rfl)) (pa_cons (pe_bltn (v := .ty "str") (by rfl) N.str PyProof.Rows.boot_str rfl (by decide)) pa_nil)))
      (pe_one (pe_callB call_isinst (by rfl) N.inst PyProof.Rows.boot_isinstance (pa_cons (pe_ix ix_tup (pv 0) pe_int (fun _ _ => rfl)) (pa_cons (pe_bltn (v := .ty "str") (by rfl) N.str PyProof.Rows.boot_str rfl (by decide)) pa_nil)))))))), ?_⟩
    refine ⟨_, rfl, a, _, 3, rfl, hp, _, rfl, iteB (by rfl) ?_⟩
    refine ⟨_, rfl, a, _, _, _, rfl, rfl, SqT.of hp, atI_nat (j := 0) rfl, _, rfl, _, rfl, iteT ?_⟩
    refine ⟨_, rfl, a, _, _, _, rfl, rfl, SqT.of hp, atI_nat (j := 1) rfl, _, "str", _, _, rfl, TyOf.str _, kit_strs, _, rfl, iteT ?_⟩
    exact ⟨_, rfl, a, _, _, _, rfl, rfl, SqT.of hp, atI_nat (j := 2) rfl, _, "str", _, _, rfl, TyOf.str _, kit_strs, k⟩
theorem scPaper : FnScope ["thing"] ["thing"] (defScope sPaper) := ⟨rfl, rfl, rfl, by decide +kernel, rfl, by decide +kernel, by decide +kernel⟩
theorem ok_paper {f f1 : Addr} {fd d1 : FuncData} (F : Fun K "is_paper" "is_paper" sPaper f fd) (N : Names mg)
    (G1 : FnOk P w K mg base CX0 2 f1 d1 ["thing"] spIsTri) (b1 : Binds K d1 ["thing"] []) (m1 : mg "is_triple" = some (.ref f1)) (k1 : PySem.W.keepIn K (.ref f1) = true) : FnOk P w K mg base CX0 3 f fd ["thing"] spPaper := by
  refine F.ok scPaper (fun vs H Q E h => ?_) (fun cdv A outer s H vs Q E hr h => ?_)
  · obtain ⟨a, ta, ts, e, _⟩ := h
    rw [e]
    rfl
  · obtain ⟨a, ta, ts, e, hp, hR, hz, k⟩ := h
    subst e
    have lt : ta.length = ts.length := by rw [hR.1, List.length_map]
    refine ⟨_, pss_one (ps_ret (pe_and (pe_callB call_isinst (by rfl) N.inst PyProof.Rows.boot_isinstance (pa_cons (pv 0) (pa_cons (pe_bltn (v := .ty "list") (by rfl) N.list PyProof.Rows.boot_list rfl (by decide)) pa_nil)))
      (pe_one (pe_callB (call_allL rfl) (by rfl) N.all PyProof.Rows.boot_all (pa_cons (pe_comp (compSc_mk (fs := defScope sPaper) (N := ["thing"]) rfl rfl (by decide +kernel)) rfl (pi_list (pv 0)) (fun _ _ _ _ _ => pts_nil)
        (fun _ _ _ _ _ => pe_call G1 hr (by rfl) m1 k1 b1 .nil pass0 (pa_cons (pv 0) pa_nil))) pa_nil))))), ?_⟩
    refine ⟨_, rfl, _, "list", _, _, rfl, TyOf.lst hp, kit_list, _, rfl, iteT ?_⟩
    refine ⟨_, rfl, a, rfl, ⟨_, SqL.of hp⟩, comp_allL (SqL.of hp) (small (by rw [List.length_map, lt]; exact hz)) ?_ fun D H' hD s2 hl => ?_⟩
    · intro i x H' Q' hx s2 kk
      obtain ⟨p, r, rfl, ep, er, hp'⟩ := (hR.same s2).get hx
      rw [List.getElem?_map] at er
      cases ef : ts[i]? with
      | none => rw [ef] at er; cases er
      | some t =>
        rw [ef] at er
        cases er
        exact ⟨_, rfl, p, t, rfl, hp', kk _ (Same.refl _)⟩
    refine ⟨D, _, rfl, SqL.of hl, ?_⟩
    rw [trues_all]
    exact k H' s2
theorem scWay : FnScope ["floats", "standing", "side", "rows", "high", "found"] ["floats", "standing", "side", "rows", "high"] (defScope sWay) := ⟨rfl, rfl, rfl, by decide +kernel, rfl, by decide +kernel, by decide +kernel⟩
end
end B68
namespace B68
open PySem L2 S2
def wIdx (fls : List Fl) (pls : List Pl) (sd : Bool) (r0 r1 high : Int) : List Nat := (tIdx fls pls sd r0 high).filter fun i => touB (gP pls i) r1 high
def spWay : Sp := fun vs H Q _ => ∃ (a b r : Addr) (fa pa : List Addr) (fls : List Fl) (pls : List Pl) (sd : Bool) (r0 r1 high : Int), vs = [.ref a, .ref b, .str (sideOf sd), .ref r, .int high] ∧ FlAt H a fa fls ∧ PlAt H b pa pls ∧ H r = some (.tup [.int r0, .int r1]) ∧
  ∀ D H', H D = none → Same H H' → H' D = some (.lst ((wIdx fls pls sd r0 r1 high).map fun i => V.ref (pa.getD i 0))) → Q (.ref D) H'
def dOf (e0 : Int) (l : List (Str × Int)) : List (Key × V) := l.foldl (fun acc q => putK acc (.inr q.1) (.int q.2)) [(.inr "", .int e0)]
def lookB : List (Str × Int) → Option Int → Str → Option Int
  | [], o, _ => o
  | q :: r, o, n => lookB r (if n = q.1 then some q.2 else o) n
theorem look_fold (n : Str) : ∀ (l : List (Str × Int)) (d : List (Key × V)) (o : Option Int), valV d (.inr n) = o.map V.int → valV (l.foldl (fun acc q => putK acc (.inr q.1) (.int q.2)) d) (.inr n) = (lookB l o n).map V.int
  | [], d, o, h => h
  | q :: r, d, o, h => by
    show valV (r.foldl _ (putK d (.inr q.1) (.int q.2))) (.inr n) = (lookB r (if n = q.1 then some q.2 else o) n).map V.int
    refine look_fold n r _ _ ?_
    rw [valV_put]
    by_cases e : n = q.1
    · subst e
      rw [if_pos rfl, if_pos rfl]
      rfl
    · rw [if_neg (fun z => e (Sum.inr.inj z)), if_neg e]
      exact h
theorem look_dOf (e0 : Int) (l : List (Str × Int)) (n : Str) : valV (dOf e0 l) (.inr n) = (lookB l (if n = "" then some e0 else none) n).map V.int := by
  refine look_fold n l _ _ ?_
  by_cases e : n = ""
  · subst e
    rw [if_pos rfl, valV_pos rfl]
    rfl
  · rw [if_neg e, valV_neg (fun z => e (Sum.inr.inj z).symm)]
    rfl
theorem dOf_snoc (e0 : Int) (l : List (Str × Int)) (q : Str × Int) : dOf e0 (l ++ [q]) = putK (dOf e0 l) (.inr q.1) (.int q.2) := by
  unfold dOf
  rw [List.foldl_append]
  rfl
theorem dOf_len (e0 : Int) : ∀ l : List (Str × Int), (dOf e0 l).length ≤ l.length + 1 := by
  suffices h : ∀ (l : List (Str × Int)) (d : List (Key × V)), (l.foldl (fun acc q => putK acc (.inr q.1) (.int q.2)) d).length ≤ d.length + l.length by
    intro l
    have := h l [(.inr "", .int e0)]
    simp only [List.length_cons, List.length_nil] at this
    unfold dOf
    omega
  intro l
  induction l with
  | nil => intro d; exact Nat.le_refl _
  | cons q r ih =>
    intro d
    have h1 := ih (putK d (.inr q.1) (.int q.2))
    have h2 := length_putK d (.inr q.1) (.int q.2)
    show (r.foldl _ (putK d (.inr q.1) (.int q.2))).length ≤ d.length + (r.length + 1)
    omega
def lefts (fls : List Fl) (pls : List Pl) (r0 r1 high : Int) : List (Str × Int) := (wIdx fls pls true r0 r1 high).map fun i => ((gP pls i).nm, (gP pls i).x + (gP pls i).w)
def rights (fls : List Fl) (pls : List Pl) (r0 r1 high : Int) : List (Str × Int) := (wIdx fls pls false r0 r1 high).map fun i => ((gP pls i).nm, (gP pls i).x)
def lookL (fls : List Fl) (pls : List Pl) (r0 r1 high : Int) (n : Str) : Option Int := lookB (lefts fls pls r0 r1 high) (if n = "" then some 0 else none) n
def lookR (W : Int) (fls : List Fl) (pls : List Pl) (r0 r1 high : Int) (n : Str) : Option Int := lookB (rights fls pls r0 r1 high) (if n = "" then some W else none) n
def cantB (W : Int) (fls : List Fl) (pls : List Pl) (f : Fl) (r0 r1 : Int) (n0 n1 : Str) : Bool := match lookL fls pls r0 r1 f.h n0, lookR W fls pls r0 r1 f.h n1 with
  | some l, some r => decide (r - l < f.w)
  | _, _ => false
def spCant : Sp := fun vs H Q _ => ∃ (a b r m : Addr) (fa pa : List Addr) (fls : List Fl) (pls : List Pl) (W r0 r1 : Int) (n0 n1 : Str), vs = [.int W, .ref a, .ref b, .ref r, .ref m] ∧ FlAt H a fa fls ∧ PlAt H b pa pls ∧ H r = some (.tup [.int r0, .int r1]) ∧ H m = some (.tup [.str n0, .str n1]) ∧ pls.length < fls.length ∧
  ∀ H', Same H H' → Q (.bl (cantB W fls pls (gF fls pls.length) r0 r1 n0 n1)) H'
section
variable {P : Program} {w : World} {K : PySem.W.Frag} {mg : Str → Option Value} {base : Heap}
set_option maxHeartbeats 4000000 in
theorem ok_way {f f1 f2 : Addr} {fd d1 d2 : FuncData} (F : Fun K "in_the_way" "in_the_way" sWay f fd) (N : Names mg)
    (G1 : FnOk P w K mg base CX0 2 f1 d1 nTouching spTouching) (b1 : Binds K d1 nTouching []) (m1 : mg "touching" = some (.ref f1)) (k1 : PySem.W.keepIn K (.ref f1) = true)
    (G2 : FnOk P w K mg base CX0 1 f2 d2 ["placed", "row", "high"] spTou) (b2 : Binds K d2 ["placed", "row", "high"] []) (m2 : mg "touches" = some (.ref f2)) (k2 : PySem.W.keepIn K (.ref f2) = true) : FnOk P w K mg base CX0 3 f fd ["floats", "standing", "side", "rows", "high"] spWay := by
  refine F.ok scWay (fun vs H Q E h => ?_) (fun cdv A outer s H vs Q E hr h => ?_)
  · obtain ⟨a, b, r, fa, pa, fls, pls, sd, r0, r1, high, e, _⟩ := h
    rw [e]
    rfl
  · obtain ⟨a, b, r, fa, pa, fls, pls, sd, r0, r1, high, e, hF, hP, hr0, k⟩ := h
    subst e
    have hr1 := hr.mono (j := 1) (by decide)
    refine ⟨_, pss_cons (ps_set (i := 5) scWay.nd rfl (Or.inl rfl) (pe_call G1 hr rfl m1 k1 b1 .nil pass0 (pa_cons (pv 0) (pa_cons (pv 1) (pa_cons (pv 2) (pa_cons (pe_ix ix_tup (pv 3) pe_int (fun _ _ => rfl)) (pa_cons (pv 4) pa_nil)))))))
      (pss_one (ps_ret (pe_comp (compSc_mk (fs := defScope sWay) (N := ["floats", "standing", "side", "rows", "high", "found"]) rfl rfl (by decide +kernel)) rfl (pi_list (pv 5)) (fun _ _ _ _ _ => pts_one (pt_val (pe_call G2 hr1 (by rfl) m2 k2 b2 .nil pass0 (pa_cons (pv 0) (pa_cons (pe_ix (r := rIxT K) ix_tup (pv 4) pe_int (fun _ _ => rfl)) (pa_cons (pv 5) pa_nil)))))) (fun _ _ _ _ _ => pv 0)))), ?_⟩
    refine ⟨_, rfl, _, rfl, _, rfl, _, rfl, r, _, _, _, rfl, rfl, SqT.of hr0, atI_nat (j := 0) rfl, _, rfl, a, b, fa, pa, fls, pls, sd, r0, high, rfl, hF, hP, fun l H1 hl s1 h1 => ?_⟩
    refine ⟨_, rfl, l, rfl, ⟨_, SqL.of h1⟩, ?_⟩
    have hP1 := hP.same s1
    have lix : (tIdx fls pls sd r0 high).length ≤ 100 := by
      unfold tIdx
      refine Nat.le_trans (List.length_filter_le _ _) ?_
      rw [List.length_range]
      have := hP.2.2
      omega
    refine comp_listF (K := K) (a := l) (xs := (tIdx fls pls sd r0 high).map fun i => V.ref (pa.getD i 0)) (fun D i m H' => Same H1 H' ∧ H1 D = none ∧ H' D = some (.lst m) ∧ m = (((tIdx fls pls sd r0 high).take i).filter fun i => touB (gP pls i) r1 high).map fun i => V.ref (pa.getD i 0)) (small (by rw [List.length_map]; omega))
      (fun D hD => ⟨Same.put (Same.refl _) hD, hD, upd_same, rfl⟩) (fun D i m H' h => SqL.of (h.1 _ _ h1)) (fun D i m H' h => by rw [h.2.2.2, List.length_map]; exact Nat.le_trans (List.length_filter_le _ _) (by rw [List.length_take]; omega)) ?_ ?_
    · rintro D i x m H' Q1 hx ⟨s', hD, hm, rfl⟩ hq
      rw [List.getElem?_map] at hx
      cases ej : (tIdx fls pls sd r0 high)[i]? with
      | none => rw [ej] at hx; cases hx
      | some j =>
        rw [ej] at hx
        cases hx
        have mj := mem_tIdx.mp (List.mem_of_getElem? ej)
        have pj := ((hP1.same s').get mj.2.1).2
        have et : (tIdx fls pls sd r0 high).take (i + 1) = (tIdx fls pls sd r0 high).take i ++ [j] := by rw [List.take_add_one, ej]; rfl
        refine ⟨_, rfl, _, rfl, r, _, _, _, rfl, rfl, SqT.of ((Same.trans s1 s') _ _ hr0), atI_nat (j := 1) rfl, _, rfl, _, gP pls j, r1, high, rfl, pj, _, rfl, ?_⟩
        refine hq _ _ (fun hb => ⟨s', hD, hm, ?_⟩) fun hb Q' hq' => ?_
        · rw [et, List.filter_append, List.filter_cons_of_neg (by rw [hb]; decide), List.filter_nil, List.append_nil]
        · refine ⟨_, rfl, hq' _ _ hm ⟨Same.put s' hD, hD, upd_same, ?_⟩⟩
          rw [et, List.filter_append, List.filter_cons_of_pos (p := fun i => touB (gP pls i) r1 high) hb, List.filter_nil, List.map_append]
          rfl
    · rintro D m H' hD ⟨s', _, hm, rfl⟩
      rw [List.length_map, List.take_length] at hm
      exact k D H' (same_none s1 hD) (Same.trans s1 s') hm
end
end B68
namespace B68
open PySem L2 S2
theorem FlAt.get {H : Hp} {b : Addr} {pa : List Addr} {pls : List Fl} (h : FlAt H b pa pls) {i : Nat} (hi : i < pls.length) : pa[i]? = some (pa.getD i 0) ∧ H (pa.getD i 0) = some (.tup (flRow (gF pls i))) := by
  have hl : pa.length = pls.length := by rw [h.2.1.1, List.length_map]
  have e1 : pa[i]? = some (pa.getD i 0) := by
    rw [List.getD_eq_getElem?_getD, List.getElem?_eq_getElem (by omega)]
    rfl
  refine ⟨e1, h.2.1.2 i _ _ e1 ?_⟩
  rw [List.getElem?_map, List.getElem?_eq_getElem hi, gF_of (List.getElem?_eq_getElem hi)]
  rfl
section
variable {P : Program} {w : World} {K : PySem.W.Frag} {mg : Str → Option Value} {base : Heap}
theorem scCant : FnScope ["W", "floats", "standing", "rows", "names", "wide", "high", "lefts", "placed", "rights"] ["W", "floats", "standing", "rows", "names"] (defScope sCant) := ⟨rfl, rfl, rfl, by decide +kernel, rfl, by decide +kernel, by decide +kernel⟩
set_option maxHeartbeats 4000000 in
theorem ok_cant {f f1 f2 f3 : Addr} {fd d1 d2 d3 : FuncData} (F : Fun K "can_not_stand" "can_not_stand" sCant f fd) (N : Names mg)
    (G1 : FnOk P w K mg base CX0 3 f1 d1 ["floats", "standing", "side", "rows", "high"] spWay) (b1 : Binds K d1 ["floats", "standing", "side", "rows", "high"] []) (m1 : mg "in_the_way" = some (.ref f1)) (k1 : PySem.W.keepIn K (.ref f1) = true)
    (G2 : FnOk P w K mg base CX0 1 f2 d2 ["placed"] spREnd) (b2 : Binds K d2 ["placed"] []) (m2 : mg "right_end" = some (.ref f2)) (k2 : PySem.W.keepIn K (.ref f2) = true)
    (G3 : FnOk P w K mg base CX0 1 f3 d3 ["placed"] spLEnd) (b3 : Binds K d3 ["placed"] []) (m3 : mg "left_end" = some (.ref f3)) (k3 : PySem.W.keepIn K (.ref f3) = true) : FnOk P w K mg base CX0 4 f fd ["W", "floats", "standing", "rows", "names"] spCant := by
  refine F.ok scCant (fun vs H Q E h => ?_) (fun cdv A outer s H vs Q E hr h => ?_)
  · obtain ⟨a, b, r, m, fa, pa, fls, pls, W, r0, r1, n0, n1, e, _⟩ := h
    rw [e]
    rfl
  · obtain ⟨a, b, r, m, fa, pa, fls, pls, W, r0, r1, n0, n1, e, hF, hP, hr0, hm0, hlt, k⟩ := h
    subst e
    have hr1 := hr.mono (j := 1) (by decide)
    have hu : (A.deeper (PyProof.Rows.envOfC "can_not_stand" (defScope sCant) s.heap.objs.size f cdv)).units + 1 < cLine := by have := hr.units; omega
    refine ⟨_, pss_cons (ps_set (i := 5) scCant.nd rfl (Or.inl rfl) (pe_ix ix_tup (pe_ix ix_list (pv 1) (pe_callB call_len_seq (by rfl) N.len PySem.boot_len (pa_cons (pv 2) pa_nil)) (fun _ _ => rfl)) pe_int (fun _ _ => rfl)))
      (pss_cons (ps_set (i := 6) scCant.nd rfl (Or.inl rfl) (pe_ix ix_tup (pe_ix ix_list (pv 1) (pe_callB call_len_seq (by rfl) N.len PySem.boot_len (pa_cons (pv 2) pa_nil)) (fun _ _ => rfl)) pe_int (fun _ _ => rfl)))
      (pss_cons (ps_set (i := 7) scCant.nd rfl (Or.inl rfl) (pe_disp (pps_cons pe_str pe_int pps_nil) rfl rfl (by decide) (by decide)))
      (pss_cons (ps_for PassesOwn.never rfl (pi_list (pe_call G1 hr (by rfl) m1 k1 b1 .nil pass0 (pa_cons (pv 1) (pa_cons (pv 2) (pa_cons pe_str (pa_cons (pv 3) (pa_cons (pv 6) pa_nil))))))) (pg_name (i := 8) scCant.nd rfl (Or.inl rfl))
        (pss_one (ps_dput hu (pv 7) (pe_ix ix_tup (pv 8) pe_int (fun _ _ => rfl)) (pe_call G2 hr1 (by rfl) m2 k2 b2 .nil pass0 (pa_cons (pv 8) pa_nil)) rfl)))
      (pss_cons (ps_set (i := 9) scCant.nd rfl (Or.inl rfl) (pe_disp (pps_cons pe_str (pv 0) pps_nil) rfl rfl (by decide) (by decide)))
      (pss_cons (ps_for PassesOwn.never rfl (pi_list (pe_call G1 hr (by rfl) m1 k1 b1 .nil pass0 (pa_cons (pv 1) (pa_cons (pv 2) (pa_cons pe_str (pa_cons (pv 3) (pa_cons (pv 6) pa_nil))))))) (pg_name (i := 8) scCant.nd rfl (Or.inl rfl))
        (pss_one (ps_dput hu (pv 9) (pe_ix ix_tup (pv 8) pe_int (fun _ _ => rfl)) (pe_call G3 hr1 (by rfl) m3 k3 b3 .nil pass0 (pa_cons (pv 8) pa_nil)) rfl)))
      (pss_one (ps_ret (pe_and (pe_cmp (pc_din hu (pe_ix ix_tup (pv 4) pe_int (fun _ _ => rfl)) (pv 7))) (pe_and (pe_cmp (pc_din hu (pe_ix ix_tup (pv 4) pe_int (fun _ _ => rfl)) (pv 9)))
        (pe_one (pe_cmpR op_lt (pe_op op_sub (pe_dget hu (pv 9) (pe_ix ix_tup (pv 4) pe_int (fun _ _ => rfl)) (fun _ _ => rfl)) (pe_dget hu (pv 7) (pe_ix ix_tup (pv 4) pe_int (fun _ _ => rfl)) (fun _ _ => rfl))) (pv 5) (nomark _)))))))))))), ?_⟩
    have hFg := hF.get hlt
    have af : atI (fa.map V.ref) (((pa.map V.ref).length : Nat) : Int) = some (V.ref (fa.getD pls.length 0)) := by
      refine atI_of (j := pls.length) (by rw [List.length_map, hP.2.1.1, List.length_map]) ?_
      rw [List.getElem?_map, hFg.1]
      rfl
    refine ⟨_, rfl, _, rfl, b, _, rfl, .inl (SqL.of hP.1), a, _, _, _, rfl, rfl, SqL.of hF.1, af, _, _, _, _, rfl, rfl, SqT.of hFg.2, atI_nat (j := 2) rfl, ?_⟩
    refine ⟨_, rfl, _, rfl, b, _, rfl, .inl (SqL.of hP.1), a, _, _, _, rfl, rfl, SqL.of hF.1, af, _, _, _, _, rfl, rfl, SqT.of hFg.2, atI_nat (j := 3) rfl, ?_⟩
    -- lefts
    refine fun ld hld => ⟨upd_same, [(.inr "", .int 0)], rfl, by decide, ?_⟩
    have s1 : Same H (upd (upd H ld (.dK [])) ld (.dK (mergeK [] [(.inr "", .int 0)]))) := Same.put (Same.put (Same.refl _) hld) hld
    have h1 : (upd (upd H ld (.dK [])) ld (.dK (mergeK [] [(.inr "", .int 0)]))) ld = some (.dK (dOf 0 [])) := upd_same
    generalize upd (upd H ld (.dK [])) ld (.dK (mergeK [] [(.inr "", .int 0)])) = H1 at *
    have hF1 := hF.same s1
    have hP1 := hP.same s1
    have hr1' := s1 _ _ hr0
    have hwl : ∀ sd, (wIdx fls pls sd r0 r1 (gF fls pls.length).h).length ≤ 100 := fun sd => by
      unfold wIdx tIdx
      refine Nat.le_trans (List.length_filter_le _ _) (Nat.le_trans (List.length_filter_le _ _) ?_)
      rw [List.length_range]
      have := hP.2.2
      omega
    have hwp : ∀ sd j, j ∈ wIdx fls pls sd r0 r1 (gF fls pls.length).h → j < pls.length := fun sd j hj => by
      unfold wIdx at hj
      exact (mem_tIdx.mp (List.mem_filter.mp hj).1).2.1
    generalize hhi : (gF fls pls.length).h = high at *
    refine ⟨_, rfl, _, rfl, _, rfl, _, rfl, a, b, r, fa, pa, fls, pls, true, r0, r1, high, rfl, hF1, hP1, hr1', fun D H2 hD s2 h2 => ?_⟩
    have s02 := Same.trans s1 s2
    have h2d := s2 _ _ h1
    refine ⟨D, rfl, ⟨_, SqL.of h2⟩, for_list (K := K) (a := D) (xs := (wIdx fls pls true r0 r1 high).map fun i => V.ref (pa.getD i 0)) (fun i σ H9 => ∃ v8, σ = [some (.int W), some (.ref a), some (.ref b), some (.ref r), some (.ref m), some (.int (gF fls pls.length).w), some (.int high), some (.ref ld), v8, none] ∧ Same H H9 ∧ H9 D = some (.lst ((wIdx fls pls true r0 r1 high).map fun i => V.ref (pa.getD i 0))) ∧ H9 ld = some (.dK (dOf 0 ((lefts fls pls r0 r1 high).take i))))
      ⟨_, rfl, s02, h2, h2d⟩ (fun i σ H9 _ ⟨_, _, _, z, _⟩ => SqL.of z) ?_ ?_⟩
    · rintro i x σ H9 hx ⟨v8, rfl, s9, hD9, hl9⟩
      rw [List.getElem?_map] at hx
      cases ej : (wIdx fls pls true r0 r1 high)[i]? with
      | none => rw [ej] at hx; cases hx
      | some j =>
        rw [ej] at hx
        cases hx
        have pj := ((hP.same s9).get (hwp true j (List.mem_of_getElem? ej))).2
        have el : (lefts fls pls r0 r1 high)[i]? = some ((gP pls j).nm, (gP pls j).x + (gP pls j).w) := by
          unfold lefts
          rw [List.getElem?_map, ej]
          rfl
        have nD : D ≠ ld := fun z => by rw [z, hl9] at hD9; cases hD9
        refine ⟨_, rfl, _, gP pls j, rfl, pj, _, rfl, _, rfl, _, _, _, _, rfl, rfl, SqT.of pj, atI_nat (j := 0) rfl, ld, _, rfl, DPut.k (k := .inr (gP pls j).nm) hl9 (small (Nat.le_trans (dOf_len _ _) (by rw [List.length_take]; have := hwl true; have : (lefts fls pls r0 r1 high).length = (wIdx fls pls true r0 r1 high).length := List.length_map ..; omega))), ?_⟩
        refine (show ∃ v8, _ from ⟨_, rfl, Same.put s9 hld, ?_, ?_⟩)
        · rw [upd_ne nD]
          exact hD9
        · rw [upd_same, List.take_add_one, el]
          have := dOf_snoc 0 ((lefts fls pls r0 r1 high).take i) ((gP pls j).nm, (gP pls j).x + (gP pls j).w)
          show some (HO.dK (putK (dOf 0 ((lefts fls pls r0 r1 high).take i)) (.inr (gP pls j).nm) (.int ((gP pls j).x + (gP pls j).w)))) = some (HO.dK (dOf 0 ((lefts fls pls r0 r1 high).take i ++ [((gP pls j).nm, (gP pls j).x + (gP pls j).w)])))
          rw [this]
    rintro σ H3 ⟨v8, rfl, s3, _, hl3⟩
    have ell : ((wIdx fls pls true r0 r1 high).map fun i => V.ref (pa.getD i 0)).length = (lefts fls pls r0 r1 high).length := by
      unfold lefts
      rw [List.length_map, List.length_map]
    rw [ell, List.take_length] at hl3
    -- rights
    refine fun lr hlr => ⟨_, rfl, upd_same, [(.inr "", .int W)], rfl, (by show 1 ≤ 15; decide), ?_⟩
    have hlr0 : H lr = none := same_none s3 hlr
    have s4 : Same H3 (upd (upd H3 lr (.dK [])) lr (.dK (mergeK [] [(.inr "", .int W)]))) := Same.put (Same.put (Same.refl _) hlr) hlr
    have h4 : (upd (upd H3 lr (.dK [])) lr (.dK (mergeK [] [(.inr "", .int W)]))) lr = some (.dK (dOf W [])) := upd_same
    generalize upd (upd H3 lr (.dK [])) lr (.dK (mergeK [] [(.inr "", .int W)])) = H4 at *
    have s04 := Same.trans s3 s4
    refine ⟨_, rfl, _, rfl, _, rfl, _, rfl, a, b, r, fa, pa, fls, pls, false, r0, r1, high, rfl, hF.same s04, hP.same s04, s04 _ _ hr0, fun D2 H5 hD2 s5 h5 => ?_⟩
    have s05 := Same.trans s04 s5
    refine ⟨D2, rfl, ⟨_, SqL.of h5⟩, for_list (K := K) (a := D2) (xs := (wIdx fls pls false r0 r1 high).map fun i => V.ref (pa.getD i 0)) (fun i σ H9 => ∃ v8, σ = [some (.int W), some (.ref a), some (.ref b), some (.ref r), some (.ref m), some (.int (gF fls pls.length).w), some (.int high), some (.ref ld), v8, some (.ref lr)] ∧ Same H H9 ∧ H9 D2 = some (.lst ((wIdx fls pls false r0 r1 high).map fun i => V.ref (pa.getD i 0))) ∧ H9 lr = some (.dK (dOf W ((rights fls pls r0 r1 high).take i))) ∧ H9 ld = some (.dK (dOf 0 (lefts fls pls r0 r1 high))))
      ⟨_, rfl, s05, h5, s5 _ _ h4, s5 _ _ (s4 _ _ hl3)⟩ (fun i σ H9 _ ⟨_, _, _, z, _⟩ => SqL.of z) ?_ ?_⟩
    · rintro i x σ H9 hx ⟨v8, rfl, s9, hD9, hl9, hd9⟩
      rw [List.getElem?_map] at hx
      cases ej : (wIdx fls pls false r0 r1 high)[i]? with
      | none => rw [ej] at hx; cases hx
      | some j =>
        rw [ej] at hx
        cases hx
        have pj := ((hP.same s9).get (hwp false j (List.mem_of_getElem? ej))).2
        have el : (rights fls pls r0 r1 high)[i]? = some ((gP pls j).nm, (gP pls j).x) := by
          unfold rights
          rw [List.getElem?_map, ej]
          rfl
        have nD : D2 ≠ lr := fun z => by rw [z, hl9] at hD9; cases hD9
        have nd : ld ≠ lr := fun z => by rw [← z, hl3] at hlr; cases hlr
        refine ⟨_, rfl, _, gP pls j, rfl, pj, _, rfl, _, rfl, _, _, _, _, rfl, rfl, SqT.of pj, atI_nat (j := 0) rfl, lr, _, rfl, DPut.k (k := .inr (gP pls j).nm) hl9 (small (Nat.le_trans (dOf_len _ _) (by rw [List.length_take]; have := hwl false; have : (rights fls pls r0 r1 high).length = (wIdx fls pls false r0 r1 high).length := List.length_map ..; omega))), ?_⟩
        refine (show ∃ v8, _ from ⟨_, rfl, Same.put s9 hlr0, ?_, ?_, ?_⟩)
        · rw [upd_ne nD]
          exact hD9
        · rw [upd_same, List.take_add_one, el]
          have := dOf_snoc W ((rights fls pls r0 r1 high).take i) ((gP pls j).nm, (gP pls j).x)
          show some (HO.dK (putK (dOf W ((rights fls pls r0 r1 high).take i)) (.inr (gP pls j).nm) (.int (gP pls j).x))) = some (HO.dK (dOf W ((rights fls pls r0 r1 high).take i ++ [((gP pls j).nm, (gP pls j).x)])))
          rw [this]
        · rw [upd_ne nd]
          exact hd9
    rintro σ H6 ⟨v8, rfl, s6, _, hl6, hd6⟩
    have elr : ((wIdx fls pls false r0 r1 high).map fun i => V.ref (pa.getD i 0)).length = (rights fls pls r0 r1 high).length := by
      unfold rights
      rw [List.length_map, List.length_map]
    rw [elr, List.take_length] at hl6
    have hm6 := s6 _ _ hm0
    have kk := k H6 s6
    have eL : valV (dOf 0 (lefts fls pls r0 r1 high)) (.inr n0) = (lookL fls pls r0 r1 high n0).map V.int := look_dOf _ _ _
    have eR : valV (dOf W (rights fls pls r0 r1 high)) (.inr n1) = (lookR W fls pls r0 r1 high n1).map V.int := look_dOf _ _ _
    unfold cantB at kk
    rw [hhi] at kk
    refine ⟨_, rfl, m, _, _, _, rfl, rfl, SqT.of hm6, atI_nat (j := 0) rfl, _, rfl, ld, _, rfl, DGet.k (k := .inr n0) hd6, _, rfl, ?_⟩
    cases fL : lookL fls pls r0 r1 high n0 with
    | none =>
      rw [fL] at kk
      exact iteC (by rw [eL, fL]; rfl) kk
    | some l =>
      refine iteB (by rw [eL, fL]; rfl) ?_
      refine ⟨_, rfl, m, _, _, _, rfl, rfl, SqT.of hm6, atI_nat (j := 1) rfl, _, rfl, lr, _, rfl, DGet.k (k := .inr n1) hl6, _, rfl, ?_⟩
      cases fR : lookR W fls pls r0 r1 high n1 with
      | none =>
        rw [fL, fR] at kk
        exact iteC (by rw [eR, fR]; rfl) kk
      | some z =>
        rw [fL, fR] at kk
        rw [fL] at eL
        rw [fR] at eR
        refine iteB (by rw [eR]; rfl) ?_
        have gR : DGet H6 lr (.str n1) (some (.int z)) := by
          have := DGet.k (k := .inr n1) hl6
          rw [eR] at this
          exact this
        have gL : DGet H6 ld (.str n0) (some (.int l)) := by
          have := DGet.k (k := .inr n0) hd6
          rw [eL] at this
          exact this
        refine ⟨_, rfl, _, rfl, m, _, _, _, rfl, rfl, SqT.of hm6, atI_nat (j := 1) rfl, lr, _, rfl, gR, ?_⟩
        refine ⟨_, rfl, _, rfl, m, _, _, _, rfl, rfl, SqT.of hm6, atI_nat (j := 0) rfl, ld, _, rfl, gL, _, _, rfl, rfl, ?_⟩
        exact ⟨_, rfl, _, _, rfl, rfl, kk⟩
end
end B68
namespace B68
open PySem L2 S2
def papStep (W : Int) (fls : List Fl) (pls : List Pl) (f : Fl) (o : Option Int) (t : Tri) : Option Int := o.bind fun e => if (decide (e < t.1) && cantB W fls pls f e (t.1 - 1) t.2.1 t.2.2) = true then some t.1 else none
def papEnd (W : Int) (fls : List Fl) (pls : List Pl) (f : Fl) (row : Int) (ts : List Tri) : Option Int := ts.foldl (papStep W fls pls f) (some row)
theorem pap_none {W : Int} {fls : List Fl} {pls : List Pl} {f : Fl} : ∀ ts : List Tri, ts.foldl (papStep W fls pls f) none = none
  | [] => rfl
  | _ :: r => pap_none r
theorem pap_snoc {W : Int} {fls : List Fl} {pls : List Pl} {f : Fl} {row : Int} {ts : List Tri} {i : Nat} {t : Tri} (h : ts[i]? = some t) : papEnd W fls pls f row (ts.take (i + 1)) = papStep W fls pls f (papEnd W fls pls f row (ts.take i)) t := by
  unfold papEnd
  rw [List.take_add_one, h]
  exact List.foldl_append ..
theorem pap_stop {W : Int} {fls : List Fl} {pls : List Pl} {f : Fl} {row : Int} {ts : List Tri} {i : Nat} (h : papEnd W fls pls f row (ts.take i) = none) : papEnd W fls pls f row ts = none := by
  have e : ts = ts.take i ++ ts.drop i := (List.take_append_drop i ts).symm
  unfold papEnd at *
  rw [e, List.foldl_append, h]
  exact pap_none _
def standsB (W : Int) (fls : List Fl) (pls : List Pl) (f : Fl) (row : Int) (p : Pl) (ts : List Tri) : Bool := match papEnd W fls pls f row ts with
  | none => false
  | some e => if edR W fls pls e p.h - edL fls pls e p.h < p.w then false else decide (p.x = if f.lf = true then edL fls pls e p.h else edR W fls pls e p.h - p.w) && decide (p.y = e)
theorem all2 (a b : Bool) : ((List.range 2).all fun j => match j with | 0 => a | _ => b) = (a && b) := by
  cases a <;> cases b <;> rfl
def spStands : Sp := fun vs H Q _ => ∃ (a b c q : Addr) (fa pa ta : List Addr) (fls : List Fl) (pls : List Pl) (W row : Int) (p : Pl) (ts : List Tri), vs = [.int W, .ref a, .ref b, .int row, .ref c, .ref q] ∧ FlAt H a fa fls ∧ PlAt H b pa pls ∧ H c = some (.tup (plRow p)) ∧ H q = some (.lst (ta.map V.ref)) ∧ RowsOf H ta (ts.map triV) ∧ pls.length < fls.length ∧
  ∀ H', Same H H' → Q (.bl (standsB W fls pls (gF fls pls.length) row p ts)) H'
section
variable {P : Program} {w : World} {K : PySem.W.Frag} {mg : Str → Option Value} {base : Heap}
theorem scStands : FnScope ["W", "floats", "standing", "row", "placed", "paper", "till", "left", "right", "side", "edges"] ["W", "floats", "standing", "row", "placed", "paper"] (defScope sStands) := ⟨rfl, rfl, rfl, by decide +kernel, rfl, by decide +kernel, by decide +kernel⟩
set_option maxHeartbeats 4000000 in
theorem ok_stands {f f1 f2 f3 : Addr} {fd d1 d2 d3 : FuncData} (F : Fun K "stands" "stands" sStands f fd) (N : Names mg)
    (G1 : FnOk P w K mg base CX0 4 f1 d1 ["W", "floats", "standing", "rows", "names"] spCant) (b1 : Binds K d1 ["W", "floats", "standing", "rows", "names"] []) (m1 : mg "can_not_stand" = some (.ref f1)) (k1 : PySem.W.keepIn K (.ref f1) = true)
    (G2 : FnOk P w K mg base CX0 4 f2 d2 ["W", "floats", "standing", "row", "high"] spEdges) (b2 : Binds K d2 ["W", "floats", "standing", "row", "high"] []) (m2 : mg "edges_at" = some (.ref f2)) (k2 : PySem.W.keepIn K (.ref f2) = true)
    (G3 : FnOk P w K mg base CX0 1 f3 d3 ["side", "wide", "edges"] spAcross) (b3 : Binds K d3 ["side", "wide", "edges"] []) (m3 : mg "place_across" = some (.ref f3)) (k3 : PySem.W.keepIn K (.ref f3) = true) : FnOk P w K mg base CX0 5 f fd ["W", "floats", "standing", "row", "placed", "paper"] spStands := by
  refine F.ok scStands (fun vs H Q E h => ?_) (fun cdv A outer s H vs Q E hr h => ?_)
  · obtain ⟨a, b, c, q, fa, pa, ta, fls, pls, W, row, p, ts, e, _⟩ := h
    rw [e]
    rfl
  · obtain ⟨a, b, c, q, fa, pa, ta, fls, pls, W, row, p, ts, e, hF, hP, hc, hq, hR, hlt, k⟩ := h
    subst e
    have hr1 := hr.mono (j := 1) (by decide)
    have hu : (A.deeper (PyProof.Rows.envOfC "stands" (defScope sStands) s.heap.objs.size f cdv)).units + 20 < cLine := by have := hr.units; omega
    refine ⟨_, pss_cons (ps_for PassesOwn.never rfl (pi_list (pv 5)) (pg_tup rfl (pgs_cons (pg_name (i := 6) scStands.nd rfl (Or.inl rfl)) (pgs_cons (pg_name (i := 7) scStands.nd rfl (Or.inl rfl)) (pgs_cons (pg_name (i := 8) scStands.nd rfl (Or.inl rfl)) pgs_nil))))
        (pss_cons (ps_if (pt_not (pw_and (pt_cmpR op_lt (pv 3) (pv 6) (nomark _)) (pw_and1 (pt_val (pe_call G1 hr (by rfl) m1 k1 b1 .nil pass0 (pa_cons (pv 0) (pa_cons (pv 1) (pa_cons (pv 2) (pa_cons (pe_tup (pa_cons (pv 3) (pa_cons (pe_op op_sub (pv 6) pe_int) pa_nil))) (pa_cons (pe_tup (pa_cons (pv 7) (pa_cons (pv 8) pa_nil))) pa_nil))))))))).pt) (pss_one (ps_ret pe_bl)) pss_nil)
        (pss_one (ps_set (i := 3) scStands.nd rfl (Or.inl rfl) (pv 6)))))
      (pss_cons (ps_set (i := 9) scStands.nd rfl (Or.inl rfl) (pe_ix ix_tup (pe_ix ix_list (pv 1) (pe_callB call_len_seq (by rfl) N.len PySem.boot_len (pa_cons (pv 2) pa_nil)) (fun _ _ => rfl)) pe_int (fun _ _ => rfl)))
      (pss_cons (ps_set (i := 10) scStands.nd rfl (Or.inl rfl) (pe_call G2 hr (by rfl) m2 k2 b2 .nil pass0 (pa_cons (pv 0) (pa_cons (pv 1) (pa_cons (pv 2) (pa_cons (pv 3) (pa_cons (pe_ix ix_tup (pv 4) pe_int (fun _ _ => rfl)) pa_nil)))))))
      (pss_cons (ps_if (pt_cmpR op_lt (pe_op op_sub (pe_ix ix_tup (pv 10) pe_int (fun _ _ => rfl)) (pe_ix ix_tup (pv 10) pe_int (fun _ _ => rfl))) (pe_ix ix_tup (pv 4) pe_int (fun _ _ => rfl)) (nomark _)) (pss_one (ps_ret pe_bl)) pss_nil)
      (pss_one (ps_ret (pe_cmpR (op_eqDeep hu) (pe_tup (pa_cons (pe_ix ix_tup (pv 4) pe_int (fun _ _ => rfl)) (pa_cons (pe_ix ix_tup (pv 4) pe_int (fun _ _ => rfl)) pa_nil))) (pe_tup (pa_cons (pe_call G3 hr1 (by rfl) m3 k3 b3 .nil pass0 (pa_cons (pv 9) (pa_cons (pe_ix ix_tup (pv 4) pe_int (fun _ _ => rfl)) (pa_cons (pv 10) pa_nil)))) (pa_cons (pv 3) pa_nil))) (nomark _))))))), ?_⟩
    have hFg := hF.get hlt
    have af : atI (fa.map V.ref) (((pa.map V.ref).length : Nat) : Int) = some (V.ref (fa.getD pls.length 0)) := by
      refine atI_of (j := pls.length) (by rw [List.length_map, hP.2.1.1, List.length_map]) ?_
      rw [List.getElem?_map, hFg.1]
      rfl
    generalize hf : gF fls pls.length = g at *
    have lta : ta.length = ts.length := by rw [hR.1, List.length_map]
    refine ⟨_, rfl, q, rfl, ⟨_, SqL.of hq⟩, for_list (K := K) (a := q) (xs := ta.map V.ref) (fun i σ H9 => ∃ (e : Int) (v6 v7 v8 : Option V), σ = [some (.int W), some (.ref a), some (.ref b), some (.int e), some (.ref c), some (.ref q), v6, v7, v8, none, none] ∧ Same H H9 ∧ papEnd W fls pls g row (ts.take i) = some e)
      ⟨row, none, none, none, rfl, Same.refl _, rfl⟩ (fun i σ H9 _ ⟨_, _, _, _, _, z, _⟩ => SqL.of (z _ _ hq)) ?_ ?_⟩
    · rintro i x σ H9 hx ⟨e, v6, v7, v8, rfl, s9, he⟩
      obtain ⟨tp, rw0, rfl, ep, er, hp⟩ := (hR.same s9).get hx
      rw [List.getElem?_map] at er
      cases ef : ts[i]? with
      | none => rw [ef] at er; cases er
      | some t =>
        rw [ef] at er
        cases er
        have sn := pap_snoc (W := W) (fls := fls) (pls := pls) (f := g) (row := row) ef
        rw [he] at sn
        have stop : (decide (e < t.1) && cantB W fls pls g e (t.1 - 1) t.2.1 t.2.2) = false → ∀ H', Same H H' → Q (.bl false) H' := fun hz H' s' => by
          have hn : papEnd W fls pls g row ts = none := by
            refine pap_stop (i := i + 1) ?_
            rw [sn]
            show (if (decide (e < t.1) && cantB W fls pls g e (t.1 - 1) t.2.1 t.2.2) = true then some t.1 else none) = none
            rw [hz]
            rfl
          have := k H' s'
          unfold standsB at this
          rw [hn] at this
          exact this
        refine ⟨tp, _, rfl, SqT.of hp, rfl, _, _, rfl, _, _, rfl, _, _, rfl, rfl, ?_⟩
        refine ⟨_, rfl, _, rfl, _, _, rfl, rfl, _, rfl, ?_⟩
        by_cases hlt2 : e < t.1
        · refine iteB (decide_eq_true hlt2) ?_
          refine ⟨_, rfl, _, rfl, _, rfl, _, rfl, _, rfl, _, _, rfl, rfl, (by show 2 ≤ sizeLine; decide), fun t1 ht1 => ?_⟩
          have s10 : Same H9 (upd H9 t1 (.tup [.int e, .int (t.1 - 1)])) := Same.put (Same.refl _) ht1
          have h10 : (upd H9 t1 (.tup [.int e, .int (t.1 - 1)])) t1 = some (.tup [.int e, .int (t.1 - 1)]) := upd_same
          generalize upd H9 t1 (.tup [.int e, .int (t.1 - 1)]) = H10 at *
          refine ⟨_, rfl, _, rfl, (by show 2 ≤ sizeLine; decide), fun t2 ht2 => ?_⟩
          have s11 : Same H10 (upd H10 t2 (.tup [.str t.2.1, .str t.2.2])) := Same.put (Same.refl _) ht2
          have h11 : (upd H10 t2 (.tup [.str t.2.1, .str t.2.2])) t2 = some (.tup [.str t.2.1, .str t.2.2]) := upd_same
          generalize upd H10 t2 (.tup [.str t.2.1, .str t.2.2]) = H11 at *
          have S11 := Same.trans s9 (Same.trans s10 s11)
          refine ⟨a, b, t1, t2, fa, pa, fls, pls, W, e, t.1 - 1, t.2.1, t.2.2, rfl, hF.same S11, hP.same S11, s11 _ _ h10, h11, hlt, fun H12 s12 => ?_⟩
          rw [hf]
          have S12 := Same.trans S11 s12
          cases hcb : cantB W fls pls g e (t.1 - 1) t.2.1 t.2.2 with
          | false =>
            refine ⟨_, rfl, iteT ?_⟩
            exact stop (by rw [hcb, Bool.and_false]) H12 S12
          | true =>
            refine ⟨_, rfl, iteF ?_⟩
            refine ⟨_, rfl, ?_⟩
            refine (show ∃ e v6 v7 v8, _ from ⟨t.1, _, _, _, rfl, S12, ?_⟩)
            rw [sn]
            show (if (decide (e < t.1) && cantB W fls pls g e (t.1 - 1) t.2.1 t.2.2) = true then some t.1 else none) = some t.1
            rw [hcb, decide_eq_true hlt2]
            rfl
        · refine iteC (decide_eq_false hlt2) (iteT ?_)
          exact stop (by rw [decide_eq_false hlt2]; rfl) H9 s9
    rintro σ H1 ⟨e, v6, v7, v8, rfl, s1, he⟩
    rw [List.length_map, lta, List.take_length] at he
    have kk := fun H' s' => k H' s'
    unfold standsB at kk
    rw [he] at kk
    dsimp only at kk
    have hc1 := s1 _ _ hc
    refine ⟨_, rfl, _, rfl, b, _, rfl, .inl (SqL.of (s1 _ _ hP.1)), a, _, _, _, rfl, rfl, SqL.of (s1 _ _ hF.1), af, _, _, _, _, rfl, rfl, SqT.of (s1 _ _ hFg.2), atI_nat (j := 1) rfl, ?_⟩
    refine ⟨_, rfl, _, rfl, _, rfl, _, rfl, _, rfl, c, _, _, _, rfl, rfl, SqT.of hc1, atI_nat (j := 4) rfl, a, b, fa, pa, fls, pls, W, e, p.h, rfl, hF.same s1, hP.same s1, fun t H2 ht s2 h2 => ?_⟩
    have s02 := Same.trans s1 s2
    have hc2 := s02 _ _ hc
    generalize edR W fls pls e p.h = er at *
    generalize edL fls pls e p.h = el at *
    refine ⟨_, rfl, t, _, _, _, rfl, rfl, SqT.of h2, atI_nat (j := 1) rfl, _, rfl, t, _, _, _, rfl, rfl, SqT.of h2, atI_nat (j := 0) rfl, _, _, rfl, rfl, _, rfl, c, _, _, _, rfl, rfl, SqT.of hc2, atI_nat (j := 3) rfl, _, _, rfl, rfl, _, rfl, ?_⟩
    by_cases hw : er - el < p.w
    · refine iteB (decide_eq_true hw) ?_
      have := kk H2 s02
      rw [if_pos hw] at this
      exact this
    · refine iteC (decide_eq_false hw) ?_
      simp only [if_neg hw] at kk
      refine ⟨_, rfl, c, _, _, _, rfl, rfl, SqT.of hc2, atI_nat (j := 1) rfl, _, rfl, c, _, _, _, rfl, rfl, SqT.of hc2, atI_nat (j := 2) rfl, (by show 2 ≤ sizeLine; decide), fun t1 ht1 => ?_⟩
      have s3 : Same H2 (upd H2 t1 (.tup [.int p.x, .int p.y])) := Same.put (Same.refl _) ht1
      have h3 : (upd H2 t1 (.tup [.int p.x, .int p.y])) t1 = some (.tup [.int p.x, .int p.y]) := upd_same
      generalize upd H2 t1 (.tup [.int p.x, .int p.y]) = H3 at *
      refine ⟨_, rfl, _, rfl, c, _, _, _, rfl, rfl, SqT.of (s3 _ _ hc2), atI_nat (j := 3) rfl, _, rfl, t, g.lf, p.w, el, er, rfl, s3 _ _ h2, ?_⟩
      refine ⟨_, rfl, (by show 2 ≤ sizeLine; decide), fun t2 ht2 => ?_⟩
      generalize (if g.lf = true then el else er - p.w) = ax at *
      have s4 : Same H3 (upd H3 t2 (.tup [.int ax, .int e])) := Same.put (Same.refl _) ht2
      have h4 : (upd H3 t2 (.tup [.int ax, .int e])) t2 = some (.tup [.int ax, .int e]) := upd_same
      generalize upd H3 t2 (.tup [.int ax, .int e]) = H4 at *
      refine ⟨t1, t2, _, _, fun j => match j with | 0 => decide (p.x = ax) | _ => decide (p.y = e), rfl, rfl, .inr ⟨SqT.of (s4 _ _ h3), SqT.of h4⟩, rfl, (fun j x y e1 e2 => ?_), ?_⟩
      · match j, e1, e2 with
        | 0, e1, e2 =>
          cases e1
          cases e2
          exact EqD.flat rfl rfl
        | 1, e1, e2 =>
          cases e1
          cases e2
          exact EqD.flat rfl rfl
      · exact (congrArg (fun b => Q (V.bl b) H4) (all2 (decide (p.x = ax)) (decide (p.y = e)))).mpr (kk H4 (Same.trans s02 (Same.trans s3 s4)))
end
end B68
namespace B68
open PySem L2 S2
theorem cut_take (xs : List V) (i : Nat) (h : i ≤ xs.length) : cutV xs none (some (i : Int)) = xs.take i := by
  unfold cutV
  rw [HT.sIx_none, HT.sIx_nat, List.drop_zero, Nat.sub_zero, Nat.min_eq_left h]
theorem rows_take {H : Hp} {as : List Addr} {rows : List (List V)} (h : RowsOf H as rows) (i : Nat) : RowsOf H (as.take i) (rows.take i) := by
  refine ⟨by rw [List.length_take, List.length_take, h.1], fun j p r e1 e2 => ?_⟩
  rw [List.getElem?_take] at e1 e2
  split at e1
  · rename_i hj
    rw [if_pos hj] at e2
    exact h.2 j p r e1 e2
  · cases e1
def rowAt (pls : List Pl) : Nat → Int
  | 0 => 0
  | i + 1 => (gP pls i).y
def oneB (W : Int) (fls : List Fl) (pls : List Pl) (pps : List (List Tri)) (i : Nat) : Bool := plB (gP pls i) (gF fls i).nm (gF fls i).w (gF fls i).h && standsB W fls (pls.take i) (gF fls i) (rowAt pls i) (gP pls i) (pps.getD i [])
def stoodB (W : Int) (fls : List Fl) (pls : List Pl) (pps : List (List Tri)) : Bool := decide (pls.length = fls.length) && (decide (pps.length = fls.length) && (List.range fls.length).all (oneB W fls pls pps))
def spStood : Sp := fun vs H Q _ => ∃ (a b q : Addr) (fa pa qa : List Addr) (fls : List Fl) (pls : List Pl) (pps : List (List Tri)) (W : Int), vs = [.int W, .ref a, .ref b, .ref q] ∧ FlAt H a fa fls ∧ PlAt H b pa pls ∧ H q = some (.lst (qa.map V.ref)) ∧ PapsAt H qa pps ∧ (∀ ts ∈ pps, ts.length ≤ 100000) ∧
  ∀ H', Same H H' → Q (.bl (stoodB W fls pls pps)) H'
section
variable {P : Program} {w : World} {K : PySem.W.Frag} {mg : Str → Option Value} {base : Heap}
theorem scStood : FnScope ["W", "floats", "standing", "papers", "row", "number", "thing", "placed"] ["W", "floats", "standing", "papers"] (defScope sStood) := ⟨rfl, rfl, rfl, by decide +kernel, rfl, by decide +kernel, by decide +kernel⟩
set_option maxHeartbeats 4000000 in
theorem ok_stood {f f1 f2 f3 f4 : Addr} {fd d1 d2 d3 d4 : FuncData} (F : Fun K "stood" "stood" sStood f fd) (N : Names mg)
    (G1 : FnOk P w K mg base CX0 1 f1 d1 ["thing", "many"] spLstOf) (b1 : Binds K d1 ["thing", "many"] []) (m1 : mg "is_list_of" = some (.ref f1)) (k1 : PySem.W.keepIn K (.ref f1) = true)
    (G2 : FnOk P w K mg base CX0 2 f2 d2 ["thing", "name", "wide", "high"] spPlaced) (b2 : Binds K d2 ["thing", "name", "wide", "high"] []) (m2 : mg "is_placed" = some (.ref f2)) (k2 : PySem.W.keepIn K (.ref f2) = true)
    (G3 : FnOk P w K mg base CX0 3 f3 d3 ["thing"] spPaper) (b3 : Binds K d3 ["thing"] []) (m3 : mg "is_paper" = some (.ref f3)) (k3 : PySem.W.keepIn K (.ref f3) = true)
    (G4 : FnOk P w K mg base CX0 5 f4 d4 ["W", "floats", "standing", "row", "placed", "paper"] spStands) (b4 : Binds K d4 ["W", "floats", "standing", "row", "placed", "paper"] []) (m4 : mg "stands" = some (.ref f4)) (k4 : PySem.W.keepIn K (.ref f4) = true) : FnOk P w K mg base CX0 6 f fd ["W", "floats", "standing", "papers"] spStood := by
  refine F.ok scStood (fun vs H Q E h => ?_) (fun cdv A outer s H vs Q E hr h => ?_)
  · obtain ⟨a, b, q, fa, pa, qa, fls, pls, pps, W, e, _⟩ := h
    rw [e]
    rfl
  · obtain ⟨a, b, q, fa, pa, qa, fls, pls, pps, W, e, hF, hP, hq, hPp, hz, k⟩ := h
    subst e
    have hr1 := hr.mono (j := 1) (by decide)
    have hr2 := hr.mono (j := 2) (by decide)
    have hr3 := hr.mono (j := 3) (by decide)
    refine ⟨_, pss_cons (ps_if (pt_not (pw_and (pt_val (pe_call G1 hr1 (by rfl) m1 k1 b1 .nil pass0 (pa_cons (pv 2) (pa_cons (pe_callB call_len_seq (by rfl) N.len PySem.boot_len (pa_cons (pv 1) pa_nil)) pa_nil)))) (pw_and1 (pt_val (pe_call G1 hr1 (by rfl) m1 k1 b1 .nil pass0 (pa_cons (pv 3) (pa_cons (pe_callB call_len_seq (by rfl) N.len PySem.boot_len (pa_cons (pv 1) pa_nil)) pa_nil)))))).pt) (pss_one (ps_ret pe_bl)) pss_nil)
      (pss_cons (ps_set (i := 4) scStood.nd rfl (Or.inl rfl) pe_int)
      (pss_cons (ps_for PassesOwn.never rfl (pi_enL0 rfl N.enum (pa_cons (pv 1) pa_nil)) (pg_tup rfl (pgs_cons (pg_name (i := 5) scStood.nd rfl (Or.inl rfl)) (pgs_cons (pg_name (i := 6) scStood.nd rfl (Or.inl rfl)) pgs_nil)))
        (pss_cons (ps_set (i := 7) scStood.nd rfl (Or.inl rfl) (pe_ix ix_list (pv 2) (pv 5) (fun _ _ => rfl)))
        (pss_cons (ps_if (pt_not (pw_and (pt_val (pe_call G2 hr2 (by rfl) m2 k2 b2 .nil pass0 (pa_cons (pv 7) (pa_cons (pe_ix ix_tup (pv 6) pe_int (fun _ _ => rfl)) (pa_cons (pe_ix ix_tup (pv 6) pe_int (fun _ _ => rfl)) (pa_cons (pe_ix ix_tup (pv 6) pe_int (fun _ _ => rfl)) pa_nil)))))) (pw_and1 (pt_val (pe_call G3 hr3 (by rfl) m3 k3 b3 .nil pass0 (pa_cons (pe_ix ix_list (pv 3) (pv 5) (fun _ _ => rfl)) pa_nil))))).pt) (pss_one (ps_ret pe_bl)) pss_nil)
        (pss_cons (ps_if (pt_not (pt_val (pe_call G4 hr (by rfl) m4 k4 b4 .nil pass0 (pa_cons (pv 0) (pa_cons (pv 1) (pa_cons (pe_slice sl_list (pv 2) po_none (po_some (pv 5))) (pa_cons (pv 4) (pa_cons (pv 7) (pa_cons (pe_ix ix_list (pv 3) (pv 5) (fun _ _ => rfl)) pa_nil))))))))) (pss_one (ps_ret pe_bl)) pss_nil)
        (pss_one (ps_set (i := 4) scStood.nd rfl (Or.inl rfl) (pe_ix ix_tup (pv 7) pe_int (fun _ _ => rfl))))))))
      (pss_one (ps_ret pe_bl)))), ?_⟩
    have lfa : fa.length = fls.length := by rw [hF.2.1.1, List.length_map]
    have lpa : pa.length = pls.length := by rw [hP.2.1.1, List.length_map]
    have lqa : qa.length = pps.length := hPp.1
    refine ⟨_, rfl, _, rfl, a, _, rfl, .inl (SqL.of hF.1), b, _, _, rfl, hP.1, _, rfl, ?_⟩
    by_cases e1 : pls.length = fls.length
    · refine iteB (by rw [List.length_map, List.length_map, lpa, lfa, e1]; exact decide_eq_true rfl) ?_
      refine ⟨_, rfl, _, rfl, a, _, rfl, .inl (SqL.of hF.1), q, _, _, rfl, hq, _, rfl, ?_⟩
      by_cases e2 : pps.length = fls.length
      · refine iteC (by rw [List.length_map, List.length_map, lqa, lfa, e2, decide_eq_true rfl]; rfl) ?_
        refine ⟨_, rfl, a, rfl, ⟨_, SqL.of hF.1⟩, for_en (xs := fa.map V.ref) (fun i σ H9 => ∃ (v5 v6 v7 : Option V), σ = [some (.int W), some (.ref a), some (.ref b), some (.ref q), some (.int (rowAt pls i)), v5, v6, v7] ∧ Same H H9 ∧ ∀ j, j < i → oneB W fls pls pps j = true)
          ⟨none, none, none, rfl, Same.refl _, fun j hj => by omega⟩ (fun i σ H9 _ ⟨_, _, _, _, z, _⟩ => (SqL.of (z _ _ hF.1) : SqL K H9 a (fa.map V.ref))) ?_ ?_⟩
        · rintro i x p0 σ H9 hx hp0 ⟨v5, v6, v7, rfl, s9, hall⟩
          have hi : i < fls.length := by have := get_lt hx; rw [List.length_map] at this; omega
          have hip : i < pls.length := by omega
          have hiq : i < pps.length := by omega
          have stop : oneB W fls pls pps i = false → ∀ H', Same H H' → Q (.bl false) H' := fun hz H' s' => by
            have hn : (List.range fls.length).all (oneB W fls pls pps) = false := by
              rw [List.all_eq_false]
              exact ⟨i, List.mem_range.mpr hi, by rw [hz]; decide⟩
            have := k H' s'
            unfold stoodB at this
            rw [hn, Bool.and_false, Bool.and_false] at this
            exact this
          have fg := hF.get hi
          have ex : x = V.ref (fa.getD i 0) := by
            rw [List.getElem?_map, fg.1] at hx
            exact (Option.some.inj hx).symm
          subst ex
          have s10 : Same H9 (upd H9 p0 (.tup [.int (0 + (i : Int)), .ref (fa.getD i 0)])) := Same.put (Same.refl _) hp0
          have hp10 : (upd H9 p0 (.tup [.int (0 + (i : Int)), .ref (fa.getD i 0)])) p0 = some (.tup [.int (0 + (i : Int)), .ref (fa.getD i 0)]) := upd_same
          generalize upd H9 p0 (.tup [.int (0 + (i : Int)), .ref (fa.getD i 0)]) = H10 at *
          have S10 := Same.trans s9 s10
          have f10 := S10 _ _ fg.2
          have pg := (hP.same S10).get hip
          have eq' : qa[i]? = some (qa.getD i 0) := by
            rw [List.getD_eq_getElem?_getD, List.getElem?_eq_getElem (by omega)]
            rfl
          have ept : pps[i]? = some (pps.getD i []) := by
            rw [List.getD_eq_getElem?_getD, List.getElem?_eq_getElem hiq]
            rfl
          obtain ⟨ta, hta, hrt⟩ := (hPp.same S10).2 i _ _ eq' ept
          have hzt := hz _ (List.mem_of_getElem? ept)
          have ap : atI (pa.map V.ref) (0 + (i : Int)) = some (V.ref (pa.getD i 0)) := atI_of (j := i) (by omega) (by rw [List.getElem?_map, pg.1]; rfl)
          have aq : atI (qa.map V.ref) (0 + (i : Int)) = some (V.ref (qa.getD i 0)) := atI_of (j := i) (by omega) (by rw [List.getElem?_map, eq']; rfl)
          refine ⟨p0, _, rfl, SqT.of hp10, rfl, _, _, rfl, _, _, rfl, rfl, ?_⟩
          refine ⟨_, rfl, _, rfl, b, _, _, _, rfl, rfl, SqL.of (S10 _ _ hP.1), ap, ?_⟩
          refine ⟨_, rfl, _, rfl, _, _, _, _, rfl, rfl, SqT.of f10, atI_nat (j := 0) rfl, _, rfl, _, _, _, _, rfl, rfl, SqT.of f10, atI_nat (j := 2) rfl, _, rfl, _, _, _, _, rfl, rfl, SqT.of f10, atI_nat (j := 3) rfl, _, gP pls i, _, _, _, rfl, pg.2, fun H11 s11 => ?_⟩
          have S11 := Same.trans S10 s11
          refine ⟨_, rfl, ?_⟩
          cases hpl : plB (gP pls i) (gF fls i).nm (gF fls i).w (gF fls i).h with
          | false =>
            refine iteF (iteT ?_)
            exact stop (by unfold oneB; rw [hpl]; rfl) H11 S11
          | true =>
            refine iteT ?_
            refine ⟨_, rfl, _, rfl, q, _, _, _, rfl, rfl, SqL.of (S11 _ _ hq), aq, _, ta, pps.getD i [], rfl, s11 _ _ hta, hrt.same s11, hzt, fun H12 s12 => ⟨_, rfl, iteF ?_⟩⟩
            have S12 := Same.trans S11 s12
            refine ⟨_, rfl, _, rfl, _, rfl, _, rfl, _, rfl, b, _, rfl, SqL.of (S12 _ _ hP.1), fun lp hlp => ?_⟩
            have ecut : cutV (pa.map V.ref) none (some (0 + (i : Int))) = (pa.take i).map V.ref := by
              rw [show (0 + (i : Int)) = (i : Int) by omega, cut_take _ _ (by rw [List.length_map]; omega), List.map_take]
            rw [ecut]
            have s13 : Same H12 (upd H12 lp (.lst ((pa.take i).map V.ref))) := Same.put (Same.refl _) hlp
            have h13 : (upd H12 lp (.lst ((pa.take i).map V.ref))) lp = some (.lst ((pa.take i).map V.ref)) := upd_same
            generalize upd H12 lp (.lst ((pa.take i).map V.ref)) = H13 at *
            have S13 := Same.trans S12 s13
            have S1013 : Same H10 H13 := Same.trans s11 (Same.trans s12 s13)
            have hPi : PlAt H13 lp (pa.take i) (pls.take i) := ⟨h13, by rw [List.map_take]; exact rows_take (hP.same S13).2.1 i, by rw [List.length_take]; have := hP.2.2; omega⟩
            have lti : (pls.take i).length = i := by rw [List.length_take]; omega
            refine ⟨_, rfl, _, rfl, _, rfl, _, rfl, q, _, _, _, rfl, rfl, SqL.of (S13 _ _ hq), aq, a, lp, _, _, fa, pa.take i, ta, fls, pls.take i, W, rowAt pls i, gP pls i, pps.getD i [], rfl, hF.same S13, hPi, S1013 _ _ pg.2, S1013 _ _ hta, hrt.same S1013, by rw [lti]; exact hi, fun H14 s14 => ⟨_, rfl, ?_⟩⟩
            have S14 := Same.trans S13 s14
            rw [lti]
            cases hst : standsB W fls (pls.take i) (gF fls i) (rowAt pls i) (gP pls i) (pps.getD i []) with
            | false =>
              refine iteT ?_
              exact stop (by unfold oneB; rw [hst, Bool.and_false]) H14 S14
            | true =>
              refine iteF ?_
              refine ⟨_, rfl, _, _, _, _, rfl, rfl, SqT.of (Same.trans S1013 s14 _ _ pg.2), atI_nat (j := 2) rfl, ?_⟩
              refine (show ∃ v5 v6 v7, _ from ⟨_, _, _, rfl, S14, fun j hj => ?_⟩)
              by_cases ej : j = i
              · subst ej
                unfold oneB
                rw [hpl, hst]
                rfl
              · exact hall j (by omega)
        · rintro σ H9 ⟨v5, v6, v7, rfl, s9, hall⟩
          rw [List.length_map, lfa] at hall
          have := k H9 s9
          unfold stoodB at this
          rw [decide_eq_true e1, decide_eq_true e2, show (List.range fls.length).all (oneB W fls pls pps) = true from List.all_eq_true.mpr fun j hj => hall j (List.mem_range.mp hj)] at this
          exact this
      · refine iteB (by rw [List.length_map, List.length_map, lqa, lfa, decide_eq_false (show ¬ ((pps.length : Int) = (fls.length : Int)) by omega)]; rfl) ?_
        have := k H (Same.refl _)
        unfold stoodB at this
        rw [decide_eq_false e2, Bool.false_and, Bool.and_false] at this
        exact this
    · refine iteC (by rw [List.length_map, List.length_map, lpa, lfa]; exact decide_eq_false (fun z => e1 (Int.ofNat.inj z))) (iteT ?_)
      have := k H (Same.refl _)
      unfold stoodB at this
      rw [decide_eq_false e1, Bool.false_and] at this
      exact this
end
end B68
namespace B68
open PySem L2 S2
theorem look_not {n : Str} : ∀ {l : List (Str × Int)} {o : Option Int}, (∀ q ∈ l, q.1 ≠ n) → lookB l o n = o
  | [], _, _ => rfl
  | q :: r, o, h => by
    show lookB r (if n = q.1 then some q.2 else o) n = o
    rw [if_neg fun z => h q (List.mem_cons_self ..) z.symm]
    exact look_not fun q' hq => h q' (List.mem_cons_of_mem _ hq)
theorem look_mem {n : Str} {e : Int} : ∀ {l : List (Str × Int)} {o : Option Int}, ((n, e) ∈ l ∨ o = some e) → (∀ q ∈ l, q.1 = n → q.2 = e) → lookB l o n = some e
  | [], o, h, _ => by
    rcases h with h | h
    · cases h
    · exact h
  | q :: r, o, h, hq => by
    show lookB r (if n = q.1 then some q.2 else o) n = some e
    refine look_mem ?_ fun q' hq' => hq q' (List.mem_cons_of_mem _ hq')
    by_cases z : n = q.1
    · rw [if_pos z]
      exact .inr (congrArg some (hq q (List.mem_cons_self ..) z.symm))
    · rw [if_neg z]
      rcases h with h | h
      · rcases List.mem_cons.mp h with h | h
        · rw [← h] at z
          exact absurd rfl z
        · exact .inl h
      · exact .inr h
structure NmOk (pls : List Pl) : Prop where
  one : ∀ i j, i < pls.length → j < pls.length → (gP pls i).nm = (gP pls j).nm → i = j
  ne : ∀ i, i < pls.length → (gP pls i).nm ≠ ""
theorem wIdx_lt {fls : List Fl} {pls : List Pl} {sd : Bool} {r0 r1 high : Int} {j : Nat} (h : j ∈ wIdx fls pls sd r0 r1 high) : j < pls.length := by
  unfold wIdx at h
  exact (mem_tIdx.mp (List.mem_filter.mp h).1).2.1
theorem lookL_none {fls : List Fl} {pls : List Pl} {r0 r1 high : Int} (hN : NmOk pls) : lookL fls pls r0 r1 high "" = some 0 := by
  unfold lookL
  rw [if_pos rfl]
  refine look_not fun q hq => ?_
  unfold lefts at hq
  obtain ⟨j, hj, rfl⟩ := List.mem_map.mp hq
  exact hN.ne j (wIdx_lt hj)
theorem lookR_none {W : Int} {fls : List Fl} {pls : List Pl} {r0 r1 high : Int} (hN : NmOk pls) : lookR W fls pls r0 r1 high "" = some W := by
  unfold lookR
  rw [if_pos rfl]
  refine look_not fun q hq => ?_
  unfold rights at hq
  obtain ⟨j, hj, rfl⟩ := List.mem_map.mp hq
  exact hN.ne j (wIdx_lt hj)
theorem lookL_some {fls : List Fl} {pls : List Pl} {r0 r1 high : Int} {i : Nat} (hN : NmOk pls) (hi : i ∈ wIdx fls pls true r0 r1 high) : lookL fls pls r0 r1 high (gP pls i).nm = some ((gP pls i).x + (gP pls i).w) := by
  unfold lookL
  refine look_mem (.inl ?_) fun q hq e => ?_
  · unfold lefts
    exact List.mem_map.mpr ⟨i, hi, rfl⟩
  · unfold lefts at hq
    obtain ⟨j, hj, rfl⟩ := List.mem_map.mp hq
    rw [hN.one j i (wIdx_lt hj) (wIdx_lt hi) e]
theorem lookR_some {W : Int} {fls : List Fl} {pls : List Pl} {r0 r1 high : Int} {i : Nat} (hN : NmOk pls) (hi : i ∈ wIdx fls pls false r0 r1 high) : lookR W fls pls r0 r1 high (gP pls i).nm = some (gP pls i).x := by
  unfold lookR
  refine look_mem (.inl ?_) fun q hq e => ?_
  · unfold rights
    exact List.mem_map.mpr ⟨i, hi, rfl⟩
  · unfold rights at hq
    obtain ⟨j, hj, rfl⟩ := List.mem_map.mp hq
    rw [hN.one j i (wIdx_lt hj) (wIdx_lt hi) e]
theorem triRow_le {fls : List Fl} {pls : List Pl} {row h : Int} : (∀ i, nrL fls pls row h = some i → triRow pls (nrL fls pls row h) (nrR fls pls row h) ≤ endOf (gP pls i)) ∧ ∀ i, nrR fls pls row h = some i → triRow pls (nrL fls pls row h) (nrR fls pls row h) ≤ endOf (gP pls i) := by
  refine ⟨fun i e => ?_, fun i e => ?_⟩
  · rw [e]
    cases e2 : nrR fls pls row h with
    | none => exact Int.le_refl _
    | some j =>
      show (if endOf (gP pls j) < endOf (gP pls i) then endOf (gP pls j) else endOf (gP pls i)) ≤ _
      split <;> omega
  · rw [e]
    cases e2 : nrL fls pls row h with
    | none => exact Int.le_refl _
    | some j =>
      show (if endOf (gP pls i) < endOf (gP pls j) then endOf (gP pls i) else endOf (gP pls j)) ≤ _
      split <;> omega
theorem cant_of {W : Int} {fls : List Fl} {pls : List Pl} {f : Fl} {row : Int} (hN : NmOk pls) (hp : ∀ p ∈ pls, InW W row p) (hw : f.w ≤ W) (hh : 0 < f.h) (hf : edR W fls pls row f.h - edL fls pls row f.h < f.w) :
    cantB W fls pls f row (triRow pls (nrL fls pls row f.h) (nrR fls pls row f.h) - 1) (nmOf pls (nrL fls pls row f.h)) (nmOf pls (nrR fls pls row f.h)) = true := by
  have hT := (noFit hw hf).2.1
  have tl := triRow_le (fls := fls) (pls := pls) (row := row) (h := f.h)
  have L : lookL fls pls row (triRow pls (nrL fls pls row f.h) (nrR fls pls row f.h) - 1) f.h (nmOf pls (nrL fls pls row f.h)) = some (edL fls pls row f.h) := by
    cases e : nrL fls pls row f.h with
    | none =>
      have : edL fls pls row f.h = 0 := by unfold edL; rw [e]
      rw [this]
      exact lookL_none hN
    | some i =>
      have m := (bestR_some e).1
      have t1 := tl.1 i e
      rw [e] at t1 hT
      have : edL fls pls row f.h = (gP pls i).x + (gP pls i).w := by unfold edL; rw [e]
      rw [this]
      refine lookL_some hN ?_
      unfold wIdx
      refine List.mem_filter.mpr ⟨m, ?_⟩
      exact tou_on (hp _ (gP_mem (mem_tIdx.mp m).2.1)) (by omega) hh (by omega)
  have R : lookR W fls pls row (triRow pls (nrL fls pls row f.h) (nrR fls pls row f.h) - 1) f.h (nmOf pls (nrR fls pls row f.h)) = some (edR W fls pls row f.h) := by
    cases e : nrR fls pls row f.h with
    | none =>
      have : edR W fls pls row f.h = W := by unfold edR; rw [e]
      rw [this]
      exact lookR_none hN
    | some i =>
      have m := (bestL_some e).1
      have t1 := tl.2 i e
      rw [e] at t1 hT
      have : edR W fls pls row f.h = (gP pls i).x := by unfold edR; rw [e]
      rw [this]
      refine lookR_some hN ?_
      unfold wIdx
      refine List.mem_filter.mpr ⟨m, ?_⟩
      exact tou_on (hp _ (gP_mem (mem_tIdx.mp m).2.1)) (by omega) hh (by omega)
  unfold cantB
  rw [L, R]
  exact decide_eq_true hf
theorem pap_ok {W : Int} {fls : List Fl} {pls : List Pl} {f : Fl} (hN : NmOk pls) (hw : f.w ≤ W) (hh : 0 < f.h) : ∀ (n : Nat) (row : Int), (∀ p ∈ pls, InW W row p) → papEnd W fls pls f row (papF W fls pls f.w f.h n row).1 = some (papF W fls pls f.w f.h n row).2 := by
  intro n
  induction n with
  | zero => intro row _; rfl
  | succ n ih =>
    intro row hp
    by_cases hf : edR W fls pls row f.h - edL fls pls row f.h < f.w
    · have n2 := (noFit hw hf).2.1
      have e : papF W fls pls f.w f.h (n + 1) row = ((triRow pls (nrL fls pls row f.h) (nrR fls pls row f.h), nmOf pls (nrL fls pls row f.h), nmOf pls (nrR fls pls row f.h)) :: (papF W fls pls f.w f.h n (triRow pls (nrL fls pls row f.h) (nrR fls pls row f.h))).1, (papF W fls pls f.w f.h n (triRow pls (nrL fls pls row f.h) (nrR fls pls row f.h))).2) := by
        rw [papF, if_pos hf]
      rw [e]
      have q := ih (triRow pls (nrL fls pls row f.h) (nrR fls pls row f.h)) (fun p hm => (hp p hm).mono (by omega))
      have st : papStep W fls pls f (some row) (triRow pls (nrL fls pls row f.h) (nrR fls pls row f.h), nmOf pls (nrL fls pls row f.h), nmOf pls (nrR fls pls row f.h)) = some (triRow pls (nrL fls pls row f.h) (nrR fls pls row f.h)) := by
        show (if (decide (row < triRow pls (nrL fls pls row f.h) (nrR fls pls row f.h)) && cantB W fls pls f row (triRow pls (nrL fls pls row f.h) (nrR fls pls row f.h) - 1) (nmOf pls (nrL fls pls row f.h)) (nmOf pls (nrR fls pls row f.h))) = true then some (triRow pls (nrL fls pls row f.h) (nrR fls pls row f.h)) else none) = _
        rw [cant_of hN hp hw hh hf, decide_eq_true n2]
        rfl
      show List.foldl (papStep W fls pls f) (papStep W fls pls f (some row) _) _ = _
      rw [st]
      exact q
    · have e : papF W fls pls f.w f.h (n + 1) row = ([], row) := by rw [papF, if_neg hf]
      rw [e]
      rfl
end B68
namespace B68
open PySem L2 S2
theorem allP_get {W : Int} {fls : List Fl} : ∀ {n k : Nat}, k < n → (allF W fls n).2.getD k [] = (standF W fls (allF W fls k).1 (lastRow (allF W fls k).1)).2
  | 0, k, h => absurd h (Nat.not_lt_zero _)
  | n + 1, k, h => by
    have ln := (allF_len W fls n).2
    show ((allF W fls n).2 ++ [(standF W fls (allF W fls n).1 (lastRow (allF W fls n).1)).2]).getD k [] = _
    rw [List.getD_eq_getElem?_getD]
    by_cases e : k = n
    · subst e
      rw [List.getElem?_append_right (by omega), ln, Nat.sub_self]
      rfl
    · rw [List.getElem?_append_left (by omega), ← List.getD_eq_getElem?_getD]
      exact allP_get (by omega)
structure NmF (fls : List Fl) : Prop where
  one : ∀ i j, i < fls.length → j < fls.length → (gF fls i).nm = (gF fls j).nm → i = j
  ne : ∀ i, i < fls.length → (gF fls i).nm ≠ ""
theorem all_nm {W : Int} {fls : List Fl} {n k : Nat} (hk : k < n) : (gP (allF W fls n).1 k).nm = (gF fls k).nm := by
  rw [(allF_get hk).1]
  show (gF fls (allF W fls k).1.length).nm = _
  rw [(allF_len W fls k).1]
theorem NmF.pls {W : Int} {fls : List Fl} (h : NmF fls) {n : Nat} (hn : n ≤ fls.length) : NmOk (allF W fls n).1 := by
  have ln := (allF_len W fls n).1
  refine ⟨fun i j hi hj e => ?_, fun i hi => ?_⟩
  · rw [ln] at hi hj
    rw [all_nm hi, all_nm hj] at e
    exact h.one i j (by omega) (by omega) e
  · rw [ln] at hi
    rw [all_nm hi]
    exact h.ne i (by omega)
theorem rowAt_all {W : Int} {fls : List Fl} {n k : Nat} (hk : k < n) : rowAt (allF W fls n).1 k = lastRow (allF W fls k).1 := by
  cases k with
  | zero => rfl
  | succ k =>
    show (gP (allF W fls n).1 k).y = lastRow ((allF W fls k).1 ++ [_])
    rw [lastRow_snoc, (allF_get (by omega : k < n)).1]
theorem one_ok {W : Int} {fls : List Fl} (hF : FlsOk W fls) (hN : NmF fls) {k : Nat} (hk : k < fls.length) : oneB W fls (allF W fls fls.length).1 (allF W fls fls.length).2 k = true := by
  obtain ⟨f1, f2, f3⟩ := hF _ (gF_mem' hk)
  have lk := (allF_len W fls k).1
  obtain ⟨q0, q1⟩ := allF_ok hF k (by omega)
  have st := standF_ok (row := lastRow (allF W fls k).1) hF (by rw [lk]; exact hk) q1
  have pe := pap_ok (W := W) (fls := fls) (f := gF fls k) (hN.pls (W := W) (n := k) (by omega)) f2 f3 (cntF (lastRow (allF W fls k).1) (allF W fls k).1) (lastRow (allF W fls k).1) q1
  unfold oneB
  rw [rowAt_all hk, allP_get hk, (allF_get hk).1, (allF_get hk).2]
  have e2 : (standF W fls (allF W fls k).1 (lastRow (allF W fls k).1)).2 = (papF W fls (allF W fls k).1 (gF fls k).w (gF fls k).h (cntF (lastRow (allF W fls k).1) (allF W fls k).1) (lastRow (allF W fls k).1)).1 := by
    unfold standF
    rw [lk]
  have ey : (standF W fls (allF W fls k).1 (lastRow (allF W fls k).1)).1.y = (papF W fls (allF W fls k).1 (gF fls k).w (gF fls k).h (cntF (lastRow (allF W fls k).1) (allF W fls k).1) (lastRow (allF W fls k).1)).2 := by
    unfold standF
    rw [lk]
  rw [← e2, ← ey] at pe
  have hnm := st.nm
  have hw := st.w
  have hh := st.h
  have hx := st.x
  have hfit := st.fit
  rw [lk] at hnm hw hh hx hfit
  generalize (standF W fls (allF W fls k).1 (lastRow (allF W fls k).1)).1 = s at *
  unfold standsB plB
  rw [pe]
  dsimp only
  rw [hh, hw, if_neg (by omega), hnm, hx]
  simp
theorem stood_yes {W : Int} {fls : List Fl} (hF : FlsOk W fls) (hN : NmF fls) : stoodB W fls (allF W fls fls.length).1 (allF W fls fls.length).2 = true := by
  unfold stoodB
  rw [decide_eq_true (allF_len W fls fls.length).1, decide_eq_true (allF_len W fls fls.length).2, List.all_eq_true.mpr fun k hk => one_ok hF hN (List.mem_range.mp hk)]
  rfl
theorem stood_no {W : Int} {fls : List Fl} {pls : List Pl} {pps : List (List Tri)} {i : Nat} (hi : i < fls.length) (h : oneB W fls pls pps i = false) : stoodB W fls pls pps = false := by
  unfold stoodB
  rw [List.all_eq_false.mpr ⟨i, List.mem_range.mpr hi, by rw [h]; decide⟩, Bool.and_false, Bool.and_false]
theorem stood_short {W : Int} {fls : List Fl} {pls : List Pl} {pps : List (List Tri)} (h : pps.length ≠ fls.length) : stoodB W fls pls pps = false := by
  unfold stoodB
  rw [decide_eq_false h, Bool.false_and, Bool.and_false]
theorem stood_swap {W : Int} {fls : List Fl} {pls : List Pl} {pps : List (List Tri)} {i : Nat} (hi : i < fls.length) (h : (gP pls i).nm ≠ (gF fls i).nm) : stoodB W fls pls pps = false := by
  refine stood_no hi ?_
  unfold oneB plB
  rw [decide_eq_false h]
  rfl
theorem pap_none_fit {W : Int} {fls : List Fl} {pls : List Pl} {w h row : Int} : ∀ {n : Nat}, (papF W fls pls w h n row).1 ≠ [] → edR W fls pls row h - edL fls pls row h < w
  | 0, z => absurd rfl z
  | n + 1, z => by
    by_cases hf : edR W fls pls row h - edL fls pls row h < w
    · exact hf
    · rw [papF, if_neg hf] at z
      exact absurd rfl z
theorem stood_empty {W : Int} {fls : List Fl} (hF : FlsOk W fls) {k : Nat} (hk : k < fls.length) {pps : List (List Tri)} (h1 : pps.getD k [] = []) (h2 : (allF W fls fls.length).2.getD k [] ≠ []) : stoodB W fls (allF W fls fls.length).1 pps = false := by
  refine stood_no hk ?_
  have lk := (allF_len W fls k).1
  rw [allP_get hk] at h2
  have hf := pap_none_fit h2
  rw [lk] at hf
  unfold oneB standsB
  rw [h1, rowAt_all hk, (allF_get hk).2]
  show (_ && if edR W fls (allF W fls k).1 (lastRow (allF W fls k).1) (gP (allF W fls fls.length).1 k).h - edL fls (allF W fls k).1 (lastRow (allF W fls k).1) (gP (allF W fls fls.length).1 k).h < (gP (allF W fls fls.length).1 k).w then false else _) = false
  have eh : (gP (allF W fls fls.length).1 k).h = (gF fls k).h := by
    rw [(allF_get hk).1]
    show (gF fls (allF W fls k).1.length).h = _
    rw [lk]
  have ew : (gP (allF W fls fls.length).1 k).w = (gF fls k).w := by
    rw [(allF_get hk).1]
    show (gF fls (allF W fls k).1.length).w = _
    rw [lk]
  rw [eh, ew, if_pos hf, Bool.and_false]
end B68
namespace B68
open PySem L2 S2
theorem scStand : FnScope ["W", "floats", "standing", "row", "thing", "wide", "high", "paper", "edges"] ["W", "floats", "standing", "row"] (defScope sStand) := ⟨rfl, rfl, rfl, by decide +kernel, rfl, by decide +kernel, by decide +kernel⟩
theorem papF_fit {W : Int} {fls : List Fl} {pls : List Pl} {w h : Int} {n : Nat} {row : Int} (hf : ¬ (edR W fls pls row h - edL fls pls row h < w)) : papF W fls pls w h n row = ([], row) := by
  cases n with
  | zero => rfl
  | succ n => unfold papF; rw [if_neg hf]
theorem papF_no {W : Int} {fls : List Fl} {pls : List Pl} {w h : Int} {n : Nat} {row : Int} (hf : edR W fls pls row h - edL fls pls row h < w) :
    papF W fls pls w h (n + 1) row = ((triRow pls (nrL fls pls row h) (nrR fls pls row h), nmOf pls (nrL fls pls row h), nmOf pls (nrR fls pls row h)) :: (papF W fls pls w h n (triRow pls (nrL fls pls row h) (nrR fls pls row h))).1,
        (papF W fls pls w h n (triRow pls (nrL fls pls row h) (nrR fls pls row h))).2) := by
  rw [papF, if_pos hf]
section
variable {P : Program} {w : World} {K : PySem.W.Frag} {mg : Str → Option Value} {base : Heap}
set_option maxHeartbeats 4000000 in
theorem ok_stand {f f1 f2 f3 f4 : Addr} {fd d1 d2 d3 d4 : FuncData} (F : Fun K "stand_float" "stand_float" sStand f fd) (N : Names mg)
    (G1 : FnOk P w K mg base CX0 4 f1 d1 ["W", "floats", "standing", "row", "high"] spEdges) (b1 : Binds K d1 ["W", "floats", "standing", "row", "high"] []) (m1 : mg "edges_at" = some (.ref f1)) (k1 : PySem.W.keepIn K (.ref f1) = true)
    (G2 : FnOk P w K mg base CX0 3 f2 d2 ["floats", "standing", "row", "high"] spNear) (b2 : Binds K d2 ["floats", "standing", "row", "high"] []) (m2 : mg "nearest" = some (.ref f2)) (k2 : PySem.W.keepIn K (.ref f2) = true)
    (G3 : FnOk P w K mg base CX0 1 f3 d3 ["near"] spTriple) (b3 : Binds K d3 ["near"] []) (m3 : mg "triple_of" = some (.ref f3)) (k3 : PySem.W.keepIn K (.ref f3) = true)
    (G4 : FnOk P w K mg base CX0 1 f4 d4 ["side", "wide", "edges"] spAcross) (b4 : Binds K d4 ["side", "wide", "edges"] []) (m4 : mg "place_across" = some (.ref f4)) (k4 : PySem.W.keepIn K (.ref f4) = true) :
    FnOk P w K mg base CX0 5 f fd ["W", "floats", "standing", "row"] spStand := by
  refine F.ok scStand (fun vs H Q E h => ?_) (fun cdv A outer s H vs Q E hr h => ?_)
  · obtain ⟨a, b, fa, pa, fls, pls, W, row, e, _⟩ := h
    rw [e]
    rfl
  · obtain ⟨a, b, fa, pa, fls, pls, W, row, e, hF, hP, hlt, hw, k⟩ := h
    subst e
    have hr3 := hr.mono (j := 3) (by decide)
    have hr1 := hr.mono (j := 1) (by decide)
    have lp : pa.length = pls.length := by rw [hP.2.1.1, List.length_map]
    refine ⟨_, pss_cons (ps_set (i := 4) scStand.nd rfl (Or.inl rfl) (pe_ix ix_list (pv 1) (pe_callB call_len_seq (by rfl) N.len PySem.boot_len (pa_cons (pv 2) pa_nil)) (fun _ _ => rfl)))
      (pss_cons (ps_set (i := 5) scStand.nd rfl (Or.inl rfl) (pe_ix ix_tup (pv 4) pe_int (fun _ _ => rfl)))
      (pss_cons (ps_set (i := 6) scStand.nd rfl (Or.inl rfl) (pe_ix ix_tup (pv 4) pe_int (fun _ _ => rfl)))
      (pss_cons (ps_set (i := 7) scStand.nd rfl (Or.inl rfl) (pe_lst pa_nil))
      (pss_cons (ps_set (i := 8) scStand.nd rfl (Or.inl rfl) (pe_call G1 hr rfl m1 k1 b1 .nil pass0 (pa_cons (pv 0) (pa_cons (pv 1) (pa_cons (pv 2) (pa_cons (pv 3) (pa_cons (pv 6) pa_nil)))))))
      (pss_cons (ps_while PassesOwn.never (pt_cmpR op_lt (pe_op op_sub (pe_ix ix_tup (pv 8) pe_int (fun _ _ => rfl)) (pe_ix ix_tup (pv 8) pe_int (fun _ _ => rfl))) (pv 5) (nomark _))
        (pss_cons (ps_expr (pe_bm PySem.F.plainAttrs_list PySem.F.slot_list_append PySem.F.type_list_append mt_append (pv 7) (pa_cons (pe_call G3 hr1 rfl m3 k3 b3 .nil pass0 (pa_cons (pe_call G2 hr3 rfl m2 k2 b2 .nil pass0 (pa_cons (pv 1) (pa_cons (pv 2) (pa_cons (pv 3) (pa_cons (pv 6) pa_nil))))) pa_nil)) pa_nil)))
        (pss_cons (ps_set (i := 3) scStand.nd rfl (Or.inl rfl) (pe_ix ix_tup (pe_ix ix_list (pv 7) (pe_un un_neg pe_int) (fun _ _ => rfl)) pe_int (fun _ _ => rfl)))
        (pss_one (ps_set (i := 8) scStand.nd rfl (Or.inl rfl) (pe_call G1 hr rfl m1 k1 b1 .nil pass0 (pa_cons (pv 0) (pa_cons (pv 1) (pa_cons (pv 2) (pa_cons (pv 3) (pa_cons (pv 6) pa_nil)))))))))))
      (pss_one (ps_ret (pe_tup (pa_cons (pe_tup (pa_cons (pe_ix ix_tup (pv 4) pe_int (fun _ _ => rfl)) (pa_cons (pe_call G4 hr1 rfl m4 k4 b4 .nil pass0 (pa_cons (pe_ix ix_tup (pv 4) pe_int (fun _ _ => rfl)) (pa_cons (pv 5) (pa_cons (pv 8) pa_nil)))) (pa_cons (pv 3) (pa_cons (pv 5) (pa_cons (pv 6) pa_nil)))))) (pa_cons (pv 7) pa_nil)))))))))), ?_⟩
    obtain ⟨ef, hft⟩ := hF.get hlt
    refine ⟨_, rfl, _, rfl, b, _, rfl, .inl (SqL.of hP.1), a, _, _, _, rfl, rfl, SqL.of hF.1, atI_of (j := pls.length) (by rw [List.length_map, lp]) (by rw [List.getElem?_map, ef]; rfl), ?_⟩
    generalize hfl : gF fls pls.length = fl at *
    generalize fa.getD pls.length 0 = g at *
    refine ⟨_, rfl, g, _, _, _, rfl, rfl, SqT.of hft, atI_nat (j := 2) rfl, ?_⟩
    refine ⟨_, rfl, g, _, _, _, rfl, rfl, SqT.of hft, atI_nat (j := 3) rfl, ?_⟩
    refine ⟨smallE (by simp), fun l hl => ?_⟩
    have s1 : Same H (upd H l (.lst [])) := Same.put (Same.refl H) hl
    have h1 : (upd H l (.lst [])) l = some (.lst []) := upd_same
    generalize upd H l (.lst []) = H1 at *
    refine ⟨_, rfl, _, rfl, _, rfl, _, rfl, _, rfl, a, b, fa, pa, fls, pls, W, row, fl.h, rfl, hF.same s1, hP.same s1, fun e0 H2 he0 s2 h2 => ?_⟩
    have s12 := Same.trans s1 s2
    have hl2 := s2 _ _ h1
    generalize hq0 : papF W fls pls fl.w fl.h (cntF row pls) row = q0 at *
    have eS1 : (standF W fls pls row).1 = ⟨fl.nm, if fl.lf = true then edL fls pls q0.2 fl.h else edR W fls pls q0.2 fl.h - fl.w, q0.2, fl.w, fl.h⟩ := by
      unfold standF
      rw [hfl, hq0]
    have eS2 : (standF W fls pls row).2 = q0.1 := by
      unfold standF
      rw [hfl, hq0]
    refine ⟨fun m' σ H3 => ∃ (r : Int) (e : Addr) (ts : List Tri) (ta : List Addr), σ = [some (.int W), some (.ref a), some (.ref b), some (.int r), some (.ref g), some (.int fl.w), some (.int fl.h), some (.ref l), some (.ref e)] ∧ Same H H3 ∧ H3 e = some (.tup [.int (edL fls pls r fl.h), .int (edR W fls pls r fl.h)]) ∧
      H3 l = some (.lst (ta.map V.ref)) ∧ RowsOf H3 ta (ts.map triV) ∧ cntF r pls ≤ m' ∧ ts ++ (papF W fls pls fl.w fl.h m' r).1 = q0.1 ∧ (papF W fls pls fl.w fl.h m' r).2 = q0.2 ∧ ts.length + m' ≤ cntF row pls,
      ⟨cntF row pls, row, e0, [], [], rfl, s12, h2, hl2, RowsOf.nil, Nat.le_refl _, by rw [hq0]; rfl, by rw [hq0], by simp⟩, ?_⟩
    rintro m' σ H3 ⟨r, e, ts, ta, rfl, s3, he, hl3, hta, hbot, hts, hfin, hlen⟩
    refine ⟨_, rfl, e, _, _, _, rfl, rfl, SqT.of he, atI_nat (j := 1) rfl, _, rfl, e, _, _, _, rfl, rfl, SqT.of he, atI_nat (j := 0) rfl, _, _, rfl, rfl, _, rfl, _, _, rfl, rfl, _, rfl, ?_⟩
    have lta : ta.length = ts.length := by rw [hta.1, List.length_map]
    refine ite2 (fun hc => ?_) (fun hc => ?_)
    · have hc' : edR W fls pls r fl.h - edL fls pls r fl.h < fl.w := of_decide_eq_true hc
      obtain ⟨nn, rlt, rbot⟩ := noFit hw hc'
      have cl := cntF_le row pls
      have pl100 := hP.2.2
      cases m' with
      | zero => exact absurd hbot (by omega)
      | succ n =>
        rw [papF_no hc'] at hts hfin
        refine ⟨fun σ' H' => ∃ (e : Addr) (ta' : List Addr), σ' = [some (.int W), some (.ref a), some (.ref b), some (.int (triRow pls (nrL fls pls r fl.h) (nrR fls pls r fl.h))), some (.ref g), some (.int fl.w), some (.int fl.h), some (.ref l), some (.ref e)] ∧ Same H H' ∧
            H' e = some (.tup [.int (edL fls pls (triRow pls (nrL fls pls r fl.h) (nrR fls pls r fl.h)) fl.h), .int (edR W fls pls (triRow pls (nrL fls pls r fl.h) (nrR fls pls r fl.h)) fl.h)]) ∧
            H' l = some (.lst (ta'.map V.ref)) ∧ RowsOf H' ta' ((ts ++ [(triRow pls (nrL fls pls r fl.h) (nrR fls pls r fl.h), nmOf pls (nrL fls pls r fl.h), nmOf pls (nrR fls pls r fl.h))]).map triV),
          fun σ' H' ⟨e, ta', z1, z2, z3, z4, z5⟩ => ⟨n, Nat.lt_succ_self n, _, e, _, ta', z1, z2, z3, z4, z5, by omega, by rw [List.append_assoc]; exact hts, hfin, by rw [List.length_append, List.length_singleton]; omega⟩, ?_⟩
        refine ⟨_, rfl, .inl ⟨rfl, _, SqL.of hl3⟩, _, rfl, _, rfl, _, rfl, _, rfl, a, b, fa, pa, fls, pls, r, fl.h, rfl, hF.same s3, hP.same s3, fun n1 H4 hn1 s4 h4 => ?_⟩
        have s34 := Same.trans s3 s4
        refine ⟨n1, b, pa, pls, _, _, rfl, hP.same s34, h4, fun k e => nrL_lt e, fun k e => nrR_lt e, nn, fun t H5 ht s5 h5 => ?_⟩
        have s35 := Same.trans s34 s5
        have hl5 := s5 _ _ (s4 _ _ hl3)
        have hta5 := hta.same (Same.trans s4 s5)
        refine ⟨l, _, _, rfl, rfl, hl5, small (by rw [List.length_map, lta]; omega), ?_⟩
        have ep : (ta.map V.ref) ++ [V.ref t] = (ta ++ [t]).map V.ref := by rw [List.map_append]; rfl
        rw [ep]
        have nlt : t ≠ l := ne_of h5 hl5 (by intro z; cases z)
        have s6 : Same H (upd H5 l (.lst ((ta ++ [t]).map V.ref))) := Same.put s35 hl
        have l6 : (upd H5 l (.lst ((ta ++ [t]).map V.ref))) l = some (.lst ((ta ++ [t]).map V.ref)) := upd_same
        have t6 : (upd H5 l (.lst ((ta ++ [t]).map V.ref))) t = some (.tup (triV (triRow pls (nrL fls pls r fl.h) (nrR fls pls r fl.h), nmOf pls (nrL fls pls r fl.h), nmOf pls (nrR fls pls r fl.h)))) := by rw [upd_ne nlt]; exact h5
        have r6 : RowsOf (upd H5 l (.lst ((ta ++ [t]).map V.ref))) (ta ++ [t]) ((ts ++ [(triRow pls (nrL fls pls r fl.h) (nrR fls pls r fl.h), nmOf pls (nrL fls pls r fl.h), nmOf pls (nrR fls pls r fl.h))]).map triV) := by
          have em : ∀ x : Tri, (ts ++ [x]).map triV = ts.map triV ++ [triV x] := fun x => by rw [List.map_append]; rfl
          rw [em]
          exact RowsOf.snoc (hta5.updL hl5) (Same.refl _) t6
        generalize upd H5 l (.lst ((ta ++ [t]).map V.ref)) = H6 at *
        refine ⟨_, rfl, _, rfl, l, _, _, _, rfl, rfl, SqL.of l6, ?_, t, _, _, _, rfl, rfl, SqT.of t6, atI_nat (j := 0) rfl, ?_⟩
        · rw [← ep]
          exact atI_last _ _
        refine ⟨_, rfl, _, rfl, _, rfl, _, rfl, _, rfl, a, b, fa, pa, fls, pls, W, _, fl.h, rfl, hF.same s6, hP.same s6, fun e7 H7 he7 s7 h7 => ?_⟩
        exact ⟨e7, ta ++ [t], rfl, Same.trans s6 s7, h7, s7 _ _ l6, r6.same s7⟩
    · have hc' : ¬ (edR W fls pls r fl.h - edL fls pls r fl.h < fl.w) := fun z => hc (decide_eq_true z)
      rw [papF_fit hc'] at hts hfin
      dsimp only at hts hfin
      rw [List.append_nil] at hts
      have hft3 := s3 _ _ hft
      refine ⟨_, rfl, g, _, _, _, rfl, rfl, SqT.of hft3, atI_nat (j := 0) rfl, _, rfl, g, _, _, _, rfl, rfl, SqT.of hft3, atI_nat (j := 1) rfl, _, rfl, _, rfl, e, fl.lf, fl.w, _, _, rfl, he, _, rfl, _, rfl, _, rfl, (by show 5 ≤ sizeLine; decide), fun tp htp => ?_⟩
      have s4 : Same H3 (upd H3 tp (.tup [.str fl.nm, .int (if fl.lf = true then edL fls pls r fl.h else edR W fls pls r fl.h - fl.w), .int r, .int fl.w, .int fl.h])) := Same.put (Same.refl _) htp
      have h4 : (upd H3 tp (.tup [.str fl.nm, .int (if fl.lf = true then edL fls pls r fl.h else edR W fls pls r fl.h - fl.w), .int r, .int fl.w, .int fl.h])) tp = some (.tup [.str fl.nm, .int (if fl.lf = true then edL fls pls r fl.h else edR W fls pls r fl.h - fl.w), .int r, .int fl.w, .int fl.h]) := upd_same
      refine ⟨_, rfl, (by show 2 ≤ sizeLine; decide), fun t ht => ?_⟩
      generalize upd H3 tp (.tup [.str fl.nm, .int (if fl.lf = true then edL fls pls r fl.h else edR W fls pls r fl.h - fl.w), .int r, .int fl.w, .int fl.h]) = H4 at *
      have s5 : Same H4 (upd H4 t (.tup [.ref tp, .ref l])) := Same.put (Same.refl _) ht
      have s45 := Same.trans s4 s5
      refine k t tp l ta _ hl (Same.trans s3 s45) upd_same ?_ (s45 _ _ hl3) ?_
      · rw [eS1, ← hfin]
        exact s5 _ _ h4
      · rw [eS2, ← hts]
        exact hta.same s45
end
def spStandAll : Sp := fun vs H Q _ => ∃ (a : Addr) (fa : List Addr) (fls : List Fl) (W : Int), vs = [.int W, .ref a] ∧ FlAt H a fa fls ∧ (∀ f ∈ fls, f.w ≤ W) ∧
  ∀ (t ls lp : Addr) (pa qa : List Addr) (H' : Hp), H ls = none → H lp = none → ls ≠ lp → Same H H' → H' t = some (.tup [.ref ls, .ref lp]) → PlAt H' ls pa (allF W fls fls.length).1 → H' lp = some (.lst (qa.map V.ref)) → PapsAt H' qa (allF W fls fls.length).2 → (∀ q ∈ qa, q ≠ ls ∧ q ≠ lp) → Q (.ref t) H'
theorem scStandAll : FnScope ["W", "floats", "name", "side", "wide", "high", "standing", "papers", "row", "told"] ["W", "floats"] (defScope sStandAll) := ⟨rfl, rfl, rfl, by decide +kernel, rfl, by decide +kernel, by decide +kernel⟩
theorem gF_mem {fls : List Fl} {i : Nat} (h : i < fls.length) : gF fls i ∈ fls := by
  rw [gF_of (List.getElem?_eq_getElem h)]
  exact List.getElem_mem h
theorem map_snoc {α β : Type} (f : α → β) (xs : List α) (x : α) : (xs ++ [x]).map f = xs.map f ++ [f x] := by rw [List.map_append]; rfl
section
variable {P : Program} {w : World} {K : PySem.W.Frag} {mg : Str → Option Value} {base : Heap}
set_option maxHeartbeats 4000000 in
theorem ok_standAll {f f1 : Addr} {fd d1 : FuncData} (F : Fun K "stand_floats" "stand_floats" sStandAll f fd) (N : Names mg)
    (G1 : FnOk P w K mg base CX0 5 f1 d1 ["W", "floats", "standing", "row"] spStand) (b1 : Binds K d1 ["W", "floats", "standing", "row"] []) (m1 : mg "stand_float" = some (.ref f1)) (k1 : PySem.W.keepIn K (.ref f1) = true) :
    FnOk P w K mg base CX0 6 f fd ["W", "floats"] spStandAll := by
  refine F.ok scStandAll (fun vs H Q E h => ?_) (fun cdv A outer s H vs Q E hr h => ?_)
  · obtain ⟨a, fa, fls, W, e, _⟩ := h
    rw [e]
    rfl
  · obtain ⟨a, fa, fls, W, e, hF, hW, k⟩ := h
    subst e
    have lf : fa.length = fls.length := by rw [hF.2.1.1, List.length_map]
    have f100 := hF.2.2
    refine ⟨_, pss_cons (ps_for PassesOwn.never rfl (pi_list (pv 1)) (pg_tup rfl (pgs_cons (pg_name (i := 2) scStandAll.nd rfl (Or.inl rfl)) (pgs_cons (pg_name (i := 3) scStandAll.nd rfl (Or.inl rfl)) (pgs_cons (pg_name (i := 4) scStandAll.nd rfl (Or.inl rfl)) (pgs_cons (pg_name (i := 5) scStandAll.nd rfl (Or.inl rfl)) pgs_nil)))))
        (pss_one (ps_if (pt_cmpR op_gt (pv 4) (pv 0) (nomark _)) (pss_one ps_never) pss_nil)))
      (pss_cons (ps_set (i := 6) scStandAll.nd rfl (Or.inl rfl) (pe_lst pa_nil))
      (pss_cons (ps_set (i := 7) scStandAll.nd rfl (Or.inl rfl) (pe_lst pa_nil))
      (pss_cons (ps_set (i := 8) scStandAll.nd rfl (Or.inl rfl) pe_int)
      (pss_cons (ps_while PassesOwn.never (pt_cmpR op_lt (pe_callB call_len_seq (by rfl) N.len PySem.boot_len (pa_cons (pv 6) pa_nil)) (pe_callB call_len_seq (by rfl) N.len PySem.boot_len (pa_cons (pv 1) pa_nil)) (nomark _))
        (pss_cons (ps_set (i := 9) scStandAll.nd rfl (Or.inl rfl) (pe_call G1 hr rfl m1 k1 b1 .nil pass0 (pa_cons (pv 0) (pa_cons (pv 1) (pa_cons (pv 6) (pa_cons (pv 8) pa_nil))))))
        (pss_cons (ps_expr (pe_bm PySem.F.plainAttrs_list PySem.F.slot_list_append PySem.F.type_list_append mt_append (pv 6) (pa_cons (pe_ix ix_tup (pv 9) pe_int (fun _ _ => rfl)) pa_nil)))
        (pss_cons (ps_expr (pe_bm PySem.F.plainAttrs_list PySem.F.slot_list_append PySem.F.type_list_append mt_append (pv 7) (pa_cons (pe_ix ix_tup (pv 9) pe_int (fun _ _ => rfl)) pa_nil)))
        (pss_one (ps_set (i := 8) scStandAll.nd rfl (Or.inl rfl) (pe_ix ix_tup (pe_ix ix_tup (pv 9) pe_int (fun _ _ => rfl)) pe_int (fun _ _ => rfl))))))))
      (pss_one (ps_ret (pe_tup (pa_cons (pv 6) (pa_cons (pv 7) pa_nil))))))))), ?_⟩
    refine ⟨_, rfl, a, rfl, ⟨_, SqL.of hF.1⟩, for_list (K := K) (a := a) (xs := fa.map V.ref) (fun i σ H9 => (∃ u2 u3 u4 u5, σ = [some (.int W), some (.ref a), u2, u3, u4, u5, none, none, none, none]) ∧ H9 = H) ⟨⟨_, _, _, _, rfl⟩, rfl⟩ (fun i σ H9 _ h9 => by rw [h9.2]; exact SqL.of hF.1) ?_ ?_⟩
    · rintro i y σ H9 hy ⟨⟨u2, u3, u4, u5, rfl⟩, rfl⟩
      obtain ⟨p, r, rfl, ep, er, hp⟩ := hF.2.1.get hy
      obtain ⟨fl, efl, rfl⟩ := row_map er
      refine ⟨p, _, rfl, SqT.of hp, rfl, _, _, rfl, _, _, rfl, _, _, rfl, _, _, rfl, rfl, ?_⟩
      have hwf := hW fl (List.mem_of_getElem? efl)
      refine ⟨_, rfl, _, rfl, _, _, rfl, rfl, _, rfl, iteC (decide_eq_false (by omega)) ?_⟩
      exact ⟨⟨_, _, _, _, rfl⟩, rfl⟩
    rintro σ H9 ⟨⟨u2, u3, u4, u5, rfl⟩, rfl⟩
    refine ⟨smallE (by simp), fun ls hls => ?_⟩
    have s1 : Same H9 (upd H9 ls (.lst [])) := Same.put (Same.refl H9) hls
    have h1 : (upd H9 ls (.lst [])) ls = some (.lst []) := upd_same
    generalize upd H9 ls (.lst []) = H1 at *
    refine ⟨smallE (by simp), fun lp hlp => ?_⟩
    have hlp9 : H9 lp = none := same_none s1 hlp
    have nsp : ls ≠ lp := ne_of_none h1 hlp
    have s2 : Same H9 (upd H1 lp (.lst [])) := Same.put s1 hlp9
    have h2 : (upd H1 lp (.lst [])) lp = some (.lst []) := upd_same
    have h1' : (upd H1 lp (.lst [])) ls = some (.lst []) := by rw [upd_ne nsp]; exact h1
    generalize upd H1 lp (.lst []) = H2 at *
    refine ⟨fun m' σ H3 => ∃ (n : Nat) (pa qa : List Addr) (v2 v3 v4 v5 v9 : Option V), σ = [some (.int W), some (.ref a), v2, v3, v4, v5, some (.ref ls), some (.ref lp), some (.int (lastRow (allF W fls n).1)), v9] ∧ Same H9 H3 ∧ PlAt H3 ls pa (allF W fls n).1 ∧ H3 lp = some (.lst (qa.map V.ref)) ∧ PapsAt H3 qa (allF W fls n).2 ∧ (∀ q ∈ qa, q ≠ ls ∧ q ≠ lp) ∧ n ≤ fls.length ∧ m' = fls.length - n,
      ⟨fls.length, 0, [], [], u2, u3, u4, u5, none, rfl, s2, ⟨h1', RowsOf.nil, by show 0 ≤ 100; decide⟩, h2, ⟨rfl, fun i q ts e => by simp at e⟩, fun q hq => by simp at hq, Nat.zero_le _, rfl⟩, ?_⟩
    rintro m' σ H3 ⟨n, pa, qa, v2, v3, v4, v5, v9, rfl, s3, hPl, hlp3, hPp, hqn, hn, rfl⟩
    have ln := allF_len W fls n
    have lpa : pa.length = n := by rw [hPl.2.1.1, List.length_map, ln.1]
    have lqa : qa.length = n := by rw [hPp.1, ln.2]
    have hF3 := hF.same s3
    refine ⟨_, rfl, ls, _, rfl, .inl (SqL.of hPl.1), _, rfl, a, _, rfl, .inl (SqL.of hF3.1), _, _, rfl, rfl, _, rfl, ?_⟩
    refine ite2 (fun hc => ?_) (fun hc => ?_)
    · have hlt : n < fls.length := by
        have := of_decide_eq_true hc
        rw [List.length_map, List.length_map, lpa, lf] at this
        omega
      refine ⟨fun σ' H' => ∃ (pa qa : List Addr) (v2 v3 v4 v5 v9 : Option V), σ' = [some (.int W), some (.ref a), v2, v3, v4, v5, some (.ref ls), some (.ref lp), some (.int (lastRow (allF W fls (n + 1)).1)), v9] ∧ Same H9 H' ∧ PlAt H' ls pa (allF W fls (n + 1)).1 ∧ H' lp = some (.lst (qa.map V.ref)) ∧ PapsAt H' qa (allF W fls (n + 1)).2 ∧ (∀ q ∈ qa, q ≠ ls ∧ q ≠ lp),
        fun σ' H' ⟨pa, qa, v2, v3, v4, v5, v9, z1, z2, z3, z4, z5, z6⟩ => ⟨fls.length - (n + 1), by omega, n + 1, pa, qa, v2, v3, v4, v5, v9, z1, z2, z3, z4, z5, z6, hlt, rfl⟩, ?_⟩
      refine ⟨_, rfl, _, rfl, _, rfl, _, rfl, a, ls, fa, pa, fls, (allF W fls n).1, W, _, rfl, hF3, hPl, by rw [ln.1]; exact hlt, hW _ (gF_mem (by rw [ln.1]; exact hlt)), fun t tp l ta H4 hl s4 ht htp hl4 hta => ?_⟩
      have e1 : (allF W fls (n + 1)).1 = (allF W fls n).1 ++ [(standF W fls (allF W fls n).1 (lastRow (allF W fls n).1)).1] := rfl
      have e2 : (allF W fls (n + 1)).2 = (allF W fls n).2 ++ [(standF W fls (allF W fls n).1 (lastRow (allF W fls n).1)).2] := rfl
      generalize standF W fls (allF W fls n).1 (lastRow (allF W fls n).1) = st at *
      have s34 := Same.trans s3 s4
      have nls : l ≠ ls := fun z => by rw [z, hPl.1] at hl; cases hl
      have nlp : l ≠ lp := fun z => by rw [z, hlp3] at hl; cases hl
      have hPl4 := hPl.same s4
      have hlp4 := s4 _ _ hlp3
      have hPp4 := hPp.same s4
      refine ⟨_, rfl, .inl ⟨rfl, _, SqL.of hPl4.1⟩, _, rfl, t, _, _, _, rfl, rfl, SqT.of ht, atI_nat (j := 0) rfl, ls, _, _, rfl, rfl, hPl4.1, small (by rw [List.length_map]; omega), ?_⟩
      rw [show (pa.map V.ref) ++ [V.ref tp] = (pa ++ [tp]).map V.ref from (map_snoc _ _ _).symm]
      have s5 : Same H9 (upd H4 ls (.lst ((pa ++ [tp]).map V.ref))) := Same.put s34 hls
      have tp5 : (upd H4 ls (.lst ((pa ++ [tp]).map V.ref))) tp = some (.tup (plRow st.1)) := by rw [upd_ne (ne_of htp hPl4.1 (by intro z; cases z))]; exact htp
      have p5 : PlAt (upd H4 ls (.lst ((pa ++ [tp]).map V.ref))) ls (pa ++ [tp]) (allF W fls (n + 1)).1 := by
        refine ⟨upd_same, ?_, by rw [(allF_len W fls (n + 1)).1]; omega⟩
        rw [e1, map_snoc plRow]
        exact RowsOf.snoc (hPl4.2.1.updL (o := .lst ((pa ++ [tp]).map V.ref)) hPl4.1) (Same.refl _) tp5
      have lp5 : (upd H4 ls (.lst ((pa ++ [tp]).map V.ref))) lp = some (.lst (qa.map V.ref)) := by rw [upd_ne (Ne.symm nsp)]; exact hlp4
      have q5 := hPp4.updL (o := .lst ((pa ++ [tp]).map V.ref)) hPl4.1 fun q hq => (hqn q hq).1
      have t5 : (upd H4 ls (.lst ((pa ++ [tp]).map V.ref))) t = some (.tup [.ref tp, .ref l]) := by rw [upd_ne (ne_of ht hPl4.1 (by intro z; cases z))]; exact ht
      have l5 : (upd H4 ls (.lst ((pa ++ [tp]).map V.ref))) l = some (.lst (ta.map V.ref)) := by rw [upd_ne nls]; exact hl4
      have ta5 := hta.updL (o := .lst ((pa ++ [tp]).map V.ref)) hPl4.1
      generalize upd H4 ls (.lst ((pa ++ [tp]).map V.ref)) = H5 at *
      refine ⟨_, rfl, .inl ⟨rfl, _, SqL.of lp5⟩, _, rfl, t, _, _, _, rfl, rfl, SqT.of t5, atI_nat (j := 1) rfl, lp, _, _, rfl, rfl, lp5, small (by rw [List.length_map]; omega), ?_⟩
      rw [show (qa.map V.ref) ++ [V.ref l] = (qa ++ [l]).map V.ref from (map_snoc _ _ _).symm]
      have s6 : Same H9 (upd H5 lp (.lst ((qa ++ [l]).map V.ref))) := Same.put s5 hlp9
      have p6 : PlAt (upd H5 lp (.lst ((qa ++ [l]).map V.ref))) ls (pa ++ [tp]) (allF W fls (n + 1)).1 := ⟨by rw [upd_ne nsp]; exact p5.1, p5.2.1.updL lp5, p5.2.2⟩
      have q6 : PapsAt (upd H5 lp (.lst ((qa ++ [l]).map V.ref))) (qa ++ [l]) (allF W fls (n + 1)).2 := by
        rw [e2]
        exact PapsAt.snoc (q5.updL lp5 fun q hq => (hqn q hq).2) (by rw [upd_ne nlp]; exact l5) (ta5.updL lp5)
      have t6 : (upd H5 lp (.lst ((qa ++ [l]).map V.ref))) t = some (.tup [.ref tp, .ref l]) := by rw [upd_ne (ne_of t5 lp5 (by intro z; cases z))]; exact t5
      have tp6 : (upd H5 lp (.lst ((qa ++ [l]).map V.ref))) tp = some (.tup (plRow st.1)) := by rw [upd_ne (ne_of tp5 lp5 (by intro z; cases z))]; exact tp5
      have lp6 : (upd H5 lp (.lst ((qa ++ [l]).map V.ref))) lp = some (.lst ((qa ++ [l]).map V.ref)) := upd_same
      generalize upd H5 lp (.lst ((qa ++ [l]).map V.ref)) = H6 at *
      refine ⟨_, rfl, t, _, _, _, rfl, rfl, SqT.of t6, atI_nat (j := 0) rfl, tp, _, _, _, rfl, rfl, SqT.of tp6, atI_nat (j := 2) rfl, ?_⟩
      refine ⟨pa ++ [tp], qa ++ [l], v2, v3, v4, v5, some (.ref t), ?_, s6, p6, lp6, q6, fun q hq => ?_⟩
      · rw [e1, lastRow_snoc]
        rfl
      · rcases List.mem_append.mp hq with z | z
        · exact hqn q z
        · rw [List.mem_singleton.mp z]
          exact ⟨nls, nlp⟩
    · have en : n = fls.length := by
        by_cases e : n < fls.length
        · refine absurd (decide_eq_true ?_) hc
          rw [List.length_map, List.length_map, lpa, lf]
          omega
        · omega
      subst en
      refine ⟨_, rfl, _, rfl, (by show 2 ≤ sizeLine; decide), fun t ht => ?_⟩
      have s4 : Same H3 (upd H3 t (.tup [.ref ls, .ref lp])) := Same.put (Same.refl _) ht
      exact k t ls lp pa qa _ hls hlp9 nsp (Same.trans s3 s4) upd_same (hPl.same s4) (s4 _ _ hlp3) (hPp.same s4) hqn
end
section
variable {P : Program} {w : World} {K : PySem.W.Frag} {mg : Str → Option Value} {base : Heap}
theorem scCell : FnScope ["_law_script", "_law_k"] ["_law_script", "_law_k"] (defScope sCell) := ⟨rfl, rfl, rfl, by decide +kernel, rfl, by decide +kernel, by decide +kernel⟩
theorem ok_cell {f : Addr} {fd : FuncData} (F : Fun K "_law_cell_at" "_law_cell_at" sCell f fd) (N : Names mg) : FnOk P w K mg base CX0 1 f fd ["_law_script", "_law_k"] (spCell K) := by
  refine F.ok scCell (fun vs H Q E h => ?_) (fun cdv A outer s H vs Q E hr h => ?_)
  · obtain ⟨a, k, ns, e, _⟩ := h
    rw [e]
    rfl
  · obtain ⟨a, k, ns, e, hS, hn, q⟩ := h
    subst e
    refine ⟨_, pss_cons (ps_if (pt_cmpR op_lt (pv 1) (pe_callB call_len_seq (by rfl) N.len PySem.boot_len (pa_cons (pv 0) pa_nil)) (nomark _)) (pss_one (ps_ret (pe_ix ix_list (pv 0) (pv 1) (fun _ _ => rfl)))) pss_nil) (pss_one (ps_ret pe_int)), ?_⟩
    refine ⟨_, rfl, _, rfl, a, _, rfl, .inl hS, _, _, rfl, rfl, _, rfl, ?_⟩
    refine ite2 (fun hc => ?_) (fun hc => q 0)
    have hk : k < ns.length := by
      have z := of_decide_eq_true hc
      rw [List.length_map] at z
      omega
    exact ⟨_, rfl, _, rfl, a, _, _, _, rfl, rfl, hS, atI_nat (by rw [List.getElem?_map, List.getElem?_eq_getElem hk]; rfl), q _⟩
theorem scNumbers : FnScope ["_law_cell", "_law_many", "_law_found", "_law_number"] ["_law_cell", "_law_many"] (defScope sNumbers) := ⟨rfl, rfl, rfl, by decide +kernel, rfl, by decide +kernel, by decide +kernel⟩
theorem ok_numbers {f : Addr} {fd : FuncData} (F : Fun K "_law_numbers" "_law_numbers" sNumbers f fd) (N : Names mg) : FnOk P w K mg base CX0 1 f fd ["_law_cell", "_law_many"] spNumbers := by
  refine F.ok scNumbers (fun vs H Q E h => ?_) (fun cdv A outer s H vs Q E hr h => ?_)
  · obtain ⟨c, m, e, _⟩ := h
    rw [e]
    rfl
  · obtain ⟨c, m, e, hm, q⟩ := h
    subst e
    refine ⟨_, pss_cons (ps_set (i := 2) scNumbers.nd rfl (Or.inl rfl) (pe_lst pa_nil))
      (pss_cons (ps_set (i := 3) scNumbers.nd rfl (Or.inl rfl) (pe_op op_fdiv (pv 0) pe_int))
      (pss_cons (ps_while PassesOwn.never (pw_and (pt_cmpR op_eq (pe_op op_mod (pv 0) pe_int) pe_int (nomark _)) (pw_and (pt_cmpR op_gt (pv 3) pe_int (nomark _)) (pw_and1 (pt_cmpR op_lt (pe_callB call_len_seq (by rfl) N.len PySem.boot_len (pa_cons (pv 2) pa_nil)) (pv 1) (nomark _))))).pt
        (pss_cons (ps_expr (pe_bm PySem.F.plainAttrs_list PySem.F.slot_list_append PySem.F.type_list_append mt_append (pv 2) (pa_cons (pe_op op_mod (pv 3) (pe_op op_pow pe_int pe_int)) pa_nil)))
          (pss_one (ps_set (i := 3) scNumbers.nd rfl (Or.inl rfl) (pe_op op_fdivC (pv 3) (pe_op op_pow pe_int pe_int))))))
      (pss_cons (ps_set (i := 3) scNumbers.nd rfl (Or.inl rfl) (pe_op op_mod (pv 0) pe_int))
      (pss_cons (ps_while PassesOwn.never (pt_cmpR op_lt (pe_callB call_len_seq (by rfl) N.len PySem.boot_len (pa_cons (pv 2) pa_nil)) (pv 1) (nomark _))
        (pss_cons (ps_set (i := 3) scNumbers.nd rfl (Or.inl rfl) (pe_op op_mod (pe_op op_mul (pe_op op_add (pe_op op_add (pv 3) (pe_callB call_len_seq (by rfl) N.len PySem.boot_len (pa_cons (pv 2) pa_nil))) pe_int) pe_int) pe_int))
          (pss_one (ps_expr (pe_bm PySem.F.plainAttrs_list PySem.F.slot_list_append PySem.F.type_list_append mt_append (pv 2) (pa_cons (pe_op op_mod (pe_op op_mul (pv 3) pe_int) pe_int) pa_nil))))))
      (pss_one (ps_ret (pv 2))))))), ?_⟩
    refine ⟨smallE (by simp), fun l hl => ?_⟩
    refine ⟨_, rfl, _, _, rfl, rfl, ⟨by decide, by decide⟩, ?_⟩
    have s0 : Same H (upd H l (.lst [])) := Same.put (Same.refl H) hl
    refine while_out (fun m' σ H2 => ∃ (z : Int) (ns : List Int), σ = [some (.int c), some (.int m), some (.ref l), some (.int z)] ∧ Same H H2 ∧ H2 l = some (.lst (ns.map V.int)) ∧ ns.length ≤ m ∧ m' = m - ns.length) (m0 := m) ⟨_, [], rfl, s0, upd_same, Nat.zero_le _, rfl⟩ ?_ ?_
    · rintro m' σ H2 ⟨z, ns, rfl, s2, h2, hlen, rfl⟩
      refine ⟨_, rfl, _, _, rfl, rfl, (by show (0 : Int) < 2147483647; decide), ?_⟩
      refine ⟨fun m' σ H2 => ∃ (z : Int) (ns : List Int), σ = [some (.int c), some (.int m), some (.ref l), some (.int z)] ∧ Same H H2 ∧ H2 l = some (.lst (ns.map V.int)) ∧ ns.length ≤ m ∧ m' = m - ns.length, ⟨_, _, ns, rfl, s2, h2, hlen, rfl⟩, ?_⟩
      rintro m' σ H3 ⟨z, ns, rfl, s3, h3, hlen, rfl⟩
      refine ⟨_, rfl, l, _, rfl, .inl (SqL.of h3), _, rfl, _, _, rfl, rfl, _, rfl, ite2 (fun hc => ?_) (fun hc => ?_)⟩
      · have hc' := of_decide_eq_true hc
        rw [List.length_map] at hc'
        refine ⟨fun σ' H' => ∃ (z : Int) (ns' : List Int), σ' = [some (.int c), some (.int m), some (.ref l), some (.int z)] ∧ Same H H' ∧ H' l = some (.lst (ns'.map V.int)) ∧ ns'.length = ns.length + 1, fun σ' H' ⟨z', ns', e1, e2, e3, e4⟩ => ⟨m - ns'.length, by omega, z', ns', e1, e2, e3, by omega, rfl⟩, ?_⟩
        refine ⟨_, rfl, _, rfl, l, _, rfl, .inl (SqL.of h3), _, _, rfl, rfl, _, _, rfl, rfl, _, _, rfl, rfl, .inr ⟨by decide, by decide⟩, _, _, rfl, rfl, (by show (0 : Int) < 2147483647; decide), ?_⟩
        refine ⟨_, rfl, .inl ⟨rfl, _, SqL.of h3⟩, _, rfl, _, _, rfl, rfl, .inr ⟨by decide, by decide⟩, _, _, rfl, rfl, (by show (0 : Int) < 2147483629; decide), l, _, _, rfl, rfl, h3, small (by rw [List.length_map]; omega), ?_⟩
        exact ⟨_, _, rfl, Same.put s3 hl, snoc_at, snoc_len⟩
      · have hc' : ¬ ((ns.length : Int) < (m : Int)) := fun z => hc (decide_eq_true (by rw [List.length_map]; exact z))
        exact ⟨_, rfl, q l ns H3 hl s3 h3 (by omega)⟩
    · rintro R out m' σ H2 ⟨z, ns, rfl, s2, h2, hlen, rfl⟩
      have go : R [some (.int c), some (.int m), some (.ref l), some (.int z)] H2 := out _ _ _ ⟨z, ns, rfl, s2, h2, hlen, rfl⟩
      refine ⟨_, rfl, _, _, rfl, rfl, (by show (0 : Int) < 2; decide), rfl, _, rfl, ite2 (fun _ => ?_) (fun _ => iteF go)⟩
      refine ⟨_, rfl, _, _, rfl, rfl, _, rfl, ite2 (fun _ => ?_) (fun _ => iteF go)⟩
      refine ⟨_, rfl, l, _, rfl, .inl (SqL.of h2), _, rfl, _, _, rfl, rfl, _, rfl, ite2 (fun hc => ?_) (fun _ => go)⟩
      have hc' := of_decide_eq_true hc
      rw [List.length_map] at hc'
      refine ⟨fun σ' H' => ∃ (z : Int) (ns' : List Int), σ' = [some (.int c), some (.int m), some (.ref l), some (.int z)] ∧ Same H H' ∧ H' l = some (.lst (ns'.map V.int)) ∧ ns'.length = ns.length + 1, fun σ' H' ⟨z', ns', e1, e2, e3, e4⟩ => ⟨m - ns'.length, by omega, z', ns', e1, e2, e3, by omega, rfl⟩, ?_⟩
      refine ⟨_, rfl, .inl ⟨rfl, _, SqL.of h2⟩, _, rfl, _, _, rfl, rfl, ⟨by decide, by decide, by decide⟩, _, _, rfl, rfl, (by show (0 : Int) < 10 ^ Int.toNat 7; decide), l, _, _, rfl, rfl, h2, small (by rw [List.length_map]; omega), ?_⟩
      refine ⟨_, rfl, _, _, rfl, rfl, ⟨by decide, by decide, by decide⟩, _, _, rfl, rfl, ⟨by decide, by decide +kernel⟩, ?_⟩
      exact ⟨_, _, rfl, Same.put s2 hl, snoc_at, snoc_len⟩
end
end B68
namespace B68
open PySem L2 S2
def NmsOk (nms : List Str) : Prop := (∀ i j, i < nms.length → j < nms.length → nms.getD i "" = nms.getD j "" → i = j) ∧ ∀ i, i < nms.length → nms.getD i "" ≠ ""
def ixF (nn : List Int) (at0 : Int) (i j : Nat) : Int := (gi nn j + (0 + (i : Int)) * (if decide (V.int (0 + (j : Int)) = V.int at0) = true then 1 else 0)) % 26
def chF (nn : List Int) (at0 : Int) (i j : Nat) : Nat := ("abcdefghijklmnopqrstuvwxyz" : Str).cps.toList.getD (ixF nn at0 i j).toNat 0
def preF (nn : List Int) (at0 : Int) (i j : Nat) : Str := ⟨((List.range j).map (chF nn at0 i)).toArray⟩
theorem alpha_inj : ∀ a b : Fin 26, ("abcdefghijklmnopqrstuvwxyz" : Str).cps.toList.getD a.val 0 = ("abcdefghijklmnopqrstuvwxyz" : Str).cps.toList.getD b.val 0 → a = b := by decide +kernel
theorem preF_snoc (nn : List Int) (at0 : Int) (i j : Nat) : preF nn at0 i j ++ (⟨#[chF nn at0 i j]⟩ : Str) = preF nn at0 i (j + 1) := by
  show (⟨((List.range j).map (chF nn at0 i)).toArray ++ #[chF nn at0 i j]⟩ : Str) = ⟨((List.range (j + 1)).map (chF nn at0 i)).toArray⟩
  rw [List.range_succ, List.map_append]
  simp
theorem preF_len (nn : List Int) (at0 : Int) (i j : Nat) : (preF nn at0 i j).length = j := by
  show (((List.range j).map (chF nn at0 i)).toArray).size = j
  simp
theorem nmsF_ok (nn : List Int) (ja sz m : Nat) (hj : ja ≤ sz) (hm : m ≤ 20) : NmsOk ((List.range m).map fun i => preF nn (ja : Int) i (sz + 1)) := by
  have hl : ((List.range m).map fun i => preF nn (ja : Int) i (sz + 1)).length = m := by rw [List.length_map, List.length_range]
  have hg : ∀ i, i < m → ((List.range m).map fun i => preF nn (ja : Int) i (sz + 1)).getD i "" = preF nn (ja : Int) i (sz + 1) := fun i hi => by
    rw [List.getD_eq_getElem?_getD, List.getElem?_map, List.getElem?_range hi]
    rfl
  refine ⟨fun i j hi hj' e => ?_, fun i hi e => ?_⟩
  · rw [hl] at hi hj'
    rw [hg i hi, hg j hj'] at e
    have e1 : ((List.range (sz + 1)).map (chF nn (ja : Int) i)) = ((List.range (sz + 1)).map (chF nn (ja : Int) j)) := by
      have := congrArg (fun z : Str => z.cps.toList) e
      simpa [preF] using this
    have e2 : chF nn (ja : Int) i ja = chF nn (ja : Int) j ja := by
      have := congrArg (fun l : List Nat => l[ja]?) e1
      simp only [List.getElem?_map, List.getElem?_range (show ja < sz + 1 by omega), Option.map_some] at this
      exact Option.some.inj this
    have q : ∀ i : Nat, ixF nn (ja : Int) i ja = (gi nn ja + (i : Int)) % 26 := fun i => by
      unfold ixF
      rw [if_pos (decide_eq_true (by rw [Int.zero_add]))]
      congr 1
      omega
    unfold chF at e2
    rw [q i, q j] at e2
    have e3 := alpha_inj ⟨((gi nn ja + (i : Int)) % 26).toNat, by omega⟩ ⟨((gi nn ja + (j : Int)) % 26).toNat, by omega⟩ e2
    have e4 := congrArg Fin.val e3
    dsimp only at e4
    omega
  · rw [hl] at hi
    rw [hg i hi] at e
    have := congrArg Str.length e
    rw [preF_len] at this
    rw [show ("" : Str).length = 0 by decide +kernel] at this
    omega
def spLNames : Sp := fun vs H Q _ => ∃ (c : Int) (m : Nat), vs = [.int c, .int m] ∧ m ≤ 20 ∧ ∀ (l : Addr) (nms : List Str) (H' : Hp), H l = none → Same H H' → H' l = some (.lst (nms.map V.str)) → nms.length = m → NmsOk nms → Q (.ref l) H'
section
variable {P : Program} {w : World} {K : PySem.W.Frag} {mg : Str → Option Value} {base : Heap}
theorem scLNames : FnScope ["_law_cell", "_law_many", "_law_some", "_law_size", "_law_at", "_law_names_here", "_law_turn", "_law_name", "_law_k", "_law_more"] ["_law_cell", "_law_many"] (defScope sLNames) := ⟨rfl, rfl, rfl, by decide +kernel, rfl, by decide +kernel, by decide +kernel⟩
theorem alpha_len : ("abcdefghijklmnopqrstuvwxyz" : Str).length = 26 := by decide +kernel
theorem one_len (c : Nat) : (⟨#[c]⟩ : Str).length = 1 := rfl
set_option maxHeartbeats 4000000 in
theorem ok_lnames {f f1 : Addr} {fd d1 : FuncData} (F : Fun K "_law_names" "_law_names" sLNames f fd) (N : Names mg) (G1 : FnOk P w K mg base CX0 1 f1 d1 ["_law_cell", "_law_many"] spNumbers) (b1 : Binds K d1 ["_law_cell", "_law_many"] []) (m1 : mg "_law_numbers" = some (.ref f1)) (k1 : PySem.W.keepIn K (.ref f1) = true) :
    FnOk P w K mg base CX0 2 f fd ["_law_cell", "_law_many"] spLNames := by
  refine F.ok scLNames (fun vs H Q E h => ?_) (fun cdv A outer s H vs Q E hr h => ?_)
  · obtain ⟨c, m, e, _⟩ := h
    rw [e]
    rfl
  · obtain ⟨c, m, e, hm, k⟩ := h
    subst e
    refine ⟨_, pss_cons (ps_set (i := 2) scLNames.nd rfl (Or.inl rfl) (pe_call G1 hr rfl m1 k1 b1 .nil pass0 (pa_cons (pv 0) (pa_cons pe_int pa_nil))))
      (pss_cons (ps_set (i := 3) scLNames.nd rfl (Or.inl rfl) (pe_op op_add pe_int (pe_op op_mod (pe_ix ix_list (pv 2) pe_int (fun _ _ => rfl)) pe_int)))
      (pss_cons (ps_set (i := 4) scLNames.nd rfl (Or.inl rfl) (pe_op op_mod (pe_ix ix_list (pv 2) pe_int (fun _ _ => rfl)) (pv 3)))
      (pss_cons (ps_set (i := 5) scLNames.nd rfl (Or.inl rfl) (pe_lst pa_nil))
      (pss_cons (ps_for PassesOwn.never rfl (pi_range1 rfl N.range (pa_cons (pv 1) pa_nil)) (pg_name (i := 6) scLNames.nd rfl (Or.inl rfl))
        (pss_cons (ps_set (i := 7) scLNames.nd rfl (Or.inl rfl) pe_str)
        (pss_cons (ps_for PassesOwn.never rfl (pi_range1 rfl N.range (pa_cons (pv 3) pa_nil)) (pg_name (i := 8) scLNames.nd rfl (Or.inl rfl))
          (pss_cons (ps_set (i := 9) scLNames.nd rfl (Or.inl rfl) (pe_op op_mul (pv 6) (pe_callTy call_int1 (by rfl) N.int PyProof.Rows.boot_int (pa_cons (pe_cmpR op_eq (pv 8) (pv 4) (nomark _)) pa_nil))))
          (pss_one (ps_set (i := 7) scLNames.nd rfl (Or.inl rfl) (pe_op op_add_str (pv 7) (pe_ix ix_str pe_str (pe_op op_mod (pe_op op_add (pe_ix ix_list (pv 2) (pv 8) (fun _ _ => rfl)) (pv 9)) pe_int) (fun _ _ => rfl)))))))
        (pss_one (ps_expr (pe_bm PySem.F.plainAttrs_list PySem.F.slot_list_append PySem.F.type_list_append mt_append (pv 5) (pa_cons (pv 7) pa_nil)))))))
      (pss_one (ps_ret (pv 5))))))), ?_⟩
    refine ⟨_, rfl, c, 10, rfl, by decide, fun ls nn H1 hls s1 h1 hnn => ?_⟩
    refine ⟨_, rfl, ls, _, _, _, rfl, rfl, SqL.of h1, atI_nat (j := 8) (gi_at (by omega)), _, _, rfl, rfl, (by show (0 : Int) < 8; decide), _, _, rfl, rfl, ?_⟩
    obtain ⟨sz, esz, hsz⟩ := mod_nat (z := gi nn 8) (n := 8) (by decide)
    have esz' : gi nn 8 % 8 = (sz : Int) := esz
    refine ⟨_, rfl, ls, _, _, _, rfl, rfl, SqL.of h1, atI_nat (j := 9) (gi_at (by omega)), _, rfl, _, _, rfl, rfl, (by show (0 : Int) < 1 + gi nn 8 % 8; omega), ?_⟩
    dsimp only
    obtain ⟨ja, eja, hja⟩ : ∃ ja : Nat, gi nn 9 % (1 + gi nn 8 % 8) = (ja : Int) ∧ ja ≤ sz := by
      have z1 := Int.emod_nonneg (gi nn 9) (show (1 + gi nn 8 % 8) ≠ 0 by omega)
      have z2 := Int.emod_lt_of_pos (gi nn 9) (show 0 < 1 + gi nn 8 % 8 by omega)
      exact ⟨(gi nn 9 % (1 + gi nn 8 % 8)).toNat, by omega, by omega⟩
    rw [eja, esz']
    refine ⟨smallE (by simp), fun l hl => ?_⟩
    have hl0 : H l = none := same_none s1 hl
    have s2 : Same H (upd H1 l (.lst [])) := Same.put s1 hl0
    have h2 : (upd H1 l (.lst [])) l = some (.lst []) := upd_same
    have hs2 : (upd H1 l (.lst [])) ls = some (.lst (nn.map V.int)) := by rw [upd_ne (ne_of_none h1 hl)]; exact h1
    have nlls : ls ≠ l := ne_of_none h1 hl
    generalize upd H1 l (.lst []) = H2 at *
    refine ⟨_, rfl, (m : Int), rfl, by omega, by omega, ?_⟩
    have em : ((m : Int)).toNat = m := by omega
    rw [em]
    refine for_range (n := m) (fun i σ H3 => ∃ (nms : List Str) (v6 v7 v8 v9 : Option V), σ = [some (.int c), some (.int m), some (.ref ls), some (.int (1 + (sz : Int))), some (.int (ja : Int)), some (.ref l), v6, v7, v8, v9] ∧ Same H H3 ∧ H3 ls = some (.lst (nn.map V.int)) ∧ H3 l = some (.lst (nms.map V.str)) ∧ nms = (List.range i).map fun i => preF nn (ja : Int) i (sz + 1))
      ⟨[], _, _, _, _, rfl, s2, hs2, h2, rfl⟩ ?_ ?_
    · rintro i σ H3 hi ⟨nms, v6, v7, v8, v9, rfl, s3, hs3, h3, hlen⟩
      refine ⟨_, rfl, 1 + (sz : Int), rfl, by omega, by omega, ?_⟩
      have en : ((1 : Int) + (sz : Int)).toNat = sz + 1 := by omega
      rw [en]
      refine for_range (n := sz + 1) (fun j σ H4 => H4 = H3 ∧ ∃ (z : Str) (v8 v9 : Option V), σ = [some (.int c), some (.int m), some (.ref ls), some (.int (1 + (sz : Int))), some (.int (ja : Int)), some (.ref l), some (.int (0 + (i : Int))), some (.str z), v8, v9] ∧ z = preF nn (ja : Int) i j) ⟨rfl, "", _, _, rfl, rfl⟩ ?_ ?_
      · rintro j σ H4 hj ⟨rfl, z, v8, v9, rfl, hz⟩
        refine ⟨_, rfl, _, rfl, _, rfl, rfl, .inr ⟨_, rfl, _, _, rfl, rfl, .inl ⟨by omega, by omega⟩, ?_⟩⟩
        refine ⟨_, rfl, _, rfl, _, rfl, ls, _, _, _, rfl, rfl, SqL.of hs3, atI_of (j := j) (by omega) (gi_at (by omega)), _, rfl, _, _, rfl, rfl, _, _, rfl, rfl, (by show (0 : Int) < 26; decide), ?_⟩
        have hch : atI ("abcdefghijklmnopqrstuvwxyz" : Str).cps.toList ((gi nn j + (0 + (i : Int)) * (if decide (V.int (0 + (j : Int)) = V.int (ja : Int)) = true then 1 else 0)) % 26) = some (chF nn (ja : Int) i j) := by
          obtain ⟨q, eq, hq⟩ := mod_nat (z := gi nn j + (0 + (i : Int)) * (if decide (V.int (0 + (j : Int)) = V.int (ja : Int)) = true then 1 else 0)) (n := 26) (by decide)
          have hq2 : q < ("abcdefghijklmnopqrstuvwxyz" : Str).cps.toList.length := by rw [show ("abcdefghijklmnopqrstuvwxyz" : Str).cps.toList.length = 26 from by decide +kernel]; exact hq
          have eq' : (ixF nn (ja : Int) i j).toNat = q := by
            have : ixF nn (ja : Int) i j = (q : Int) := eq
            omega
          unfold chF
          rw [eq', List.getD_eq_getElem?_getD, List.getElem?_eq_getElem hq2]
          exact atI_of eq (List.getElem?_eq_getElem hq2)
        refine ⟨_, _, _, rfl, rfl, smallE (by rw [alpha_len]; decide), hch, _, _, rfl, rfl, smallE (by rw [one_len, hz, preF_len]; omega), ?_⟩
        exact ⟨rfl, _, _, _, rfl, by rw [hz, preF_snoc]⟩
      · rintro σ H4 ⟨rfl, z, v8, v9, rfl, hz⟩
        refine ⟨_, rfl, .inl ⟨rfl, _, SqL.of h3⟩, _, rfl, l, _, _, rfl, rfl, h3, small (by rw [List.length_map, hlen, List.length_map, List.length_range]; omega), ?_⟩
        refine ⟨nms ++ [z], _, _, _, _, rfl, Same.put s3 hl0, by rw [upd_ne nlls]; exact hs3, by rw [upd_same, List.map_append]; rfl, by rw [hlen, List.range_succ, List.map_append, hz]; rfl⟩
    · rintro σ H3 ⟨nms, v6, v7, v8, v9, rfl, s3, hs3, h3, hlen⟩
      exact ⟨_, rfl, k l nms H3 hl0 s3 h3 (by rw [hlen, List.length_map, List.length_range]) (by rw [hlen]; exact nmsF_ok nn ja sz m hja hm)⟩
end
end B68
namespace B68
open PySem L2 S2
def spLFloats (K : PySem.W.Frag) : Sp := fun vs H Q _ => ∃ (ln lc : Addr) (W : Int) (nms : List Str) (cs : List Int), vs = [.ref ln, .int W, .ref lc] ∧ H ln = some (.lst (nms.map V.str)) ∧ SqL K H lc (cs.map V.int) ∧ cs.length ≤ nms.length ∧ cs.length ≤ 63 ∧ 0 < W ∧
  ∀ (l : Addr) (fa : List Addr) (fls : List Fl) (H' : Hp), H l = none → Same H H' → FlAt H' l fa fls → FlsOk W fls → fls.length = cs.length → (∀ i, i < fls.length → (gF fls i).nm = nms.getD i "") → Q (.ref l) H'
theorem highAt (z u : Int) : ∃ r : Int, atI [V.int (z % 9), V.int (z % 10 ^ Int.toNat 6)] (u % 3 / 2) = some (V.int r) ∧ 0 ≤ r := by
  obtain ⟨i, e, hi⟩ := nat_of (z := u % 3 / 2) (n := 2) (by omega) (by omega)
  match i, hi, e with
  | 0, _, e => exact ⟨_, atI_of e rfl, by omega⟩
  | 1, _, e => exact ⟨_, atI_of e rfl, Int.emod_nonneg _ (by decide)⟩
theorem side_at (z : Int) : ∃ b : Bool, atI [V.str "left", V.str "right"] (z % 2) = some (V.str (sideOf b)) := by
  obtain ⟨i, e, hi⟩ := nat_of (z := z % 2) (n := 2) (by omega) (by omega)
  match i, hi, e with
  | 0, _, e => exact ⟨true, atI_of e rfl⟩
  | 1, _, e => exact ⟨false, atI_of e rfl⟩
section
variable {P : Program} {w : World} {K : PySem.W.Frag} {mg : Str → Option Value} {base : Heap}
theorem scLFloats : FnScope ["_law_names_here", "_law_wide", "_law_cells", "_law_floats_here", "_law_k", "_law_cell", "_law_some", "_law_high"] ["_law_names_here", "_law_wide", "_law_cells"] (defScope sLFloats) := ⟨rfl, rfl, rfl, by decide +kernel, rfl, by decide +kernel, by decide +kernel⟩
set_option maxHeartbeats 4000000 in
theorem ok_lfloats {f f1 : Addr} {fd d1 : FuncData} (F : Fun K "_law_floats" "_law_floats" sLFloats f fd) (N : Names mg) (G1 : FnOk P w K mg base CX0 1 f1 d1 ["_law_cell", "_law_many"] spNumbers) (b1 : Binds K d1 ["_law_cell", "_law_many"] []) (m1 : mg "_law_numbers" = some (.ref f1)) (k1 : PySem.W.keepIn K (.ref f1) = true) :
    FnOk P w K mg base CX0 2 f fd ["_law_names_here", "_law_wide", "_law_cells"] (spLFloats K) := by
  refine F.ok scLFloats (fun vs H Q E h => ?_) (fun cdv A outer s H vs Q E hr h => ?_)
  · obtain ⟨ln, lc, W, nms, cs, e, _⟩ := h
    rw [e]
    rfl
  · obtain ⟨ln, lc, W, nms, cs, e, hn, hc, hle, h63, hW, k⟩ := h
    subst e
    refine ⟨_, pss_cons (ps_set (i := 3) scLFloats.nd rfl (Or.inl rfl) (pe_lst pa_nil))
      (pss_cons (ps_for PassesOwn.never rfl (pi_enL0 rfl N.enum (pa_cons (pv 2) pa_nil)) (pg_tup rfl (pgs_cons (pg_name (i := 4) scLFloats.nd rfl (Or.inl rfl)) (pgs_cons (pg_name (i := 5) scLFloats.nd rfl (Or.inl rfl)) pgs_nil)))
        (pss_cons (ps_set (i := 6) scLFloats.nd rfl (Or.inl rfl) (pe_call G1 hr rfl m1 k1 b1 .nil pass0 (pa_cons (pv 5) (pa_cons pe_int pa_nil))))
        (pss_cons (ps_set (i := 7) scLFloats.nd rfl (Or.inl rfl) (pe_op op_add pe_int (pe_ix ix_list (pe_lst (pa_cons (pe_op op_mod (pe_ix ix_list (pv 6) pe_int (fun _ _ => rfl)) pe_int) (pa_cons (pe_op op_mod (pe_ix ix_list (pv 6) pe_int (fun _ _ => rfl)) (pe_op op_pow pe_int pe_int)) pa_nil))) (pe_op op_fdiv (pe_op op_mod (pe_ix ix_list (pv 6) pe_int (fun _ _ => rfl)) pe_int) pe_int) (fun _ _ => rfl))))
        (pss_one (ps_expr (pe_bm PySem.F.plainAttrs_list PySem.F.slot_list_append PySem.F.type_list_append mt_append (pv 3) (pa_cons (pe_tup (pa_cons (pe_ix ix_list (pv 0) (pv 4) (fun _ _ => rfl)) (pa_cons (pe_ix ix_list (pe_lst (pa_cons pe_str (pa_cons pe_str pa_nil))) (pe_op op_mod (pe_ix ix_list (pv 6) pe_int (fun _ _ => rfl)) pe_int) (fun _ _ => rfl))
          (pa_cons (pe_op op_add pe_int (pe_op op_mod (pe_ix ix_list (pv 6) pe_int (fun _ _ => rfl)) (pv 1))) (pa_cons (pv 7) pa_nil))))) pa_nil)))))))
      (pss_one (ps_ret (pv 3)))), ?_⟩
    refine ⟨smallE (by simp), fun l hl => ?_⟩
    have s1 : Same H (upd H l (.lst [])) := Same.put (Same.refl H) hl
    have h1 : (upd H l (.lst [])) l = some (.lst []) := upd_same
    generalize upd H l (.lst []) = H1 at *
    refine ⟨_, rfl, lc, rfl, ⟨_, s1.seq hc⟩, for_en (xs := cs.map V.int) (fun i σ H9 => ∃ (fa : List Addr) (fls : List Fl) (v4 v5 v6 v7 : Option V), σ = [some (.ref ln), some (.int W), some (.ref lc), some (.ref l), v4, v5, v6, v7] ∧ Same H H9 ∧ H9 l = some (.lst (fa.map V.ref)) ∧ RowsOf H9 fa (fls.map flRow) ∧ fls.length = i ∧ FlsOk W fls ∧ ∀ i, i < fls.length → (gF fls i).nm = nms.getD i "")
      ⟨[], [], none, none, none, none, rfl, s1, h1, RowsOf.nil, rfl, (fun f hf => by cases hf), fun i hi => absurd hi (Nat.not_lt_zero _)⟩ (fun i σ H9 _ ⟨_, _, _, _, _, _, _, s9, _⟩ => s9.seq hc) ?_ ?_⟩
    · rintro i x p σ H9 hx hp ⟨fa, fls, v4, v5, v6, v7, rfl, s9, h9, hrow, hlen, hok, hnm⟩
      obtain ⟨z, rfl, hz⟩ := int_at hx
      have hi : i < cs.length := get_lt hz
      have s10 : Same H9 (upd H9 p (.tup [.int (0 + (i : Int)), .int z])) := Same.put (Same.refl _) hp
      have hp10 : (upd H9 p (.tup [.int (0 + (i : Int)), .int z])) p = some (.tup [.int (0 + (i : Int)), .int z]) := upd_same
      have h10 := s10 _ _ h9
      have r10 := hrow.same s10
      generalize upd H9 p (.tup [.int (0 + (i : Int)), .int z]) = H10 at *
      refine ⟨p, _, rfl, SqT.of hp10, rfl, _, _, rfl, _, _, rfl, rfl, ?_⟩
      refine ⟨_, rfl, z, 4, rfl, by decide, fun ls nn H11 hls s11 h11 hnn => ?_⟩
      have at2 : atI (nn.map V.int) 2 = some (V.int (gi nn 2)) := atI_nat (j := 2) (gi_at (by omega))
      refine ⟨_, rfl, ls, _, _, _, rfl, rfl, SqL.of h11, at2, _, _, rfl, rfl, (by show (0 : Int) < 9; decide), ?_⟩
      refine ⟨_, rfl, ls, _, _, _, rfl, rfl, SqL.of h11, at2, _, _, rfl, rfl, ⟨by decide, by decide, by decide⟩, _, _, rfl, rfl, (by show (0 : Int) < 10 ^ Int.toNat 6; decide), (by show 2 ≤ sizeLine; decide), fun lw hlw => ?_⟩
      obtain ⟨hg, ehg, hhg⟩ := highAt (gi nn 2) (gi nn 3)
      dsimp only at hlw ⊢
      generalize hww : [V.int (gi nn 2 % 9), V.int (gi nn 2 % 10 ^ Int.toNat 6)] = ww at *
      have s11' : Same H11 (upd H11 lw (.lst ww)) := Same.put (Same.refl _) hlw
      have h11' : (upd H11 lw (.lst ww)) lw = some (.lst ww) := upd_same
      have h11s := s11' _ _ h11
      have s11n := Same.trans s11 s11'
      generalize upd H11 lw (.lst ww) = H11n at *
      refine ⟨_, rfl, ls, _, _, _, rfl, rfl, SqL.of h11s, atI_nat (j := 3) (gi_at (by omega)), _, _, rfl, rfl, (by show (0 : Int) < 3; decide), _, _, rfl, rfl, ⟨by decide, by decide⟩, lw, _, _, _, rfl, rfl, SqL.of h11', ehg, _, _, rfl, rfl, ?_⟩
      have s0 := Same.trans s9 (Same.trans s10 s11n)
      have hn11 := s0 _ _ hn
      have hl11 := s11n _ _ h10
      have r11 := r10.same s11n
      have lnl : ln ≠ l := ne_of_none hn hl
      refine ⟨_, rfl, .inl ⟨rfl, _, SqL.of hl11⟩, ?_⟩
      have en : (nms.map V.str)[i]? = some (V.str (nms.getD i "")) := by
        rw [List.getElem?_map, List.getElem?_eq_getElem (by omega), List.getD_eq_getElem?_getD, List.getElem?_eq_getElem (by omega)]
        rfl
      refine ⟨_, rfl, _, rfl, ln, _, _, _, rfl, rfl, SqL.of hn11, atI_of (j := i) (by omega) en, (by show 2 ≤ sizeLine; decide), fun l2 hl2 => ?_⟩
      have s12 : Same H11n (upd H11n l2 (.lst [.str "left", .str "right"])) := Same.put (Same.refl _) hl2
      have h12 : (upd H11n l2 (.lst [.str "left", .str "right"])) l2 = some (.lst [.str "left", .str "right"]) := upd_same
      generalize upd H11n l2 (.lst [.str "left", .str "right"]) = H12 at *
      obtain ⟨b, hb⟩ := side_at (gi nn 0)
      refine ⟨_, rfl, ls, _, _, _, rfl, rfl, SqL.of (s12 _ _ h11s), atI_nat (j := 0) (gi_at (by omega)), _, _, rfl, rfl, (by show (0 : Int) < 2; decide), l2, _, _, _, rfl, rfl, SqL.of h12, hb, ?_⟩
      refine ⟨_, rfl, ls, _, _, _, rfl, rfl, SqL.of (s12 _ _ h11s), atI_nat (j := 1) (gi_at (by omega)), _, rfl, _, _, rfl, rfl, hW, _, _, rfl, rfl, ?_⟩
      refine ⟨_, rfl, (by show 4 ≤ sizeLine; decide), fun tp htp => ?_⟩
      have w1 : 0 ≤ gi nn 1 % W := Int.emod_nonneg _ (by omega)
      have w2 : gi nn 1 % W < W := Int.emod_lt_of_pos _ hW
      have hfl : 0 < (1 + gi nn 1 % W) ∧ 1 + gi nn 1 % W ≤ W ∧ 0 < 1 + hg := ⟨by omega, by omega, by omega⟩
      let fl : Fl := ⟨nms.getD i "", b, 1 + gi nn 1 % W, 1 + hg⟩
      have s13 : Same H12 (upd H12 tp (.tup (flRow fl))) := Same.put (Same.refl _) htp
      have h13 : (upd H12 tp (.tup (flRow fl))) tp = some (.tup (flRow fl)) := upd_same
      have hl13 := s13 _ _ (s12 _ _ hl11)
      have r13 := r11.same (Same.trans s12 s13)
      have lfa : fa.length = fls.length := by rw [hrow.1, List.length_map]
      refine (show ∃ l' _, _ from ?_)
      refine ⟨l, _, _, rfl, rfl, hl13, small (by rw [List.length_map]; omega), ?_⟩
      have S13 : Same H (upd H12 tp (.tup (flRow fl))) := Same.trans s0 (Same.trans s12 s13)
      refine (show ∃ fa' fls' v4 v5 v6 v7, _ from ⟨fa ++ [tp], fls ++ [fl], _, _, _, _, rfl, Same.put S13 hl, ?_, ?_, by rw [List.length_append, hlen]; rfl, ?_, ?_⟩)
      · rw [upd_same, List.map_append]
        rfl
      · rw [List.map_append]
        exact RowsOf.snoc (r13.updL hl13) (Same.refl _) (by rw [upd_ne (ne_of h13 hl13 (by intro z; cases z))]; exact h13)
      · intro f hf
        rcases List.mem_append.mp hf with z | z
        · exact hok f z
        · rw [List.mem_singleton.mp z]
          exact hfl
      · intro q hq
        rw [List.length_append] at hq
        by_cases e : q < fls.length
        · rw [show gF (fls ++ [fl]) q = gF fls q by unfold gF; rw [List.getD_eq_getElem?_getD, List.getD_eq_getElem?_getD, List.getElem?_append_left e]]
          exact hnm q e
        · have e2 : q = fls.length := by
            have : q < fls.length + 1 := hq
            omega
          subst e2
          rw [gF_of (f := fl) (by rw [List.getElem?_append_right (Nat.le_refl _), Nat.sub_self]; rfl), hlen]
    · rintro σ H9 ⟨fa, fls, v4, v5, v6, v7, rfl, s9, h9, hrow, hlen, hok, hnm⟩
      rw [List.length_map] at hlen
      exact ⟨_, rfl, k l fa fls H9 hl s9 ⟨h9, hrow, by omega⟩ hok hlen hnm⟩
end
end B68
namespace B68
open PySem L2 S2
def spLTouch : Sp := fun vs H Q _ => ∃ (a : Addr) (p : Pl) (row high : Int), vs = [.ref a, .int row, .int high] ∧ H a = some (.tup (plRow p)) ∧ Q (.bl (lawTou row high p)) H
section
variable {P : Program} {w : World} {K : PySem.W.Frag} {mg : Str → Option Value} {base : Heap}
theorem scLTouch : FnScope ["_law_thing", "_law_row", "_law_high"] ["_law_thing", "_law_row", "_law_high"] (defScope sLTouch) := ⟨rfl, rfl, rfl, by decide +kernel, rfl, by decide +kernel, by decide +kernel⟩
theorem ok_ltouch {f : Addr} {fd : FuncData} (F : Fun K "_law_touch" "_law_touch" sLTouch f fd) : FnOk P w K mg base CX0 1 f fd ["_law_thing", "_law_row", "_law_high"] spLTouch := by
  refine F.ok scLTouch (fun vs H Q E h => ?_) (fun cdv A outer s H vs Q E hr h => ?_)
  · obtain ⟨a, p, row, high, e, _⟩ := h
    rw [e]
    rfl
  · obtain ⟨a, p, row, high, e, hp, k⟩ := h
    subst e
    refine ⟨_, pss_one (ps_ret (pe_and (pe_cmpR op_lt (pe_ix ix_tup (pv 0) pe_int (fun _ _ => rfl)) (pe_op op_add (pv 1) (pv 2)) (nomark _)) (pe_one (pe_cmpR op_lt (pv 1) (pe_op op_add (pe_ix ix_tup (pv 0) pe_int (fun _ _ => rfl)) (pe_ix ix_tup (pv 0) pe_int (fun _ _ => rfl))) (nomark _))))), ?_⟩
    refine ⟨_, rfl, a, _, _, _, rfl, rfl, SqT.of hp, atI_nat (j := 2) rfl, _, rfl, _, rfl, _, _, rfl, rfl, _, _, rfl, rfl, _, rfl, ?_⟩
    unfold lawTou at k
    by_cases e : p.y < row + high
    · refine iteB (decide_eq_true e) ?_
      rw [decide_eq_true e, Bool.true_and] at k
      exact ⟨_, rfl, _, rfl, a, _, _, _, rfl, rfl, SqT.of hp, atI_nat (j := 2) rfl, _, rfl, a, _, _, _, rfl, rfl, SqT.of hp, atI_nat (j := 4) rfl, _, _, rfl, rfl, _, _, rfl, rfl, k⟩
    · refine iteC (decide_eq_false e) ?_
      rw [decide_eq_false e, Bool.false_and] at k
      exact k
end
end B68
namespace B68
open PySem L2 S2
def SideSays (H : Hp) (kvs : List (List Key × V)) (sd : Str) (n : Str) (row till high e0 : Int) (g : Pl → Int) (e : Int) : Prop :=
  (n = "" ∧ e = e0) ∨ (n ≠ "" ∧ ∃ (a : Addr) (p : Pl), valV kvs [.inr n, .inr sd] = some (.ref a) ∧ H a = some (.tup (plRow p)) ∧ lawTou row high p = true ∧ lawTou (till - 1) high p = true ∧ e = g p)
def spLBarred : Sp := fun vs H Q _ => ∃ (d c o : Addr) (kvs : List (List Key × V)) (t : Tri) (f : Fl) (W row e0 e1 : Int), vs = [.int W, .ref d, .ref c, .int row, .ref o] ∧ H d = some (.dT kvs) ∧ H c = some (.tup (triV t)) ∧ H o = some (.tup (flRow f)) ∧
  SideSays H kvs "left" t.2.1 row t.1 f.h 0 (fun p => p.x + p.w) e0 ∧ SideSays H kvs "right" t.2.2 row t.1 f.h W (fun p => p.x) e1 ∧ e1 - e0 < f.w ∧ ∀ H', Same H H' → Q (.bl true) H'
section
variable {P : Program} {w : World} {K : PySem.W.Frag} {mg : Str → Option Value} {base : Heap}
theorem scLBarred : FnScope ["_law_wide", "_law_ahead", "_law_triple", "_law_row", "_law_one", "_law_till", "_law_left", "_law_right", "_law_ends", "_law_k", "_law_name", "_law_thing"] ["_law_wide", "_law_ahead", "_law_triple", "_law_row", "_law_one"] (defScope sLBarred) := ⟨rfl, rfl, rfl, by decide +kernel, rfl, by decide +kernel, by decide +kernel⟩
set_option maxHeartbeats 4000000 in
theorem ok_lbarred {f f1 : Addr} {fd d1 : FuncData} (F : Fun K "_law_barred" "_law_barred" sLBarred f fd) (N : Names mg) (G1 : FnOk P w K mg base CX0 1 f1 d1 ["_law_thing", "_law_row", "_law_high"] spLTouch) (b1 : Binds K d1 ["_law_thing", "_law_row", "_law_high"] []) (m1 : mg "_law_touch" = some (.ref f1)) (k1 : PySem.W.keepIn K (.ref f1) = true) :
    FnOk P w K mg base CX0 2 f fd ["_law_wide", "_law_ahead", "_law_triple", "_law_row", "_law_one"] spLBarred := by
  refine F.ok scLBarred (fun vs H Q E h => ?_) (fun cdv A outer s H vs Q E hr h => ?_)
  · obtain ⟨d, c, o, kvs, t, fl, W, row, e0, e1, e, _⟩ := h
    rw [e]
    rfl
  · obtain ⟨d, c, o, kvs, t, fl, W, row, e0, e1, e, hd, hc, ho, hL, hR, hlt, k⟩ := h
    subst e
    have hu : (A.deeper (PyProof.Rows.envOfC "_law_barred" (defScope sLBarred) s.heap.objs.size f cdv)).units + 1 < cLine := by have := hr.units; omega
    refine ⟨_, pss_cons (ps_asg (pv 2) (pg_tup rfl (pgs_cons (pg_name (i := 5) scLBarred.nd rfl (Or.inl rfl)) (pgs_cons (pg_name (i := 6) scLBarred.nd rfl (Or.inl rfl)) (pgs_cons (pg_name (i := 7) scLBarred.nd rfl (Or.inl rfl)) pgs_nil)))))
      (pss_cons (ps_set (i := 8) scLBarred.nd rfl (Or.inl rfl) (pe_lst (pa_cons pe_int (pa_cons (pv 0) pa_nil))))
      (pss_cons (ps_for PassesOwn.never rfl (pi_enL0 rfl N.enum (pa_cons (pe_lst (pa_cons (pv 6) (pa_cons (pv 7) pa_nil))) pa_nil)) (pg_tup rfl (pgs_cons (pg_name (i := 9) scLBarred.nd rfl (Or.inl rfl)) (pgs_cons (pg_name (i := 10) scLBarred.nd rfl (Or.inl rfl)) pgs_nil)))
        (pss_one (ps_if (pt_cmpR op_ne (pv 10) pe_str (nomark _))
          (pss_cons (ps_if (pt_cmp (pc_dnotin hu (pe_tup (pa_cons (pv 10) (pa_cons (pe_ix ix_list (pe_lst (pa_cons pe_str (pa_cons pe_str pa_nil))) (pv 9) (fun _ _ => rfl)) pa_nil))) (pv 1))) (pss_one (ps_ret pe_bl)) pss_nil)
          (pss_cons (ps_set (i := 11) scLBarred.nd rfl (Or.inl rfl) (pe_dget hu (pv 1) (pe_tup (pa_cons (pv 10) (pa_cons (pe_ix ix_list (pe_lst (pa_cons pe_str (pa_cons pe_str pa_nil))) (pv 9) (fun _ _ => rfl)) pa_nil))) (fun _ _ => rfl)))
          (pss_cons (ps_if (pw_or (pt_not (pt_val (pe_call G1 hr (by rfl) m1 k1 b1 .nil pass0 (pa_cons (pv 11) (pa_cons (pv 3) (pa_cons (pe_ix ix_tup (pv 4) pe_int (fun _ _ => rfl)) pa_nil)))))) (pw_or1 (pt_not (pt_val (pe_call G1 hr (by rfl) m1 k1 b1 .nil pass0 (pa_cons (pv 11) (pa_cons (pe_op op_sub (pv 5) pe_int) (pa_cons (pe_ix ix_tup (pv 4) pe_int (fun _ _ => rfl)) pa_nil)))))))).pt (pss_one (ps_ret pe_bl)) pss_nil)
          (pss_one (ps_asg (pe_ix ix_list (pe_lst (pa_cons (pe_op op_add (pe_ix ix_tup (pv 11) pe_int (fun _ _ => rfl)) (pe_ix ix_tup (pv 11) pe_int (fun _ _ => rfl))) (pa_cons (pe_ix ix_tup (pv 11) pe_int (fun _ _ => rfl)) pa_nil))) (pv 9) (fun _ _ => rfl)) (pg_sub (pv 8) (pv 9) set_list)))))) pss_nil)))
      (pss_one (ps_ret (pe_cmpR op_lt (pe_op op_sub (pe_ix ix_list (pv 8) pe_int (fun _ _ => rfl)) (pe_ix ix_list (pv 8) pe_int (fun _ _ => rfl))) (pe_ix ix_tup (pv 4) pe_int (fun _ _ => rfl)) (nomark _)))))), ?_⟩
    refine ⟨_, rfl, c, _, rfl, SqT.of hc, rfl, _, _, rfl, _, _, rfl, _, _, rfl, rfl, ?_⟩
    refine ⟨_, rfl, (by show 2 ≤ sizeLine; decide), fun le hle => ?_⟩
    have s1 : Same H (upd H le (.lst [.int 0, .int W])) := Same.put (Same.refl _) hle
    have h1 : (upd H le (.lst [.int 0, .int W])) le = some (.lst [.int 0, .int W]) := upd_same
    generalize upd H le (.lst [.int 0, .int W]) = H1 at *
    refine ⟨_, rfl, _, rfl, (by show 2 ≤ sizeLine; decide), fun ll hll => ?_⟩
    have s2 : Same H1 (upd H1 ll (.lst [.str t.2.1, .str t.2.2])) := Same.put (Same.refl _) hll
    have h2 : (upd H1 ll (.lst [.str t.2.1, .str t.2.2])) ll = some (.lst [.str t.2.1, .str t.2.2]) := upd_same
    generalize upd H1 ll (.lst [.str t.2.1, .str t.2.2]) = H2 at *
    have s02 := Same.trans s1 s2
    refine ⟨ll, rfl, ⟨_, SqL.of h2⟩, ?_⟩
    refine for_en (xs := [V.str t.2.1, V.str t.2.2]) (fun i σ H9 => ∃ v9 v10 v11, σ = [some (.int W), some (.ref d), some (.ref c), some (.int row), some (.ref o), some (.int t.1), some (.str t.2.1), some (.str t.2.2), some (.ref le), v9, v10, v11] ∧ Same H H9 ∧ H9 ll = some (.lst [.str t.2.1, .str t.2.2]) ∧ H9 le = some (.lst [.int (if 1 ≤ i then e0 else 0), .int (if 2 ≤ i then e1 else W)]))
      ⟨none, none, none, rfl, s02, h2, s2 _ _ h1⟩ (fun i σ H9 _ ⟨_, _, _, _, _, z, _⟩ => (SqL.of z : SqL K H9 ll [V.str t.2.1, V.str t.2.2])) ?_ ?_
    · rintro i x p0 σ H9 hx hp0 ⟨v9, v10, v11, rfl, s9, hll9, hle9⟩
      match i, hx with
      | 0, hx => 
        cases hx
        have s10 : Same H9 (upd H9 p0 (.tup [.int (0 + ((0 : Nat) : Int)), .str t.2.1])) := Same.put (Same.refl _) hp0
        have hp10 : (upd H9 p0 (.tup [.int (0 + ((0 : Nat) : Int)), .str t.2.1])) p0 = some (.tup [.int (0 + ((0 : Nat) : Int)), .str t.2.1]) := upd_same
        have hl10 := s10 _ _ hll9
        have he10 := s10 _ _ hle9
        generalize upd H9 p0 (.tup [.int (0 + ((0 : Nat) : Int)), .str t.2.1]) = H10 at *
        have S10 := Same.trans s9 s10
        refine ⟨p0, _, rfl, SqT.of hp10, rfl, _, _, rfl, _, _, rfl, rfl, ?_⟩
        refine ⟨_, rfl, rfl, _, rfl, ?_⟩
        rcases hL with ⟨hn, he⟩ | ⟨hn, ap, pl, hv, ha, t1, t2, he⟩
        · refine iteNS (by rw [hn]) ?_
          refine (show ∃ v9 v10 v11, _ from ⟨_, _, _, rfl, S10, hl10, ?_⟩)
          rw [he10]
          show some (HO.lst [_, _]) = some (HO.lst [_, _])
          rw [he]
          rfl
        · refine iteB (by rw [decide_eq_false (fun z => hn (V.str.inj z))]; rfl) ?_
          refine ⟨_, rfl, (by show 2 ≤ sizeLine; decide), fun l2 hl2 => ?_⟩
          have s11 : Same H10 (upd H10 l2 (.lst [.str "left", .str "right"])) := Same.put (Same.refl _) hl2
          have h11 : (upd H10 l2 (.lst [.str "left", .str "right"])) l2 = some (.lst [.str "left", .str "right"]) := upd_same
          generalize upd H10 l2 (.lst [.str "left", .str "right"]) = H11 at *
          refine ⟨_, rfl, l2, _, _, _, rfl, rfl, SqL.of h11, atI_of (j := 0) rfl rfl, (by show 2 ≤ sizeLine; decide), fun k2 hk2 => ?_⟩
          have s12 : Same H11 (upd H11 k2 (.tup [.str t.2.1, .str "left"])) := Same.put (Same.refl _) hk2
          have h12 : (upd H11 k2 (.tup [.str t.2.1, .str "left"])) k2 = some (.tup (([.inr t.2.1, .inr "left"] : List Key).map kV)) := upd_same
          generalize upd H11 k2 (.tup [.str t.2.1, .str "left"]) = H12 at *
          have S12 := Same.trans S10 (Same.trans s11 s12)
          have g12 : DGet H12 d (.ref k2) (some (.ref ap)) := by
            have := DGet.t (S12 _ _ hd) h12
            rw [hv] at this
            exact this
          refine ⟨_, rfl, d, _, rfl, g12, _, rfl, iteF ?_⟩
          refine ⟨_, rfl, _, rfl, (by show 2 ≤ sizeLine; decide), fun l3 hl3 => ?_⟩
          have s13 : Same H12 (upd H12 l3 (.lst [.str "left", .str "right"])) := Same.put (Same.refl _) hl3
          have h13 : (upd H12 l3 (.lst [.str "left", .str "right"])) l3 = some (.lst [.str "left", .str "right"]) := upd_same
          generalize upd H12 l3 (.lst [.str "left", .str "right"]) = H13 at *
          refine ⟨_, rfl, l3, _, _, _, rfl, rfl, SqL.of h13, atI_of (j := 0) rfl rfl, (by show 2 ≤ sizeLine; decide), fun k3 hk3 => ?_⟩
          have s14 : Same H13 (upd H13 k3 (.tup [.str t.2.1, .str "left"])) := Same.put (Same.refl _) hk3
          have h14 : (upd H13 k3 (.tup [.str t.2.1, .str "left"])) k3 = some (.tup (([.inr t.2.1, .inr "left"] : List Key).map kV)) := upd_same
          generalize upd H13 k3 (.tup [.str t.2.1, .str "left"]) = H14 at *
          have S14 := Same.trans S12 (Same.trans s13 s14)
          have g14 : DGet H14 d (.ref k3) (some (.ref ap)) := by
            have := DGet.t (S14 _ _ hd) h14
            rw [hv] at this
            exact this
          refine ⟨d, _, rfl, g14, ?_⟩
          have ha14 := S14 _ _ ha
          have ho14 := S14 _ _ ho
          refine ⟨_, rfl, _, rfl, _, rfl, o, _, _, _, rfl, rfl, SqT.of ho14, atI_nat (j := 3) rfl, ap, pl, row, fl.h, rfl, ha14, _, rfl, ?_⟩
          rw [t1]
          refine iteF ?_
          refine ⟨_, rfl, _, rfl, _, _, rfl, rfl, _, rfl, o, _, _, _, rfl, rfl, SqT.of ho14, atI_nat (j := 3) rfl, ap, pl, t.1 - 1, fl.h, rfl, ha14, _, rfl, ?_⟩
          rw [t2]
          refine iteF ?_
          refine ⟨_, rfl, ap, _, _, _, rfl, rfl, SqT.of ha14, atI_nat (j := 1) rfl, _, rfl, ap, _, _, _, rfl, rfl, SqT.of ha14, atI_nat (j := 3) rfl, _, _, rfl, rfl, _, rfl, ap, _, _, _, rfl, rfl, SqT.of ha14, atI_nat (j := 1) rfl, (by show 2 ≤ sizeLine; decide), fun l4 hl4 => ?_⟩
          have s15 : Same H14 (upd H14 l4 (.lst [.int (pl.x + pl.w), .int pl.x])) := Same.put (Same.refl _) hl4
          have h15 : (upd H14 l4 (.lst [.int (pl.x + pl.w), .int pl.x])) l4 = some (.lst [.int (pl.x + pl.w), .int pl.x]) := upd_same
          generalize upd H14 l4 (.lst [.int (pl.x + pl.w), .int pl.x]) = H15 at *
          have S15 := Same.trans S14 s15
          have S1015 : Same H10 H15 := Same.trans (Same.trans s11 s12) (Same.trans (Same.trans s13 s14) s15)
          refine ⟨_, rfl, l4, _, _, _, rfl, rfl, SqL.of h15, atI_of (j := 0) rfl rfl, _, rfl, _, rfl, le, _, _, 0, rfl, rfl, S1015 _ _ he10, rfl, ?_⟩
          refine (show ∃ v9 v10 v11, _ from ⟨_, _, _, rfl, Same.put S15 hle, ?_, ?_⟩)
          · rw [upd_ne (fun z => (by rw [← z] at h1; rw [h1] at hll; cases hll))]
            exact S1015 _ _ hl10
          · rw [upd_same]
            show some (HO.lst [_, _]) = some (HO.lst [_, _])
            rw [he]
            rfl
      | 1, hx => 
        cases hx
        have s10 : Same H9 (upd H9 p0 (.tup [.int (0 + ((1 : Nat) : Int)), .str t.2.2])) := Same.put (Same.refl _) hp0
        have hp10 : (upd H9 p0 (.tup [.int (0 + ((1 : Nat) : Int)), .str t.2.2])) p0 = some (.tup [.int (0 + ((1 : Nat) : Int)), .str t.2.2]) := upd_same
        have hl10 := s10 _ _ hll9
        have he10 := s10 _ _ hle9
        generalize upd H9 p0 (.tup [.int (0 + ((1 : Nat) : Int)), .str t.2.2]) = H10 at *
        have S10 := Same.trans s9 s10
        refine ⟨p0, _, rfl, SqT.of hp10, rfl, _, _, rfl, _, _, rfl, rfl, ?_⟩
        refine ⟨_, rfl, rfl, _, rfl, ?_⟩
        rcases hR with ⟨hn, he⟩ | ⟨hn, ap, pl, hv, ha, t1, t2, he⟩
        · refine iteNS (by rw [hn]) ?_
          refine (show ∃ v9 v10 v11, _ from ⟨_, _, _, rfl, S10, hl10, ?_⟩)
          rw [he10]
          show some (HO.lst [_, _]) = some (HO.lst [_, _])
          rw [he]
          rfl
        · refine iteB (by rw [decide_eq_false (fun z => hn (V.str.inj z))]; rfl) ?_
          refine ⟨_, rfl, (by show 2 ≤ sizeLine; decide), fun l2 hl2 => ?_⟩
          have s11 : Same H10 (upd H10 l2 (.lst [.str "left", .str "right"])) := Same.put (Same.refl _) hl2
          have h11 : (upd H10 l2 (.lst [.str "left", .str "right"])) l2 = some (.lst [.str "left", .str "right"]) := upd_same
          generalize upd H10 l2 (.lst [.str "left", .str "right"]) = H11 at *
          refine ⟨_, rfl, l2, _, _, _, rfl, rfl, SqL.of h11, atI_of (j := 1) rfl rfl, (by show 2 ≤ sizeLine; decide), fun k2 hk2 => ?_⟩
          have s12 : Same H11 (upd H11 k2 (.tup [.str t.2.2, .str "right"])) := Same.put (Same.refl _) hk2
          have h12 : (upd H11 k2 (.tup [.str t.2.2, .str "right"])) k2 = some (.tup (([.inr t.2.2, .inr "right"] : List Key).map kV)) := upd_same
          generalize upd H11 k2 (.tup [.str t.2.2, .str "right"]) = H12 at *
          have S12 := Same.trans S10 (Same.trans s11 s12)
          have g12 : DGet H12 d (.ref k2) (some (.ref ap)) := by
            have := DGet.t (S12 _ _ hd) h12
            rw [hv] at this
            exact this
          refine ⟨_, rfl, d, _, rfl, g12, _, rfl, iteF ?_⟩
          refine ⟨_, rfl, _, rfl, (by show 2 ≤ sizeLine; decide), fun l3 hl3 => ?_⟩
          have s13 : Same H12 (upd H12 l3 (.lst [.str "left", .str "right"])) := Same.put (Same.refl _) hl3
          have h13 : (upd H12 l3 (.lst [.str "left", .str "right"])) l3 = some (.lst [.str "left", .str "right"]) := upd_same
          generalize upd H12 l3 (.lst [.str "left", .str "right"]) = H13 at *
          refine ⟨_, rfl, l3, _, _, _, rfl, rfl, SqL.of h13, atI_of (j := 1) rfl rfl, (by show 2 ≤ sizeLine; decide), fun k3 hk3 => ?_⟩
          have s14 : Same H13 (upd H13 k3 (.tup [.str t.2.2, .str "right"])) := Same.put (Same.refl _) hk3
          have h14 : (upd H13 k3 (.tup [.str t.2.2, .str "right"])) k3 = some (.tup (([.inr t.2.2, .inr "right"] : List Key).map kV)) := upd_same
          generalize upd H13 k3 (.tup [.str t.2.2, .str "right"]) = H14 at *
          have S14 := Same.trans S12 (Same.trans s13 s14)
          have g14 : DGet H14 d (.ref k3) (some (.ref ap)) := by
            have := DGet.t (S14 _ _ hd) h14
            rw [hv] at this
            exact this
          refine ⟨d, _, rfl, g14, ?_⟩
          have ha14 := S14 _ _ ha
          have ho14 := S14 _ _ ho
          refine ⟨_, rfl, _, rfl, _, rfl, o, _, _, _, rfl, rfl, SqT.of ho14, atI_nat (j := 3) rfl, ap, pl, row, fl.h, rfl, ha14, _, rfl, ?_⟩
          rw [t1]
          refine iteF ?_
          refine ⟨_, rfl, _, rfl, _, _, rfl, rfl, _, rfl, o, _, _, _, rfl, rfl, SqT.of ho14, atI_nat (j := 3) rfl, ap, pl, t.1 - 1, fl.h, rfl, ha14, _, rfl, ?_⟩
          rw [t2]
          refine iteF ?_
          refine ⟨_, rfl, ap, _, _, _, rfl, rfl, SqT.of ha14, atI_nat (j := 1) rfl, _, rfl, ap, _, _, _, rfl, rfl, SqT.of ha14, atI_nat (j := 3) rfl, _, _, rfl, rfl, _, rfl, ap, _, _, _, rfl, rfl, SqT.of ha14, atI_nat (j := 1) rfl, (by show 2 ≤ sizeLine; decide), fun l4 hl4 => ?_⟩
          have s15 : Same H14 (upd H14 l4 (.lst [.int (pl.x + pl.w), .int pl.x])) := Same.put (Same.refl _) hl4
          have h15 : (upd H14 l4 (.lst [.int (pl.x + pl.w), .int pl.x])) l4 = some (.lst [.int (pl.x + pl.w), .int pl.x]) := upd_same
          generalize upd H14 l4 (.lst [.int (pl.x + pl.w), .int pl.x]) = H15 at *
          have S15 := Same.trans S14 s15
          have S1015 : Same H10 H15 := Same.trans (Same.trans s11 s12) (Same.trans (Same.trans s13 s14) s15)
          refine ⟨_, rfl, l4, _, _, _, rfl, rfl, SqL.of h15, atI_of (j := 1) rfl rfl, _, rfl, _, rfl, le, _, _, 1, rfl, rfl, S1015 _ _ he10, rfl, ?_⟩
          refine (show ∃ v9 v10 v11, _ from ⟨_, _, _, rfl, Same.put S15 hle, ?_, ?_⟩)
          · rw [upd_ne (fun z => (by rw [← z] at h1; rw [h1] at hll; cases hll))]
            exact S1015 _ _ hl10
          · rw [upd_same]
            show some (HO.lst [_, _]) = some (HO.lst [_, _])
            rw [he]
            rfl
    · rintro σ H9 ⟨v9, v10, v11, rfl, s9, hll9, hle9⟩
      refine ⟨_, rfl, le, _, _, _, rfl, rfl, SqL.of hle9, atI_nat (j := 1) rfl, _, rfl, le, _, _, _, rfl, rfl, SqL.of hle9, atI_nat (j := 0) rfl, _, _, rfl, rfl, _, rfl, o, _, _, _, rfl, rfl, SqT.of (s9 _ _ ho), atI_nat (j := 2) rfl, _, _, rfl, rfl, ?_⟩
      have := k H9 s9
      rw [← decide_eq_true hlt] at this
      exact this
end
end B68
namespace B68
open PySem L2 S2
def AheadAt (fls : List Fl) (pa : List Addr) (i : Nat) (kvs : List (List Key × V)) : Prop := kvs.length ≤ i ∧ ∀ j, j < i → valV kvs [.inr (gF fls j).nm, .inr (sideOf (gF fls j).lf)] = some (.ref (pa.getD j 0))
theorem AheadAt.put {fls : List Fl} {pa : List Addr} {i : Nat} {kvs : List (List Key × V)} (hN : NmF fls) (hi : i < fls.length) (h : AheadAt fls pa i kvs) : AheadAt fls pa (i + 1) (putK kvs [.inr (gF fls i).nm, .inr (sideOf (gF fls i).lf)] (.ref (pa.getD i 0))) := by
  refine ⟨Nat.le_trans (length_putK _ _ _) (by have := h.1; omega), fun j hj => ?_⟩
  rw [valV_put]
  by_cases e : j = i
  · subst e
    rw [if_pos rfl]
  · rw [if_neg]
    · exact h.2 j (by omega)
    · intro z
      injection z with z1 _
      injection z1 with z2
      exact e (hN.one j i (by omega) hi z2)
theorem side_says {H : Hp} {W : Int} {fls : List Fl} {pls : List Pl} {pa : List Addr} {kvs : List (List Key × V)} {f : Fl} {row : Int} (hA : AheadAt fls pa pls.length kvs) (hP : ∀ j, j < pls.length → H (pa.getD j 0) = some (.tup (plRow (gP pls j)))) (hnm : ∀ j, j < pls.length → (gP pls j).nm = (gF fls j).nm) (hN : NmOk pls)
    (hp : ∀ p ∈ pls, InW W row p) (hw : f.w ≤ W) (hh : 0 < f.h) (hf : edR W fls pls row f.h - edL fls pls row f.h < f.w) :
    SideSays H kvs "left" (nmOf pls (nrL fls pls row f.h)) row (triRow pls (nrL fls pls row f.h) (nrR fls pls row f.h)) f.h 0 (fun p => p.x + p.w) (edL fls pls row f.h) ∧
    SideSays H kvs "right" (nmOf pls (nrR fls pls row f.h)) row (triRow pls (nrL fls pls row f.h) (nrR fls pls row f.h)) f.h W (fun p => p.x) (edR W fls pls row f.h) := by
  have hT := (noFit hw hf).2.1
  have tl := triRow_le (fls := fls) (pls := pls) (row := row) (h := f.h)
  generalize triRow pls (nrL fls pls row f.h) (nrR fls pls row f.h) = T at *
  refine ⟨?_, ?_⟩
  · cases e : nrL fls pls row f.h with
    | none => exact .inl ⟨rfl, by unfold edL; rw [e]⟩
    | some i =>
      have m := mem_tIdx.mp (bestR_some e).1
      have t1 := tl.1 i e
      have q := hp _ (gP_mem m.2.1)
      refine .inr ⟨hN.ne i m.2.1, pa.getD i 0, gP pls i, ?_, hP i m.2.1, ?_, ?_, by unfold edL; rw [e]⟩
      · have := hA.2 i m.2.1
        rw [m.2.2.1, ← hnm i m.2.1] at this
        exact this
      · rw [lawTou_eq q hh]
        exact m.2.2.2
      · rw [lawTou_eq q hh]
        exact tou_on q (by omega) hh (by omega)
  · cases e : nrR fls pls row f.h with
    | none => exact .inl ⟨rfl, by unfold edR; rw [e]⟩
    | some i =>
      have m := mem_tIdx.mp (bestL_some e).1
      have t1 := tl.2 i e
      have q := hp _ (gP_mem m.2.1)
      refine .inr ⟨hN.ne i m.2.1, pa.getD i 0, gP pls i, ?_, hP i m.2.1, ?_, ?_, by unfold edR; rw [e]⟩
      · have := hA.2 i m.2.1
        rw [m.2.2.1, ← hnm i m.2.1] at this
        exact this
      · rw [lawTou_eq q hh]
        exact m.2.2.2
      · rw [lawTou_eq q hh]
        exact tou_on q (by omega) hh (by omega)
theorem papF_cons {W : Int} {fls : List Fl} {pls : List Pl} {w h row : Int} {n : Nat} {t : Tri} {r : List Tri} (e : (papF W fls pls w h n row).1 = t :: r) : ∃ m, edR W fls pls row h - edL fls pls row h < w ∧ t = (triRow pls (nrL fls pls row h) (nrR fls pls row h), nmOf pls (nrL fls pls row h), nmOf pls (nrR fls pls row h)) ∧
    r = (papF W fls pls w h m t.1).1 ∧ (papF W fls pls w h n row).2 = (papF W fls pls w h m t.1).2 := by
  cases n with
  | zero => cases e
  | succ m =>
    by_cases hf : edR W fls pls row h - edL fls pls row h < w
    · rw [papF, if_pos hf] at e ⊢
      injection e with e1 e2
      subst e1
      exact ⟨m, hf, rfl, e2.symm, rfl⟩
    · rw [papF, if_neg hf] at e
      cases e
theorem papF_nil {W : Int} {fls : List Fl} {pls : List Pl} {w h row : Int} {n : Nat} (e : (papF W fls pls w h n row).1 = []) : (papF W fls pls w h n row).2 = row := by
  cases n with
  | zero => rfl
  | succ m =>
    by_cases hf : edR W fls pls row h - edL fls pls row h < w
    · rw [papF, if_pos hf] at e
      cases e
    · rw [papF, if_neg hf]
end B68
namespace B68
open PySem L2 S2
def spLWalked : Sp := fun vs H Q _ => ∃ (a b q : Addr) (fa pa qa : List Addr) (fls : List Fl) (W : Int), vs = [.int W, .ref a, .ref b, .ref q] ∧ FlAt H a fa fls ∧ PlAt H b pa (allF W fls fls.length).1 ∧ H q = some (.lst (qa.map V.ref)) ∧ PapsAt H qa (allF W fls fls.length).2 ∧ FlsOk W fls ∧ NmF fls ∧ ∀ H', Same H H' → Q (.bl true) H'
section
variable {P : Program} {w : World} {K : PySem.W.Frag} {mg : Str → Option Value} {base : Heap}
theorem scLWalked : FnScope ["_law_wide", "_law_floats_here", "_law_standing", "_law_papers", "_law_ahead", "_law_row", "_law_k", "_law_one", "_law_triple"] ["_law_wide", "_law_floats_here", "_law_standing", "_law_papers"] (defScope sLWalked) := ⟨rfl, rfl, rfl, by decide +kernel, rfl, by decide +kernel, by decide +kernel⟩
set_option maxHeartbeats 4000000 in
theorem ok_lwalked {f f1 : Addr} {fd d1 : FuncData} (F : Fun K "_law_walked" "_law_walked" sLWalked f fd) (N : Names mg) (G1 : FnOk P w K mg base CX0 2 f1 d1 ["_law_wide", "_law_ahead", "_law_triple", "_law_row", "_law_one"] spLBarred) (b1 : Binds K d1 ["_law_wide", "_law_ahead", "_law_triple", "_law_row", "_law_one"] []) (m1 : mg "_law_barred" = some (.ref f1)) (k1 : PySem.W.keepIn K (.ref f1) = true) :
    FnOk P w K mg base CX0 3 f fd ["_law_wide", "_law_floats_here", "_law_standing", "_law_papers"] spLWalked := by
  refine F.ok scLWalked (fun vs H Q E h => ?_) (fun cdv A outer s H vs Q E hr h => ?_)
  · obtain ⟨a, b, q, fa, pa, qa, fls, W, e, _⟩ := h
    rw [e]
    rfl
  · obtain ⟨a, b, q, fa, pa, qa, fls, W, e, hF, hP, hq, hPp, hok, hN, k⟩ := h
    subst e
    have hu : (A.deeper (PyProof.Rows.envOfC "_law_walked" (defScope sLWalked) s.heap.objs.size f cdv)).units + 1 < cLine := by have := hr.units; omega
    refine ⟨_, pss_cons (ps_set (i := 4) scLWalked.nd rfl (Or.inl rfl) pe_dnewT)
      (pss_cons (ps_set (i := 5) scLWalked.nd rfl (Or.inl rfl) pe_int)
      (pss_cons (ps_for PassesOwn.never rfl (pi_enL0 rfl N.enum (pa_cons (pv 1) pa_nil)) (pg_tup rfl (pgs_cons (pg_name (i := 6) scLWalked.nd rfl (Or.inl rfl)) (pgs_cons (pg_name (i := 7) scLWalked.nd rfl (Or.inl rfl)) pgs_nil)))
        (pss_cons (ps_if (pt_not (pt_val (pe_callB call_isinst (by rfl) N.inst PyProof.Rows.boot_isinstance (pa_cons (pe_ix ix_list (pv 3) (pv 6) (fun _ _ => rfl)) (pa_cons (pe_bltn (v := .ty "list") (by rfl) N.list PyProof.Rows.boot_list rfl (by decide)) pa_nil))))) (pss_one (ps_ret pe_bl)) pss_nil)
        (pss_cons (ps_for PassesOwn.never rfl (pi_list (pe_ix ix_list (pv 3) (pv 6) (fun _ _ => rfl))) (pg_name (i := 8) scLWalked.nd rfl (Or.inl rfl))
          (pss_cons (ps_if (pw_or (pt_cmpR op_le (pe_ix ix_tup (pv 8) pe_int (fun _ _ => rfl)) (pv 5) (nomark _)) (pw_or1 (pt_not (pt_val (pe_call G1 hr (by rfl) m1 k1 b1 .nil pass0 (pa_cons (pv 0) (pa_cons (pv 4) (pa_cons (pv 8) (pa_cons (pv 5) (pa_cons (pv 7) pa_nil)))))))))).pt (pss_one (ps_ret pe_bl)) pss_nil)
          (pss_one (ps_set (i := 5) scLWalked.nd rfl (Or.inl rfl) (pe_ix ix_tup (pv 8) pe_int (fun _ _ => rfl))))))
        (pss_cons (ps_if (pt_cmpR op_ne (pe_ix ix_tup (pe_ix ix_list (pv 2) (pv 6) (fun _ _ => rfl)) pe_int (fun _ _ => rfl)) (pv 5) (nomark _)) (pss_one (ps_ret pe_bl)) pss_nil)
        (pss_one (ps_dput hu (pv 4) (pe_slice sl_tup (pv 7) po_none (po_some pe_int)) (pe_ix ix_list (pv 2) (pv 6) (fun _ _ => rfl)) rfl))))))
      (pss_one (ps_ret pe_bl)))), ?_⟩
    have lfa : fa.length = fls.length := by rw [hF.2.1.1, List.length_map]
    have aln := allF_len W fls fls.length
    have lqa : qa.length = fls.length := by rw [hPp.1, aln.2]
    refine fun dd hdd => ?_
    have s1 : Same H (upd H dd (.dT [])) := Same.put (Same.refl _) hdd
    have h1 : (upd H dd (.dT [])) dd = some (.dT []) := upd_same
    generalize upd H dd (.dT []) = H1 at *
    refine ⟨_, rfl, a, rfl, ⟨_, SqL.of (s1 _ _ hF.1)⟩, ?_⟩
    refine for_en (xs := fa.map V.ref) (fun i σ H9 => ∃ (kvs : List (List Key × V)) (v6 v7 v8 : Option V), σ = [some (.int W), some (.ref a), some (.ref b), some (.ref q), some (.ref dd), some (.int (lastRow (allF W fls i).1)), v6, v7, v8] ∧ Same H H9 ∧ H9 dd = some (.dT kvs) ∧ AheadAt fls pa i kvs)
      ⟨[], none, none, none, rfl, s1, h1, Nat.le_refl _, fun j hj => absurd hj (Nat.not_lt_zero _)⟩ (fun i σ H9 _ ⟨_, _, _, _, _, z, _⟩ => (SqL.of (z _ _ hF.1) : SqL K H9 a (fa.map V.ref))) ?_ ?_
    · rintro i x p0 σ H9 hx hp0 ⟨kvs, v6, v7, v8, rfl, s9, hd9, hA⟩
      have hi : i < fls.length := by have := get_lt hx; rw [List.length_map] at this; omega
      have fg := hF.get hi
      have ex : x = V.ref (fa.getD i 0) := by
        rw [List.getElem?_map, fg.1] at hx
        exact (Option.some.inj hx).symm
      subst ex
      have s10 : Same H9 (upd H9 p0 (.tup [.int (0 + (i : Int)), .ref (fa.getD i 0)])) := Same.put (Same.refl _) hp0
      have hp10 : (upd H9 p0 (.tup [.int (0 + (i : Int)), .ref (fa.getD i 0)])) p0 = some (.tup [.int (0 + (i : Int)), .ref (fa.getD i 0)]) := upd_same
      generalize upd H9 p0 (.tup [.int (0 + (i : Int)), .ref (fa.getD i 0)]) = H10 at *
      have S10 := Same.trans s9 s10
      have hd10 := s10 _ _ hd9
      have eq' : qa[i]? = some (qa.getD i 0) := by
        rw [List.getD_eq_getElem?_getD, List.getElem?_eq_getElem (by omega)]
        rfl
      have ept : (allF W fls fls.length).2[i]? = some ((allF W fls fls.length).2.getD i []) := by
        rw [List.getD_eq_getElem?_getD, List.getElem?_eq_getElem (by rw [aln.2]; exact hi)]
        rfl
      obtain ⟨ta, hta, hrt⟩ := (hPp.same S10).2 i _ _ eq' ept
      have aq : atI (qa.map V.ref) (0 + (i : Int)) = some (V.ref (qa.getD i 0)) := atI_of (j := i) (by omega) (by rw [List.getElem?_map, eq']; rfl)
      have pg := fun {H'} (z : Same H H') => (hP.same z).get (i := i) (by rw [aln.1]; exact hi)
      have ap : atI (pa.map V.ref) (0 + (i : Int)) = some (V.ref (pa.getD i 0)) := atI_of (j := i) (by omega) (by rw [List.getElem?_map, (pg (Same.refl _)).1]; rfl)
      refine ⟨p0, _, rfl, SqT.of hp10, rfl, _, _, rfl, _, _, rfl, rfl, ?_⟩
      refine ⟨_, rfl, _, rfl, q, _, _, _, rfl, rfl, SqL.of (S10 _ _ hq), aq, _, "list", _, _, rfl, TyOf.lst hta, kit_list, _, rfl, iteF ?_⟩
      refine ⟨_, rfl, _, rfl, q, _, _, _, rfl, rfl, SqL.of (S10 _ _ hq), aq, _, rfl, ⟨_, SqL.of hta⟩, ?_⟩
      have lk := (allF_len W fls i).1
      have okk := allF_ok hok i (by omega)
      obtain ⟨w1, w2, w3⟩ := hok _ (gF_mem' hi)
      have ets : (allF W fls fls.length).2.getD i [] = (papF W fls (allF W fls i).1 (gF fls i).w (gF fls i).h (cntF (lastRow (allF W fls i).1) (allF W fls i).1) (lastRow (allF W fls i).1)).1 := by
        rw [allP_get hi]
        unfold standF
        rw [lk]
      have ey : (gP (allF W fls fls.length).1 i).y = (papF W fls (allF W fls i).1 (gF fls i).w (gF fls i).h (cntF (lastRow (allF W fls i).1) (allF W fls i).1) (lastRow (allF W fls i).1)).2 := by
        rw [(allF_get hi).1]
        unfold standF
        rw [lk]
      have elr : lastRow (allF W fls (i + 1)).1 = (gP (allF W fls fls.length).1 i).y := by
        rw [(allF_get hi).1]
        show lastRow ((allF W fls i).1 ++ [_]) = _
        rw [lastRow_snoc]
      have hNk : NmOk (allF W fls i).1 := hN.pls (by omega)
      have hnmk : ∀ j, j < (allF W fls i).1.length → (gP (allF W fls i).1 j).nm = (gF fls j).nm := fun j hj => all_nm (by omega)
      have hPk : ∀ {H' : Hp}, Same H H' → ∀ j, j < (allF W fls i).1.length → H' (pa.getD j 0) = some (.tup (plRow (gP (allF W fls i).1 j))) := fun {H'} z j hj => by
        have := ((hP.same z).get (i := j) (by rw [aln.1]; omega)).2
        rw [← (allF_get hi).2, gP_take (by omega) (by rw [aln.1]; omega)]
        exact this
      have hAk : AheadAt fls pa (allF W fls i).1.length kvs := by rw [lk]; exact hA
      generalize (allF W fls fls.length).2.getD i [] = ts at *
      generalize hcn : cntF (lastRow (allF W fls i).1) (allF W fls i).1 = cn at *
      have lta : ta.length = ts.length := by rw [hrt.1, List.length_map]
      refine for_list (K := K) (a := qa.getD i 0) (xs := ta.map V.ref) (fun j σ H11 => ∃ (row : Int) (n : Nat) (v8 : Option V), σ = [some (.int W), some (.ref a), some (.ref b), some (.ref q), some (.ref dd), some (.int row), some (.int (0 + (i : Int))), some (.ref (fa.getD i 0)), v8] ∧ Same H10 H11 ∧ lastRow (allF W fls i).1 ≤ row ∧ ts.drop j = (papF W fls (allF W fls i).1 (gF fls i).w (gF fls i).h n row).1 ∧ (papF W fls (allF W fls i).1 (gF fls i).w (gF fls i).h n row).2 = (gP (allF W fls fls.length).1 i).y)
        ⟨_, cn, _, rfl, Same.refl _, Int.le_refl _, ets, ey.symm⟩ (fun j σ H11 _ ⟨_, _, _, _, z, _⟩ => SqL.of (z _ _ hta)) ?_ ?_
      · rintro j x σ H11 hx ⟨row, n, v8, rfl, s11, hrow, hdr, hy⟩
        obtain ⟨tp, rw0, rfl, ep, er, hp⟩ := (hrt.same s11).get hx
        rw [List.getElem?_map] at er
        cases ef : ts[j]? with
        | none => rw [ef] at er; cases er
        | some t =>
          rw [ef] at er
          cases er
          have hj : j < ts.length := get_lt ef
          have edr : ts.drop j = t :: ts.drop (j + 1) := by
            rw [List.drop_eq_getElem_cons hj]
            rw [List.getElem?_eq_getElem hj] at ef
            rw [Option.some.inj ef]
          rw [edr] at hdr
          obtain ⟨m, hf, et, e3, e4⟩ := papF_cons hdr.symm
          have hT := (noFit w2 hf).2.1
          have inw : ∀ p ∈ (allF W fls i).1, InW W row p := fun p hm => (okk.2 p hm).mono hrow
          have S11 := Same.trans S10 s11
          obtain ⟨sL, sR⟩ := side_says (H := H11) (f := gF fls i) hAk (hPk S11) hnmk hNk inw w2 w3 hf
          have hT' : row < t.1 := by rw [et]; exact hT
          refine ⟨_, rfl, tp, _, _, _, rfl, rfl, SqT.of hp, atI_nat (j := 0) rfl, _, rfl, _, _, rfl, rfl, _, rfl, iteC (decide_eq_false (by omega)) ?_⟩
          refine ⟨_, rfl, _, rfl, _, rfl, _, rfl, _, rfl, dd, tp, fa.getD i 0, kvs, t, gF fls i, W, row, _, _, rfl, s11 _ _ hd10, hp, S11 _ _ fg.2, by rw [et]; exact sL, by rw [et]; exact sR, hf, fun H12 s12 => ⟨_, rfl, iteF ?_⟩⟩
          refine ⟨_, rfl, tp, _, _, _, rfl, rfl, SqT.of (s12 _ _ hp), atI_nat (j := 0) rfl, ?_⟩
          refine (show ∃ row n v8, _ from ⟨t.1, m, _, rfl, Same.trans s11 s12, by omega, e3, by rw [← e4]; exact hy⟩)
      · rintro σ H11 ⟨row, n, v8, rfl, s11, hrow, hdr, hy⟩
        rw [List.length_map, lta, List.drop_length] at hdr
        have hy2 := papF_nil hdr.symm
        rw [hy] at hy2
        have S11 := Same.trans S10 s11
        have f11 := S11 _ _ fg.2
        refine ⟨_, rfl, _, rfl, b, _, _, _, rfl, rfl, SqL.of (S11 _ _ hP.1), ap, _, _, _, _, rfl, rfl, SqT.of (pg S11).2, atI_nat (j := 2) rfl, _, rfl, rfl, _, rfl, iteNS (by rw [hy2]) ?_⟩
        refine ⟨_, rfl, _, rfl, b, _, _, _, rfl, rfl, SqL.of (S11 _ _ hP.1), ap, _, rfl, _, rfl, _, rfl, _, _, rfl, SqT.of f11, (fun z => absurd z.2 (by show ¬ (2 = 4); decide)), fun ks hks => ?_⟩
        have ecut : cutV (flRow (gF fls i)) none (some 2) = [V.str (gF fls i).nm, V.str (sideOf (gF fls i).lf)] := rfl
        rw [ecut]
        have s12 : Same H11 (upd H11 ks (.tup [V.str (gF fls i).nm, V.str (sideOf (gF fls i).lf)])) := Same.put (Same.refl _) hks
        have h12 : (upd H11 ks (.tup [V.str (gF fls i).nm, V.str (sideOf (gF fls i).lf)])) ks = some (.tup (([.inr (gF fls i).nm, .inr (sideOf (gF fls i).lf)] : List Key).map kV)) := upd_same
        generalize upd H11 ks (.tup [V.str (gF fls i).nm, V.str (sideOf (gF fls i).lf)]) = H12 at *
        refine ⟨dd, _, rfl, DPut.t (s12 _ _ (s11 _ _ hd10)) h12 (small (by have := hA.1; have := hF.2.2; omega)), ?_⟩
        refine (show ∃ kvs v6 v7 v8, _ from ⟨_, some (.int (0 + (i : Int))), some (.ref (fa.getD i 0)), v8, (by rw [elr, hy2]), Same.put (Same.trans S11 s12) hdd, upd_same, hA.put hN hi⟩)
    · rintro σ H9 ⟨kvs, v6, v7, v8, rfl, s9, _⟩
      exact k H9 s9
end
end B68
namespace B68
open PySem L2 S2
theorem papF_len {W : Int} {fls : List Fl} {pls : List Pl} {w h : Int} : ∀ (n : Nat) (row : Int), (papF W fls pls w h n row).1.length ≤ n
  | 0, _ => Nat.le_refl _
  | n + 1, row => by
    rw [papF]
    split
    · show ((_ :: (papF W fls pls w h n _).1 : List Tri)).length ≤ n + 1
      rw [List.length_cons]
      exact Nat.succ_le_succ (papF_len n _)
    · exact Nat.zero_le _
theorem paps_small {W : Int} {fls : List Fl} (h : fls.length ≤ 100) : ∀ ts ∈ (allF W fls fls.length).2, ts.length ≤ 100000 := fun ts ht => by
  obtain ⟨k, hk, e⟩ := List.mem_iff_getElem.mp ht
  have hk' : k < fls.length := by rw [(allF_len W fls fls.length).2] at hk; exact hk
  have e2 : (allF W fls fls.length).2.getD k [] = ts := by rw [List.getD_eq_getElem?_getD, List.getElem?_eq_getElem hk, e]; rfl
  rw [allP_get hk'] at e2
  rw [← e2]
  unfold standF
  have a1 := papF_len (W := W) (fls := fls) (pls := (allF W fls k).1) (w := (gF fls (allF W fls k).1.length).w) (h := (gF fls (allF W fls k).1.length).h) (cntF (lastRow (allF W fls k).1) (allF W fls k).1) (lastRow (allF W fls k).1)
  have a2 := cntF_le (lastRow (allF W fls k).1) (allF W fls k).1
  have a3 := (allF_len W fls k).1
  dsimp only
  omega
theorem PapsAt.take {H : Hp} {qa : List Addr} {pps : List (List Tri)} (h : PapsAt H qa pps) (k : Nat) : PapsAt H (qa.take k) (pps.take k) := by
  refine ⟨by rw [List.length_take, List.length_take, h.1], fun j p r e1 e2 => ?_⟩
  rw [List.getElem?_take] at e1 e2
  split at e1
  · rename_i hj
    rw [if_pos hj] at e2
    exact h.2 j p r e1 e2
  · cases e1
theorem PapsAt.drop {H : Hp} {qa : List Addr} {pps : List (List Tri)} (h : PapsAt H qa pps) (k : Nat) : PapsAt H (qa.drop k) (pps.drop k) := by
  refine ⟨by rw [List.length_drop, List.length_drop, h.1], fun j p r e1 e2 => ?_⟩
  rw [List.getElem?_drop] at e1 e2
  exact h.2 _ p r e1 e2
theorem PapsAt.app {H : Hp} {qa qb : List Addr} {pps ppt : List (List Tri)} (h : PapsAt H qa pps) (g : PapsAt H qb ppt) : PapsAt H (qa ++ qb) (pps ++ ppt) := by
  refine ⟨by rw [List.length_append, List.length_append, h.1, g.1], fun j p r e1 e2 => ?_⟩
  by_cases hj : j < qa.length
  · rw [List.getElem?_append_left hj] at e1
    rw [List.getElem?_append_left (by rw [← h.1]; exact hj)] at e2
    exact h.2 j p r e1 e2
  · rw [List.getElem?_append_right (by omega)] at e1
    rw [List.getElem?_append_right (by rw [← h.1]; omega), ← h.1] at e2
    exact g.2 _ p r e1 e2
theorem PapsAt.one {H : Hp} {q : Addr} (h : H q = some (.lst [])) : PapsAt H [q] [[]] := by
  refine ⟨rfl, fun j p r e1 e2 => ?_⟩
  match j, e1, e2 with
  | 0, e1, e2 =>
    cases e1
    cases e2
    exact ⟨[], h, RowsOf.nil⟩
theorem PapsAt.get {H : Hp} {qa : List Addr} {pps : List (List Tri)} (h : PapsAt H qa pps) {i : Nat} (hi : i < pps.length) : ∃ ta, qa[i]? = some (qa.getD i 0) ∧ H (qa.getD i 0) = some (.lst (ta.map V.ref)) ∧ RowsOf H ta ((pps.getD i []).map triV) := by
  have e1 : qa[i]? = some (qa.getD i 0) := by rw [List.getD_eq_getElem?_getD, List.getElem?_eq_getElem (by rw [h.1]; exact hi)]; rfl
  have e2 : pps[i]? = some (pps.getD i []) := by rw [List.getD_eq_getElem?_getD, List.getElem?_eq_getElem hi]; rfl
  obtain ⟨ta, a1, a2⟩ := h.2 i _ _ e1 e2
  exact ⟨ta, e1, a1, a2⟩
theorem RowsOf.set {H : Hp} {as : List Addr} {rows : List (List V)} (h : RowsOf H as rows) {i : Nat} {p : Addr} {r : List V} (hp : H p = some (.tup r)) : RowsOf H (as.set i p) (rows.set i r) := by
  refine ⟨by rw [List.length_set, List.length_set, h.1], fun j q s e1 e2 => ?_⟩
  rw [List.getElem?_set] at e1 e2
  by_cases hj : i = j
  · rw [if_pos hj] at e1 e2
    split at e1
    · cases e1
      split at e2
      · cases e2
        exact hp
      · cases e2
    · cases e1
  · rw [if_neg hj] at e1 e2
    exact h.2 j q s e1 e2
theorem cut_drop (xs : List V) (i : Nat) (h : i ≤ xs.length) : cutV xs (some (i : Int)) none = xs.drop i := by
  unfold cutV
  rw [HT.sIx_none, HT.sIx_nat, Nat.min_eq_left h]
  exact List.take_of_length_le (by rw [List.length_drop]; exact Nat.le_refl _)
theorem getD_emp {α : Type} (xs : List (List α)) (i : Nat) (h : i < xs.length) : (xs.take i ++ [[]] ++ xs.drop (i + 1)).getD i [] = [] := by
  rw [List.getD_eq_getElem?_getD, List.append_assoc, List.getElem?_append_right (by rw [List.length_take]; omega), List.length_take, Nat.min_eq_left (by omega), Nat.sub_self]
  rfl
theorem ixN_nat {n j : Nat} {i : Int} (e : i = (j : Int)) (h : j < n) : ixN n i = some j := by
  unfold ixN
  rw [if_pos (by omega), if_pos (by omega), e, Int.toNat_natCast]
theorem eqRefs {K : PySem.W.Frag} {H : Hp} {n : Nat} {as : List Addr} : ∀ (j : Nat) (x y : V), (as.map V.ref)[j]? = some x → (as.map V.ref)[j]? = some y → EqD K H n x y true := fun j x y e1 e2 => by
  rw [e1] at e2
  cases e2
  rw [List.getElem?_map] at e1
  cases f1 : as[j]? with
  | none => rw [f1] at e1; cases e1
  | some p => rw [f1] at e1; cases e1; exact .same
theorem eqRow {K : PySem.W.Frag} {H : Hp} {n : Nat} {r : List V} (hr : r.all flatV = true) : ∀ (j : Nat) (x y : V), r[j]? = some x → r[j]? = some y → EqD K H n x y true := fun j x y e1 e2 => by
  rw [e1] at e2
  cases e2
  exact EqD.refl (List.all_eq_true.mp hr x (List.mem_of_getElem? e1))
theorem eqRows {K : PySem.W.Frag} {H : Hp} {n : Nat} {as bs : List Addr} {rows : List (List V)} (hA : RowsOf H as rows) (hB : RowsOf H bs rows) (hf : ∀ r ∈ rows, r.all flatV = true) :
    ∀ (j : Nat) (x y : V), (as.map V.ref)[j]? = some x → (bs.map V.ref)[j]? = some y → EqD K H (n + 1) x y true := fun j x y e1 e2 => by
  obtain ⟨p, r, rfl, _, er, hp⟩ := hA.get e1
  obtain ⟨q, r2, rfl, _, er2, hq⟩ := hB.get e2
  rw [er] at er2
  cases er2
  exact EqD.tupT (SqT.of hp) (SqT.of hq) rfl (eqRow (hf r (List.mem_of_getElem? er)))
theorem flat_tri {ts : List Tri} : ∀ r ∈ ts.map triV, r.all flatV = true := fun r hr => by
  obtain ⟨p, _, rfl⟩ := List.mem_map.mp hr
  rfl
theorem eqPaps {K : PySem.W.Frag} {H : Hp} {n : Nat} {as bs : List Addr} {pps : List (List Tri)} (hA : PapsAt H as pps) (hB : PapsAt H bs pps) :
    ∀ (j : Nat) (x y : V), (as.map V.ref)[j]? = some x → (bs.map V.ref)[j]? = some y → EqD K H (n + 2) x y true := fun j x y e1 e2 => by
  rw [List.getElem?_map] at e1 e2
  cases f1 : as[j]? with
  | none => rw [f1] at e1; cases e1
  | some p =>
    cases f2 : bs[j]? with
    | none => rw [f2] at e2; cases e2
    | some q =>
      rw [f1] at e1
      rw [f2] at e2
      cases e1
      cases e2
      have hj : j < pps.length := by rw [← hA.1]; exact get_lt f1
      obtain ⟨ta, h1, h2⟩ := hA.2 j p pps[j] f1 (by simp [hj])
      obtain ⟨tb, g1, g2⟩ := hB.2 j q pps[j] f2 (by simp [hj])
      exact EqD.lstT (SqL.of h1) (SqL.of g1) (by rw [List.length_map, List.length_map, h2.1, g2.1]) (eqRows h2 g2 flat_tri)
theorem gP_set {pls : List Pl} {i : Nat} {p : Pl} (h : i < pls.length) : gP (pls.set i p) i = p := gP_of (by rw [List.getElem?_set, if_pos rfl, if_pos h])
def spLaw (K : PySem.W.Frag) : Sp := fun vs H Q _ => ∃ (a : Addr) (ns : List Int), vs = [.ref a] ∧ SqL K H a (ns.map V.int) ∧ ns.length ≤ 63 ∧ ∀ H', Q (.bl true) H'
section
variable {P : Program} {w : World} {K : PySem.W.Frag} {mg : Str → Option Value} {base : Heap}
abbrev nLaw : List Str := ["_law_script", "_law_cell", "_law_wide", "_law_floats_here", "_law_standing", "_law_papers", "_law_held", "_law_k", "_law_other"]
theorem scLaw : FnScope nLaw ["_law_script"] (defScope sLaw) := ⟨rfl, rfl, rfl, by decide +kernel, rfl, by decide +kernel, by decide +kernel⟩
set_option maxHeartbeats 16000000 in
theorem ok_law {f f1 f2 f3 f4 f5 f6 : Addr} {fd d1 d2 d3 d4 d5 d6 : FuncData} (F : Fun K "law" "law" sLaw f fd) (N : Names mg)
    (G1 : FnOk P w K mg base CX0 1 f1 d1 ["_law_script", "_law_k"] (spCell K)) (b1 : Binds K d1 ["_law_script", "_law_k"] []) (m1 : mg "_law_cell_at" = some (.ref f1)) (k1 : PySem.W.keepIn K (.ref f1) = true)
    (G2 : FnOk P w K mg base CX0 2 f2 d2 ["_law_cell", "_law_many"] spLNames) (b2 : Binds K d2 ["_law_cell", "_law_many"] []) (m2 : mg "_law_names" = some (.ref f2)) (k2 : PySem.W.keepIn K (.ref f2) = true)
    (G3 : FnOk P w K mg base CX0 2 f3 d3 ["_law_names_here", "_law_wide", "_law_cells"] (spLFloats K)) (b3 : Binds K d3 ["_law_names_here", "_law_wide", "_law_cells"] []) (m3 : mg "_law_floats" = some (.ref f3)) (k3 : PySem.W.keepIn K (.ref f3) = true)
    (G4 : FnOk P w K mg base CX0 6 f4 d4 ["W", "floats"] spStandAll) (b4 : Binds K d4 ["W", "floats"] []) (m4 : mg "stand_floats" = some (.ref f4)) (k4 : PySem.W.keepIn K (.ref f4) = true)
    (G5 : FnOk P w K mg base CX0 6 f5 d5 ["W", "floats", "standing", "papers"] spStood) (b5 : Binds K d5 ["W", "floats", "standing", "papers"] []) (m5 : mg "stood" = some (.ref f5)) (k5 : PySem.W.keepIn K (.ref f5) = true)
    (G6 : FnOk P w K mg base CX0 3 f6 d6 ["_law_wide", "_law_floats_here", "_law_standing", "_law_papers"] spLWalked) (b6 : Binds K d6 ["_law_wide", "_law_floats_here", "_law_standing", "_law_papers"] []) (m6 : mg "_law_walked" = some (.ref f6)) (k6 : PySem.W.keepIn K (.ref f6) = true) :
    FnOk P w K mg base CX0 7 f fd ["_law_script"] (spLaw K) := by
  refine F.ok scLaw (fun vs H Q E h => ?_) (fun cdv A outer s H vs Q E hr h => ?_)
  · obtain ⟨a, ns, e, _⟩ := h
    rw [e]
    rfl
  · obtain ⟨a, ns, e, hS, hn, k⟩ := h
    subst e
    have hr1 := hr.mono (j := 1) (by decide)
    have hr2 := hr.mono (j := 2) (by decide)
    have hr3 := hr.mono (j := 3) (by decide)
    have hu : (A.deeper (PyProof.Rows.envOfC "law" (defScope sLaw) s.heap.objs.size f cdv)).units + 20 < cLine := by have := hr.units; omega
    have hu0 : (A.deeper (PyProof.Rows.envOfC "law" (defScope sLaw) s.heap.objs.size f cdv)).units < cLine := by have := hr.units; omega
    refine ⟨_, pss_cons (ps_set (i := 1) scLaw.nd rfl (Or.inl rfl) (pe_call G1 hr1 rfl m1 k1 b1 .nil pass0 (pa_cons (pv 0) (pa_cons pe_int pa_nil))))
      (pss_cons (ps_set (i := 2) scLaw.nd rfl (Or.inl rfl) (pe_op op_add pe_int (pe_ix ix_list (pe_lst (pa_cons (pe_op op_mod (pe_op op_fdiv (pv 1) pe_int) pe_int) (pa_cons (pe_op op_mod (pe_op op_fdiv (pv 1) pe_int) (pe_op op_pow pe_int pe_int)) pa_nil))) (pe_op op_mod (pv 1) pe_int) (fun _ _ => rfl))))
      (pss_cons (ps_set (i := 3) scLaw.nd rfl (Or.inl rfl) (pe_call G3 hr2 (by rfl) m3 k3 b3 .nil pass0 (pa_cons (pe_call G2 hr2 (by rfl) m2 k2 b2 .nil pass0 (pa_cons (pe_call G1 hr1 (by rfl) m1 k1 b1 .nil pass0 (pa_cons (pv 0) (pa_cons pe_int pa_nil))) (pa_cons pe_int pa_nil))) (pa_cons (pv 2) (pa_cons (pe_slice sl_list (pv 0) (po_some pe_int) (po_some pe_int)) pa_nil)))))
      (pss_cons (ps_asg (pe_call G4 hr (by rfl) m4 k4 b4 .nil pass0 (pa_cons (pv 2) (pa_cons (pv 3) pa_nil))) (pg_tup rfl (pgs_cons (pg_name (i := 4) scLaw.nd rfl (Or.inl rfl)) (pgs_cons (pg_name (i := 5) scLaw.nd rfl (Or.inl rfl)) pgs_nil))))
      (pss_cons (ps_set (i := 6) scLaw.nd rfl (Or.inl rfl) (pe_lst (pa_cons (pe_callTy call_list_of (by rfl) N.list PyProof.Rows.boot_list (pa_cons (pv 3) pa_nil)) (pa_cons (pe_callTy call_list_of (by rfl) N.list PyProof.Rows.boot_list (pa_cons (pv 4) pa_nil)) (pa_cons
          (pe_comp (compSc_mk (fs := defScope sLaw) (N := nLaw) rfl rfl (by decide +kernel)) rfl (pi_list (pv 5)) (fun _ _ _ _ _ => pts_nil) (fun _ _ _ _ _ => pe_callTy (call_listK (K := K) rfl) (by rfl) N.list PyProof.Rows.boot_list (pa_cons (pv 0) pa_nil))) pa_nil)))))
      (pss_cons (ps_if (pw_or (pt_cmpR op_isnB (pe_call G5 hr (by rfl) m5 k5 b5 .nil pass0 (pa_cons (pv 2) (pa_cons (pv 3) (pa_cons (pv 4) (pa_cons (pv 5) pa_nil))))) pe_bl (nomark _)) (pw_or1 (pt_cmpR (op_neDeep hu) (pv 6) (pe_lst (pa_cons (pv 3) (pa_cons (pv 4) (pa_cons (pv 5) pa_nil)))) (nomark _)))).pt (pss_one (ps_ret pe_bl)) pss_nil)
      (pss_cons (ps_if (pt_not (pt_val (pe_call G6 hr3 (by rfl) m6 k6 b6 .nil pass0 (pa_cons (pv 2) (pa_cons (pv 3) (pa_cons (pv 4) (pa_cons (pv 5) pa_nil))))))) (pss_one (ps_ret pe_bl)) pss_nil)
      (pss_cons (ps_for PassesOwn.never rfl (pi_range1 (by rfl) N.range (pa_cons (pe_callB call_len_seq (by rfl) N.len PySem.boot_len (pa_cons (pv 3) pa_nil)) pa_nil)) (pg_name (i := 7) scLaw.nd rfl (Or.inl rfl))
        (pss_cons (ps_set (i := 8) scLaw.nd rfl (Or.inl rfl) (pe_callTy call_list_of (by rfl) N.list PyProof.Rows.boot_list (pa_cons (pv 4) pa_nil)))
        (pss_cons (ps_if (pt_cmpR op_gt (pv 7) pe_int (nomark _)) (pss_cons (ps_asg (pe_ix ix_list (pv 4) (pv 7) (fun _ _ => rfl)) (pg_sub (pv 8) (pe_op op_sub (pv 7) pe_int) set_list)) (pss_one (ps_asg (pe_ix ix_list (pv 4) (pe_op op_sub (pv 7) pe_int) (fun _ _ => rfl)) (pg_sub (pv 8) (pv 7) set_list)))) pss_nil)
        (pss_cons (ps_if (pw_and (pt_cmpR op_gt (pv 7) pe_int (nomark _)) (pw_and1 (pt_val (pe_call G5 hr (by rfl) m5 k5 b5 .nil pass0 (pa_cons (pv 2) (pa_cons (pv 3) (pa_cons (pv 8) (pa_cons (pv 5) pa_nil)))))))).pt (pss_one (ps_ret pe_bl)) pss_nil)
        (pss_cons (ps_set (i := 8) scLaw.nd rfl (Or.inl rfl) (pe_op op_cat (pe_op op_cat (pe_slice sl_list (pv 5) po_none (po_some (pv 7))) (pe_lst (pa_cons (pe_lst pa_nil) pa_nil))) (pe_slice sl_list (pv 5) (po_some (pe_op op_add (pv 7) pe_int)) po_none)))
        (pss_cons (ps_if (pw_and (pt_cmpR (op_neN hu0) (pe_ix ix_list (pv 5) (pv 7) (fun _ _ => rfl)) (pe_lst pa_nil) (nomark _)) (pw_and1 (pt_val (pe_call G5 hr (by rfl) m5 k5 b5 .nil pass0 (pa_cons (pv 2) (pa_cons (pv 3) (pa_cons (pv 4) (pa_cons (pv 8) pa_nil)))))))).pt (pss_one (ps_ret pe_bl)) pss_nil)
        (pss_one (ps_if (pt_val (pe_call G5 hr (by rfl) m5 k5 b5 .nil pass0 (pa_cons (pv 2) (pa_cons (pv 3) (pa_cons (pv 4) (pa_cons (pe_op op_cat (pe_slice sl_list (pv 5) po_none (po_some (pv 7))) (pe_slice sl_list (pv 5) (po_some (pe_op op_add (pv 7) pe_int)) po_none)) pa_nil)))))) (pss_one (ps_ret pe_bl)) pss_nil))))))))
      (pss_one (ps_ret (pe_cmpR op_isB (pe_call G5 hr (by rfl) m5 k5 b5 .nil pass0 (pa_cons (pv 2) (pa_cons (pe_lst pa_nil) (pa_cons (pe_lst pa_nil) (pa_cons (pe_lst pa_nil) pa_nil))))) pe_bl (nomark _))))))))))), ?_⟩
    -- cell, width
    refine ⟨_, rfl, a, 1, ns, rfl, hS, hn, fun zc => ?_⟩
    refine ⟨_, rfl, _, _, rfl, rfl, ⟨by decide, by decide⟩, _, _, rfl, rfl, (by show (0 : Int) < 12; decide), _, rfl, _, _, rfl, rfl, ⟨by decide, by decide⟩, _, _, rfl, rfl, ⟨by decide, by decide, by decide⟩, _, _, rfl, rfl, (by show (0 : Int) < 10 ^ Int.toNat 6; decide), (by show 2 ≤ sizeLine; decide), fun lw hlw => ?_⟩
    have s1 : Same H (upd H lw (.lst [.int (zc / 2 % 12), .int (zc / 2 % 10 ^ Int.toNat 6)])) := Same.put (Same.refl _) hlw
    have h1 : (upd H lw (.lst [.int (zc / 2 % 12), .int (zc / 2 % 10 ^ Int.toNat 6)])) lw = some (.lst [.int (zc / 2 % 12), .int (zc / 2 % 10 ^ Int.toNat 6)]) := upd_same
    dsimp only
    generalize upd H lw (.lst [.int (zc / 2 % 12), .int (zc / 2 % 10 ^ Int.toNat 6)]) = H1 at *
    obtain ⟨iW, eW, hiW⟩ := nat_of (z := zc % 2) (n := 2) (by omega) (by omega)
    refine ⟨_, rfl, _, _, rfl, rfl, (by show (0 : Int) < 2; decide), lw, _, _, _, rfl, rfl, SqL.of h1, atI_of eW (two_at hiW), _, _, rfl, rfl, ?_⟩
    have hW : 0 < 1 + (if iW = 0 then zc / 2 % 12 else zc / 2 % 10 ^ Int.toNat 6) := by
      have : 0 ≤ (if iW = 0 then zc / 2 % 12 else zc / 2 % 10 ^ Int.toNat 6) := by
        split
        · omega
        · exact Int.emod_nonneg _ (by decide)
      omega
    dsimp only
    generalize 1 + (if iW = 0 then zc / 2 % 12 else zc / 2 % 10 ^ Int.toNat 6) = W at *
    -- floats
    refine ⟨_, rfl, a, 0, ns, rfl, s1.seq hS, hn, fun z0 => ⟨z0, 12, rfl, by decide, fun ln nms H2 hln s2 h2 hnm hno => ?_⟩⟩
    have s02 := Same.trans s1 s2
    refine ⟨_, rfl, _, rfl, _, rfl, _, rfl, a, _, rfl, s02.seq hS, fun lc hlc => ?_⟩
    have ecut : cutV (ns.map V.int) (some 2) (some 14) = (cellsOf 2 14 ns).map V.int := cells_cut 2 14 ns
    have ecl := cells_len 2 14 ns
    rw [ecut]
    generalize cellsOf 2 14 ns = cs at *
    have s3 : Same H2 (upd H2 lc (.lst (cs.map V.int))) := Same.put (Same.refl _) hlc
    have h3 : (upd H2 lc (.lst (cs.map V.int))) lc = some (.lst (cs.map V.int)) := upd_same
    generalize upd H2 lc (.lst (cs.map V.int)) = H3 at *
    refine ⟨ln, lc, W, nms, cs, rfl, s3 _ _ h2, SqL.of h3, by omega, by omega, hW, fun lf fa fls H4 hlf s4 hF hok hfl hnf => ?_⟩
    have hN : NmF fls := ⟨fun i j hi hj e => hno.1 i j (by omega) (by omega) (by rw [← hnf i hi, ← hnf j hj]; exact e), fun i hi => by rw [hnf i hi]; exact hno.2 i (by omega)⟩
    -- standing, papers
    refine ⟨_, rfl, _, rfl, lf, fa, fls, W, rfl, hF, fun f hf => (hok f hf).2.1, fun t ls lp pa qa H5 hls hlp nlp s5 ht hPl hlp5 hPp hqn => ?_⟩
    refine ⟨t, _, rfl, SqT.of ht, rfl, _, _, rfl, _, _, rfl, rfl, ?_⟩
    have hF5 := hF.same s5
    have aln := allF_len W fls fls.length
    have f100 := hF.2.2
    have lpa : pa.length = fls.length := by rw [hPl.2.1.1, List.length_map, aln.1]
    have lfa : fa.length = fls.length := by rw [hF.2.1.1, List.length_map]
    have lqa : qa.length = fls.length := by rw [hPp.1, aln.2]
    have sm := paps_small (W := W) f100
    have yes := stood_yes hok hN
    -- held
    refine ⟨_, rfl, lf, _, rfl, .inl (SqL.of hF5.1), fun l1 hl1 => ?_⟩
    have s6 : Same H5 (upd H5 l1 (.lst (fa.map V.ref))) := Same.put (Same.refl _) hl1
    have h6 : (upd H5 l1 (.lst (fa.map V.ref))) l1 = some (.lst (fa.map V.ref)) := upd_same
    generalize upd H5 l1 (.lst (fa.map V.ref)) = H6 at *
    refine ⟨_, rfl, ls, _, rfl, .inl (SqL.of (s6 _ _ hPl.1)), fun l2 hl2 => ?_⟩
    have s7 : Same H6 (upd H6 l2 (.lst (pa.map V.ref))) := Same.put (Same.refl _) hl2
    have h7 : (upd H6 l2 (.lst (pa.map V.ref))) l2 = some (.lst (pa.map V.ref)) := upd_same
    generalize upd H6 l2 (.lst (pa.map V.ref)) = H7 at *
    have s57 := Same.trans s6 s7
    have hlp7 := s57 _ _ hlp5
    have hPp7 := hPp.same s57
    refine ⟨_, rfl, lp, rfl, ⟨_, SqL.of hlp7⟩, ?_⟩
    refine comp_listG (K := K) (a := lp) (xs := qa.map V.ref) (fun D i l H' => ∃ ka : List Addr, l = ka.map V.ref ∧ ka.length = i ∧ Same H7 H' ∧ H' D = some (.lst l) ∧ H7 D = none ∧ (∀ q ∈ ka, H7 q = none ∧ q ≠ D) ∧ PapsAt H' ka ((allF W fls fls.length).2.take i)) (small (by rw [List.length_map]; omega))
      (fun D hD => ⟨[], rfl, rfl, Same.put (Same.refl _) hD, upd_same, hD, fun q hq => (by cases hq), ⟨rfl, fun i q ts e => by simp at e⟩⟩) (fun D i l H' ⟨_, _, _, s', _⟩ => SqL.of (s' _ _ hlp7)) (fun D i l H' ⟨ka, e1, e2, _⟩ => by rw [e1, List.length_map, e2]; exact Nat.le_refl _) ?_ ?_
    · intro D j x l H' Q' hx ⟨ka, e1, e2, s', hl', hD, hka, hpp⟩ hq
      subst e1
      rw [List.getElem?_map] at hx
      cases f1 : qa[j]? with
      | none => rw [f1] at hx; cases hx
      | some q =>
        rw [f1] at hx
        cases hx
        have hj : j < (allF W fls fls.length).2.length := by rw [← hPp7.1]; exact get_lt f1
        obtain ⟨ta, g1, g2⟩ := hPp7.2 j q (allF W fls fls.length).2[j] f1 (by simp [hj])
        refine ⟨_, rfl, q, _, rfl, .inl (SqL.of (s' _ _ g1)), fun kq hkq => ?_⟩
        have nkD : D ≠ kq := ne_of_none hl' hkq
        have s'' : Same H' (upd H' kq (.lst (ta.map V.ref))) := Same.put (Same.refl _) hkq
        have hkq7 : H7 kq = none := same_none s' hkq
        refine hq _ _ (s'' _ _ hl') ⟨ka ++ [kq], by rw [List.map_append]; rfl, by rw [List.length_append, e2]; rfl, Same.put (Same.trans s' s'') hD, upd_same, hD, fun z hz => ?_, ?_⟩
        · rcases List.mem_append.mp hz with y | y
          · exact hka z y
          · rw [List.mem_singleton.mp y]
            exact ⟨hkq7, Ne.symm nkD⟩
        · have et : (allF W fls fls.length).2.take (j + 1) = (allF W fls fls.length).2.take j ++ [(allF W fls fls.length).2[j]] := by rw [List.take_add_one, List.getElem?_eq_getElem hj]; rfl
          rw [et]
          have hkq' : (upd H' kq (.lst (ta.map V.ref))) kq = some (.lst (ta.map V.ref)) := upd_same
          have p1 := PapsAt.snoc (hpp.same s'') hkq' ((g2.same s').same s'')
          refine p1.updL (s'' _ _ hl') fun z hz => ?_
          rcases List.mem_append.mp hz with y | y
          · exact (hka z y).2
          · rw [List.mem_singleton.mp y]
            exact Ne.symm nkD
    intro lk l H8 ⟨ka, e1, eka, s8, hk8, hlk, hka, hpp⟩
    subst e1
    rw [List.length_map, lqa, List.take_of_length_le (by rw [aln.2]; exact Nat.le_refl _)] at hpp
    have h68 := Same.trans s7 s8 _ _ h6
    have h78 := s8 _ _ h7
    refine ⟨(by show 3 ≤ sizeLine; decide), fun lh hlh => ?_⟩
    have s9 : Same H8 (upd H8 lh (.lst [.ref l1, .ref l2, .ref lk])) := Same.put (Same.refl _) hlh
    have h9 : (upd H8 lh (.lst [.ref l1, .ref l2, .ref lk])) lh = some (.lst [.ref l1, .ref l2, .ref lk]) := upd_same
    generalize upd H8 lh (.lst [.ref l1, .ref l2, .ref lk]) = H9 at *
    have s59 : Same H5 H9 := Same.trans s57 (Same.trans s8 s9)
    -- let by
    refine ⟨_, rfl, _, rfl, _, rfl, _, rfl, lf, ls, lp, fa, pa, qa, fls, _, _, W, rfl, hF5.same s59, hPl.same s59, s59 _ _ hlp5, hPp.same s59, sm, fun H10 s10 => ?_⟩
    rw [yes]
    refine ⟨_, _, rfl, rfl, _, rfl, iteF ?_⟩
    refine ⟨_, rfl, _, rfl, _, rfl, _, rfl, (by show 3 ≤ sizeLine; decide), fun lg hlg => ?_⟩
    have s11 : Same H10 (upd H10 lg (.lst [.ref lf, .ref ls, .ref lp])) := Same.put (Same.refl _) hlg
    have h11 : (upd H10 lg (.lst [.ref lf, .ref ls, .ref lp])) lg = some (.lst [.ref lf, .ref ls, .ref lp]) := upd_same
    generalize upd H10 lg (.lst [.ref lf, .ref ls, .ref lp]) = H11 at *
    have s911 := Same.trans s10 s11
    have s811 := Same.trans s9 s911
    have S11 := Same.trans s59 s911
    refine ⟨lh, lg, _, _, fun _ => true, rfl, rfl, .inl ⟨SqL.of (s911 _ _ h9), SqL.of h11⟩, rfl, (fun j x y e1 e2 => ?_), _, rfl, ?_⟩
    · match j, e1, e2 with
      | 0, e1, e2 =>
        cases e1
        cases e2
        exact EqD.lstT (SqL.of (s811 _ _ h68)) (SqL.of (S11 _ _ hF5.1)) rfl eqRefs
      | 1, e1, e2 =>
        cases e1
        cases e2
        exact EqD.lstT (SqL.of (s811 _ _ h78)) (SqL.of (S11 _ _ hPl.1)) rfl eqRefs
      | 2, e1, e2 =>
        cases e1
        cases e2
        exact EqD.lstT (SqL.of (s811 _ _ hk8)) (SqL.of (S11 _ _ hlp5)) (by rw [List.length_map, List.length_map, eka, List.length_map]) (eqPaps (hpp.same s811) (hPp.same S11))
    rw [all_true_range]
    refine iteF ?_
    -- walked
    refine ⟨_, rfl, _, rfl, _, rfl, _, rfl, lf, ls, lp, fa, pa, qa, fls, W, rfl, hF5.same S11, hPl.same S11, S11 _ _ hlp5, hPp.same S11, hok, hN, fun H12 s12 => ⟨_, rfl, iteF ?_⟩⟩
    have S12 := Same.trans S11 s12
    have hF12 := hF5.same S12
    have hPl12 := hPl.same S12
    have hlp12 := S12 _ _ hlp5
    have hPp12 := hPp.same S12
    -- each
    refine ⟨_, rfl, lf, _, rfl, .inl (SqL.of hF12.1), _, rfl, by omega, by rw [List.length_map]; omega, ?_⟩
    rw [show (((fa.map V.ref).length : Int)).toNat = fls.length by rw [List.length_map, lfa]; omega]
    refine for_range (n := fls.length) (fun i σ H' => ∃ u7 u8, σ = [some (.ref a), some (.int zc), some (.int W), some (.ref lf), some (.ref ls), some (.ref lp), some (.ref lh), u7, u8] ∧ Same H12 H') ⟨none, none, rfl, Same.refl _⟩ ?_ ?_
    · rintro i σ H13 hi ⟨u7, u8, rfl, s13⟩
      refine ⟨_, rfl, ls, _, rfl, .inl (SqL.of (s13 _ _ hPl12.1)), fun lo hlo => ?_⟩
      have s14 : Same H13 (upd H13 lo (.lst (pa.map V.ref))) := Same.put (Same.refl _) hlo
      have h14 : (upd H13 lo (.lst (pa.map V.ref))) lo = some (.lst (pa.map V.ref)) := upd_same
      have hlo12 : H12 lo = none := same_none s13 hlo
      generalize upd H13 lo (.lst (pa.map V.ref)) = H14 at *
      have s1214 := Same.trans s13 s14
      have hFx := fun {H'} (z : Same H12 H') => hF12.same z
      rcases Nat.eq_zero_or_pos i with h0 | h0
      case' inl =>
        refine ⟨_, rfl, _, _, rfl, rfl, _, rfl, iteC (decide_eq_false (by omega)) ?_⟩
        refine ⟨_, rfl, _, _, rfl, rfl, _, rfl, iteC (decide_eq_false (by omega)) (iteF ?_)⟩
        obtain ⟨H18, eH, s18⟩ : ∃ H18, H18 = H14 ∧ Same H12 H18 := ⟨H14, rfl, s1214⟩
        rw [← eH]
        clear eH
      case' inr =>
        obtain ⟨ai, hai⟩ := hPl12.get (i := i) (by rw [aln.1]; exact hi)
        obtain ⟨aj, haj⟩ := hPl12.get (i := i - 1) (by rw [aln.1]; omega)
        have ai' : (pa.map V.ref)[i]? = some (.ref (pa.getD i 0)) := by rw [List.getElem?_map, ai]; rfl
        have aj' : (pa.map V.ref)[i - 1]? = some (.ref (pa.getD (i - 1) 0)) := by rw [List.getElem?_map, aj]; rfl
        refine ⟨_, rfl, _, _, rfl, rfl, _, rfl, iteB (decide_eq_true (by omega)) ?_⟩
        refine ⟨_, rfl, _, rfl, ls, _, _, _, rfl, rfl, SqL.of (s1214 _ _ hPl12.1), atI_of (j := i) (by omega) ai', _, rfl, _, rfl, _, _, rfl, rfl, lo, _, _, i - 1, rfl, rfl, h14, ixN_nat (by omega) (by rw [List.length_map]; omega), ?_⟩
        have e15 : (pa.map V.ref).set (i - 1) (V.ref (pa.getD i 0)) = (pa.set (i - 1) (pa.getD i 0)).map V.ref := (List.map_set).symm
        rw [e15]
        have s15 : Same H12 (upd H14 lo (.lst ((pa.set (i - 1) (pa.getD i 0)).map V.ref))) := Same.put s1214 hlo12
        have h15 : (upd H14 lo (.lst ((pa.set (i - 1) (pa.getD i 0)).map V.ref))) lo = some (.lst ((pa.set (i - 1) (pa.getD i 0)).map V.ref)) := upd_same
        generalize upd H14 lo (.lst ((pa.set (i - 1) (pa.getD i 0)).map V.ref)) = H15 at *
        refine ⟨_, rfl, _, rfl, _, _, rfl, rfl, ls, _, _, _, rfl, rfl, SqL.of (s15 _ _ hPl12.1), atI_of (j := i - 1) (by omega) aj', _, rfl, _, rfl, lo, _, _, i, rfl, rfl, h15, ixN_nat (by omega) (by rw [List.length_map, List.length_set]; omega), ?_⟩
        have e16 : ((pa.set (i - 1) (pa.getD i 0)).map V.ref).set i (V.ref (pa.getD (i - 1) 0)) = ((pa.set (i - 1) (pa.getD i 0)).set i (pa.getD (i - 1) 0)).map V.ref := (List.map_set).symm
        rw [e16]
        have s16 : Same H12 (upd H15 lo (.lst (((pa.set (i - 1) (pa.getD i 0)).set i (pa.getD (i - 1) 0)).map V.ref))) := Same.put s15 hlo12
        have h16 : (upd H15 lo (.lst (((pa.set (i - 1) (pa.getD i 0)).set i (pa.getD (i - 1) 0)).map V.ref))) lo = some (.lst (((pa.set (i - 1) (pa.getD i 0)).set i (pa.getD (i - 1) 0)).map V.ref)) := upd_same
        generalize upd H15 lo (.lst (((pa.set (i - 1) (pa.getD i 0)).set i (pa.getD (i - 1) 0)).map V.ref)) = H16 at *
        have hP16 : PlAt H16 lo ((pa.set (i - 1) (pa.getD i 0)).set i (pa.getD (i - 1) 0)) (((allF W fls fls.length).1.set (i - 1) (gP (allF W fls fls.length).1 i)).set i (gP (allF W fls fls.length).1 (i - 1))) := by
          refine ⟨h16, ?_, by rw [List.length_set, List.length_set, aln.1]; exact f100⟩
          rw [List.map_set, List.map_set]
          exact RowsOf.set (RowsOf.set (hPl12.same s16).2.1 (s16 _ _ hai)) (s16 _ _ haj)
        refine ⟨_, rfl, _, _, rfl, rfl, _, rfl, iteB (decide_eq_true (by omega)) ?_⟩
        refine ⟨_, rfl, _, rfl, _, rfl, _, rfl, lf, lo, lp, fa, _, qa, fls, _, _, W, rfl, hF12.same s16, hP16, s16 _ _ hlp12, hPp12.same s16, sm, fun H17 s17 => ⟨_, rfl, ?_⟩⟩
        rw [stood_swap hi (by
          rw [gP_set (by rw [List.length_set, aln.1]; exact hi), all_nm (by omega)]
          intro z
          have := hN.one _ _ (by omega) hi z
          omega)]
        refine iteF ?_
        obtain ⟨H18, eH, s18⟩ : ∃ H18, H18 = H17 ∧ Same H12 H18 := ⟨H17, rfl, Same.trans s16 s17⟩
        rw [← eH]
        clear eH
      all_goals
        obtain ⟨ta, aq, hta, hrt⟩ := PapsAt.get hPp12 (i := i) (by rw [aln.2]; exact hi)
        have aq' : (qa.map V.ref)[i]? = some (.ref (qa.getD i 0)) := by rw [List.getElem?_map, aq]; rfl
        have ecut : cutV (qa.map V.ref) none (some (0 + (i : Int))) = (qa.take i).map V.ref := by
          rw [show (0 + (i : Int)) = (i : Int) by omega, cut_take _ _ (by rw [List.length_map]; omega), List.map_take]
        have ecud : cutV (qa.map V.ref) (some (0 + (i : Int) + 1)) none = (qa.drop (i + 1)).map V.ref := by
          rw [show (0 + (i : Int) + 1) = ((i + 1 : Nat) : Int) by omega, cut_drop _ _ (by rw [List.length_map]; omega), List.map_drop]
        have ltk : (qa.take i).length = i := by rw [List.length_take]; omega
        have ldr : (qa.drop (i + 1)).length = fls.length - (i + 1) := by rw [List.length_drop, lqa]
        -- one emptied
        refine ⟨_, rfl, _, rfl, _, rfl, lp, _, rfl, SqL.of (s18 _ _ hlp12), fun c1 hc1 => ?_⟩
        rw [ecut]
        have s19 : Same H18 (upd H18 c1 (.lst ((qa.take i).map V.ref))) := Same.put (Same.refl _) hc1
        have h19 : (upd H18 c1 (.lst ((qa.take i).map V.ref))) c1 = some (.lst ((qa.take i).map V.ref)) := upd_same
        generalize upd H18 c1 (.lst ((qa.take i).map V.ref)) = H19 at *
        refine ⟨smallE (by simp), fun e1 he1 => ?_⟩
        have s20 : Same H19 (upd H19 e1 (.lst [])) := Same.put (Same.refl _) he1
        have h20 : (upd H19 e1 (.lst [])) e1 = some (.lst []) := upd_same
        generalize upd H19 e1 (.lst []) = H20 at *
        refine ⟨(by show 1 ≤ sizeLine; decide), fun e2 he2 => ?_⟩
        have s21 : Same H20 (upd H20 e2 (.lst [.ref e1])) := Same.put (Same.refl _) he2
        have h21 : (upd H20 e2 (.lst [.ref e1])) e2 = some (.lst [.ref e1]) := upd_same
        generalize upd H20 e2 (.lst [.ref e1]) = H21 at *
        have s1921 := Same.trans s20 s21
        refine ⟨c1, e2, _, _, rfl, rfl, s1921 _ _ h19, h21, smallE (by rw [List.length_map, ltk]; show i + 1 ≤ 100000; omega), fun c2 hc2 => ?_⟩
        have e22 : (qa.take i).map V.ref ++ [V.ref e1] = (qa.take i ++ [e1]).map V.ref := by rw [List.map_append]; rfl
        rw [e22]
        have s22 : Same H21 (upd H21 c2 (.lst ((qa.take i ++ [e1]).map V.ref))) := Same.put (Same.refl _) hc2
        have h22 : (upd H21 c2 (.lst ((qa.take i ++ [e1]).map V.ref))) c2 = some (.lst ((qa.take i ++ [e1]).map V.ref)) := upd_same
        generalize upd H21 c2 (.lst ((qa.take i ++ [e1]).map V.ref)) = H22 at *
        have s1222 : Same H12 H22 := Same.trans s18 (Same.trans s19 (Same.trans s1921 s22))
        refine ⟨_, rfl, _, rfl, _, _, rfl, rfl, _, rfl, lp, _, rfl, SqL.of (s1222 _ _ hlp12), fun c3 hc3 => ?_⟩
        rw [ecud]
        have s23 : Same H22 (upd H22 c3 (.lst ((qa.drop (i + 1)).map V.ref))) := Same.put (Same.refl _) hc3
        have h23 : (upd H22 c3 (.lst ((qa.drop (i + 1)).map V.ref))) c3 = some (.lst ((qa.drop (i + 1)).map V.ref)) := upd_same
        generalize upd H22 c3 (.lst ((qa.drop (i + 1)).map V.ref)) = H23 at *
        refine ⟨c2, c3, _, _, rfl, rfl, s23 _ _ h22, h23, smallE (by rw [List.length_map, List.length_map, List.length_append, ltk, ldr]; show i + 1 + _ ≤ 100000; omega), fun c4 hc4 => ?_⟩
        rw [← List.map_append]
        have s24 : Same H23 (upd H23 c4 (.lst ((qa.take i ++ [e1] ++ qa.drop (i + 1)).map V.ref))) := Same.put (Same.refl _) hc4
        have h24 : (upd H23 c4 (.lst ((qa.take i ++ [e1] ++ qa.drop (i + 1)).map V.ref))) c4 = some (.lst ((qa.take i ++ [e1] ++ qa.drop (i + 1)).map V.ref)) := upd_same
        generalize upd H23 c4 (.lst ((qa.take i ++ [e1] ++ qa.drop (i + 1)).map V.ref)) = H24 at *
        have s1224 : Same H12 H24 := Same.trans s1222 (Same.trans s23 s24)
        have h20' : H24 e1 = some (.lst []) := Same.trans s21 (Same.trans s22 (Same.trans s23 s24)) _ _ h20
        refine ⟨_, rfl, _, rfl, lp, _, _, _, rfl, rfl, SqL.of (s1224 _ _ hlp12), atI_of (j := i) (by omega) aq', smallE (by simp), fun e3 he3 => ?_⟩
        have s25 : Same H24 (upd H24 e3 (.lst [])) := Same.put (Same.refl _) he3
        have h25 : (upd H24 e3 (.lst [])) e3 = some (.lst []) := upd_same
        generalize upd H24 e3 (.lst []) = H25 at *
        have s1225 := Same.trans s1224 s25
        refine ⟨_, e3, _, rfl, rfl, SqL.of (s1225 _ _ hta), SqL.of h25, _, rfl, ?_⟩
        have lta : ta.length = ((allF W fls fls.length).2.getD i []).length := by rw [hrt.1, List.length_map]
        have fin : ∀ H26, Same H25 H26 → ∃ H27, H27 = H26 ∧ Same H12 H27 := fun H26 z => ⟨H26, rfl, Same.trans s1225 z⟩
        cases hts : (allF W fls fls.length).2.getD i [] with
        | nil =>
          have e0 : ta = [] := List.eq_nil_of_length_eq_zero (by rw [lta, hts]; rfl)
          subst e0
          refine iteF (iteF ?_)
          obtain ⟨H27, eH, s27⟩ := fin H25 (Same.refl _)
          rw [← eH]
          clear eH
          have h27 := s27 _ _ hlp12
          refine ⟨_, rfl, _, rfl, _, rfl, _, rfl, _, rfl, _, rfl, lp, _, rfl, SqL.of h27, fun g1 hg1 => ?_⟩
          rw [ecut]
          have s28 : Same H27 (upd H27 g1 (.lst ((qa.take i).map V.ref))) := Same.put (Same.refl _) hg1
          have h28 : (upd H27 g1 (.lst ((qa.take i).map V.ref))) g1 = some (.lst ((qa.take i).map V.ref)) := upd_same
          generalize upd H27 g1 (.lst ((qa.take i).map V.ref)) = H28 at *
          refine ⟨_, rfl, _, rfl, _, _, rfl, rfl, _, rfl, lp, _, rfl, SqL.of (s28 _ _ h27), fun g2 hg2 => ?_⟩
          rw [ecud]
          have s29 : Same H28 (upd H28 g2 (.lst ((qa.drop (i + 1)).map V.ref))) := Same.put (Same.refl _) hg2
          have h29 : (upd H28 g2 (.lst ((qa.drop (i + 1)).map V.ref))) g2 = some (.lst ((qa.drop (i + 1)).map V.ref)) := upd_same
          generalize upd H28 g2 (.lst ((qa.drop (i + 1)).map V.ref)) = H29 at *
          refine ⟨g1, g2, _, _, rfl, rfl, s29 _ _ h28, h29, smallE (by rw [List.length_map, List.length_map, ltk, ldr]; omega), fun g3 hg3 => ?_⟩
          rw [← List.map_append]
          have s30 : Same H29 (upd H29 g3 (.lst ((qa.take i ++ qa.drop (i + 1)).map V.ref))) := Same.put (Same.refl _) hg3
          have h30 : (upd H29 g3 (.lst ((qa.take i ++ qa.drop (i + 1)).map V.ref))) g3 = some (.lst ((qa.take i ++ qa.drop (i + 1)).map V.ref)) := upd_same
          generalize upd H29 g3 (.lst ((qa.take i ++ qa.drop (i + 1)).map V.ref)) = H30 at *
          have s1230 : Same H12 H30 := Same.trans s27 (Same.trans s28 (Same.trans s29 s30))
          refine ⟨lf, ls, g3, fa, pa, _, fls, _, _, W, rfl, hF12.same s1230, hPl12.same s1230, h30, PapsAt.app (PapsAt.take (hPp12.same s1230) i) (PapsAt.drop (hPp12.same s1230) (i + 1)), (fun ts ht => by
            rcases List.mem_append.mp ht with y | y
            · exact sm ts (List.mem_of_mem_take y)
            · exact sm ts (List.mem_of_mem_drop y)), fun H31 s31 => ⟨_, rfl, ?_⟩⟩
          rw [stood_short (by rw [List.length_append, List.length_take, List.length_drop, aln.2]; omega)]
          refine iteF ?_
          exact ⟨_, _, rfl, Same.trans s1230 s31⟩
        | cons t1 ts1 =>
          have e0 : (ta.map V.ref).isEmpty = false := by
            cases ta with
            | nil => rw [hts] at lta; cases lta
            | cons _ _ => rfl
          refine iteB (by show (!(ta.map V.ref).isEmpty) = true; rw [e0]; rfl) ?_
          have hPe : PapsAt H25 (qa.take i ++ [e1] ++ qa.drop (i + 1)) ((allF W fls fls.length).2.take i ++ [[]] ++ (allF W fls fls.length).2.drop (i + 1)) := PapsAt.app (PapsAt.app (PapsAt.take (hPp12.same s1225) i) (PapsAt.one (s25 _ _ h20'))) (PapsAt.drop (hPp12.same s1225) (i + 1))
          refine ⟨_, rfl, _, rfl, _, rfl, _, rfl, lf, ls, c4, fa, pa, _, fls, _, _, W, rfl, hF12.same s1225, hPl12.same s1225, s25 _ _ h24, hPe, (fun ts ht => by
            rcases List.mem_append.mp ht with y | y
            · rcases List.mem_append.mp y with y | y
              · exact sm ts (List.mem_of_mem_take y)
              · rw [List.mem_singleton.mp y]; exact Nat.zero_le _
            · exact sm ts (List.mem_of_mem_drop y)), fun H26 s26 => ⟨_, rfl, ?_⟩⟩
          rw [stood_empty hok hi (getD_emp _ _ (by rw [aln.2]; exact hi)) (by rw [hts]; exact List.cons_ne_nil _ _)]
          refine iteF ?_
          obtain ⟨H27, eH, s27⟩ := fin H26 s26
          rw [← eH]
          clear eH
          have h27 := s27 _ _ hlp12
          refine ⟨_, rfl, _, rfl, _, rfl, _, rfl, _, rfl, _, rfl, lp, _, rfl, SqL.of h27, fun g1 hg1 => ?_⟩
          rw [ecut]
          have s28 : Same H27 (upd H27 g1 (.lst ((qa.take i).map V.ref))) := Same.put (Same.refl _) hg1
          have h28 : (upd H27 g1 (.lst ((qa.take i).map V.ref))) g1 = some (.lst ((qa.take i).map V.ref)) := upd_same
          generalize upd H27 g1 (.lst ((qa.take i).map V.ref)) = H28 at *
          refine ⟨_, rfl, _, rfl, _, _, rfl, rfl, _, rfl, lp, _, rfl, SqL.of (s28 _ _ h27), fun g2 hg2 => ?_⟩
          rw [ecud]
          have s29 : Same H28 (upd H28 g2 (.lst ((qa.drop (i + 1)).map V.ref))) := Same.put (Same.refl _) hg2
          have h29 : (upd H28 g2 (.lst ((qa.drop (i + 1)).map V.ref))) g2 = some (.lst ((qa.drop (i + 1)).map V.ref)) := upd_same
          generalize upd H28 g2 (.lst ((qa.drop (i + 1)).map V.ref)) = H29 at *
          refine ⟨g1, g2, _, _, rfl, rfl, s29 _ _ h28, h29, smallE (by rw [List.length_map, List.length_map, ltk, ldr]; omega), fun g3 hg3 => ?_⟩
          rw [← List.map_append]
          have s30 : Same H29 (upd H29 g3 (.lst ((qa.take i ++ qa.drop (i + 1)).map V.ref))) := Same.put (Same.refl _) hg3
          have h30 : (upd H29 g3 (.lst ((qa.take i ++ qa.drop (i + 1)).map V.ref))) g3 = some (.lst ((qa.take i ++ qa.drop (i + 1)).map V.ref)) := upd_same
          generalize upd H29 g3 (.lst ((qa.take i ++ qa.drop (i + 1)).map V.ref)) = H30 at *
          have s1230 : Same H12 H30 := Same.trans s27 (Same.trans s28 (Same.trans s29 s30))
          refine ⟨lf, ls, g3, fa, pa, _, fls, _, _, W, rfl, hF12.same s1230, hPl12.same s1230, h30, PapsAt.app (PapsAt.take (hPp12.same s1230) i) (PapsAt.drop (hPp12.same s1230) (i + 1)), (fun ts ht => by
            rcases List.mem_append.mp ht with y | y
            · exact sm ts (List.mem_of_mem_take y)
            · exact sm ts (List.mem_of_mem_drop y)), fun H31 s31 => ⟨_, rfl, ?_⟩⟩
          rw [stood_short (by rw [List.length_append, List.length_take, List.length_drop, aln.2]; omega)]
          refine iteF ?_
          exact ⟨_, _, rfl, Same.trans s1230 s31⟩
    · rintro σ H13 ⟨u7, u8, rfl, s13⟩
      refine ⟨_, rfl, smallE (by simp), fun e1 he1 => ?_⟩
      have s14 : Same H13 (upd H13 e1 (.lst [])) := Same.put (Same.refl _) he1
      have h14 : (upd H13 e1 (.lst [])) e1 = some (.lst []) := upd_same
      generalize upd H13 e1 (.lst []) = H14 at *
      refine ⟨smallE (by simp), fun e2 he2 => ?_⟩
      have s15 : Same H14 (upd H14 e2 (.lst [])) := Same.put (Same.refl _) he2
      have h15 : (upd H14 e2 (.lst [])) e2 = some (.lst []) := upd_same
      generalize upd H14 e2 (.lst []) = H15 at *
      refine ⟨smallE (by simp), fun e3 he3 => ?_⟩
      have s16 : Same H15 (upd H15 e3 (.lst [])) := Same.put (Same.refl _) he3
      have h16 : (upd H15 e3 (.lst [])) e3 = some (.lst []) := upd_same
      generalize upd H15 e3 (.lst []) = H16 at *
      refine ⟨e1, e2, e3, [], [], [], [], [], [], W, rfl, ⟨Same.trans s15 s16 _ _ h14, RowsOf.nil, Nat.zero_le _⟩, ⟨s16 _ _ h15, RowsOf.nil, Nat.zero_le _⟩, h16, ⟨rfl, fun i q ts e => by simp at e⟩, (fun ts ht => by cases ht), fun H17 s17 => ?_⟩
      exact ⟨_, _, rfl, rfl, k H17⟩
end
end B68
namespace B68
open PySem L2 S2
set_option maxHeartbeats 4000000 in
theorem all_mk {l : PySem.W.OpenLaw} {w : World} {K : PySem.W.Frag} {h : Heap} {mg : Str → Option Value} {fa f1 f2 f3 f4 f5 f6 f7 f8 f9 f10 f11 f12 f13 f14 f15 f16 f17 f18 f19 f20 f21 f22 f23 f24 f25 f26 f27 f28 : Addr} (X : K.In h) (G : h.Ns mainGlobals mg) (hfa : mg "law" = some (.ref fa))
    {od1 an1 od2 an2 od3 an3 od4 an4 od5 an5 od6 an6 od7 an7 od8 an8 od9 an9 od10 an10 od11 an11 od12 an12 od13 an13 od14 an14 od15 an15 od16 an16 od17 an17 od18 an18 od19 an19 od20 an20 od21 an21 od22 an22 od23 an23 od24 an24 od25 an25 od26 an26 od27 an27 od28 an28 : Option Addr} {sl1 sl2 sl3 sl4 sl5 sl6 sl7 sl8 sl9 sl10 sl11 sl12 sl13 sl14 sl15 sl16 sl17 sl18 sl19 sl20 sl21 sl22 sl23 sl24 sl25 sl26 sl27 sl28 : Array (Option Value)} {oc1 kV1 dc1 pm1 cd1 ct1 oc2 kV2 dc2 pm2 cd2 ct2 oc3 kV3 dc3 pm3 cd3 ct3 oc4 kV4 dc4 pm4 cd4 ct4 oc5 kV5 dc5 pm5 cd5 ct5 oc6 kV6 dc6 pm6 cd6 ct6 oc7 kV7 dc7 pm7 cd7 ct7 oc8 kV8 dc8 pm8 cd8 ct8 oc9 kV9 dc9 pm9 cd9 ct9 oc10 kV10 dc10 pm10 cd10 ct10 oc11 kV11 dc11 pm11 cd11 ct11 oc12 kV12 dc12 pm12 cd12 ct12 oc13 kV13 dc13 pm13 cd13 ct13 oc14 kV14 dc14 pm14 cd14 ct14 oc15 kV15 dc15 pm15 cd15 ct15 oc16 kV16 dc16 pm16 cd16 ct16 oc17 kV17 dc17 pm17 cd17 ct17 oc18 kV18 dc18 pm18 cd18 ct18 oc19 kV19 dc19 pm19 cd19 ct19 oc20 kV20 dc20 pm20 cd20 ct20 oc21 kV21 dc21 pm21 cd21 ct21 oc22 kV22 dc22 pm22 cd22 ct22 oc23 kV23 dc23 pm23 cd23 ct23 oc24 kV24 dc24 pm24 cd24 ct24 oc25 kV25 dc25 pm25 cd25 ct25 oc26 kV26 dc26 pm26 cd26 ct26 oc27 kV27 dc27 pm27 cd27 ct27 oc28 kV28 dc28 pm28 cd28 ct28 : Value}
    (a1 : PySem.W.nsIn K mainGlobals "touches" = some (some (.ref f1))) (l1 : K.lookup f1 = some ⟨oc1, od1, .func (PySem.W.fnOf "touches" "touches" (defArgs sTou) (defBody sTou) (defScope sTou) .none kV1 dc1 pm1 an1 cd1 ct1), sl1⟩) (c1 : PySem.W.codeIn K cd1 "touches" = true) (k1 : PySem.W.keepIn K (.ref f1) = true)
    (a2 : PySem.W.nsIn K mainGlobals "touching" = some (some (.ref f2))) (l2 : K.lookup f2 = some ⟨oc2, od2, .func (PySem.W.fnOf "touching" "touching" (defArgs sTouching) (defBody sTouching) (defScope sTouching) .none kV2 dc2 pm2 an2 cd2 ct2), sl2⟩) (c2 : PySem.W.codeIn K cd2 "touching" = true) (k2 : PySem.W.keepIn K (.ref f2) = true)
    (a3 : PySem.W.nsIn K mainGlobals "left_end" = some (some (.ref f3))) (l3 : K.lookup f3 = some ⟨oc3, od3, .func (PySem.W.fnOf "left_end" "left_end" (defArgs sLEnd) (defBody sLEnd) (defScope sLEnd) .none kV3 dc3 pm3 an3 cd3 ct3), sl3⟩) (c3 : PySem.W.codeIn K cd3 "left_end" = true) (k3 : PySem.W.keepIn K (.ref f3) = true)
    (a4 : PySem.W.nsIn K mainGlobals "right_end" = some (some (.ref f4))) (l4 : K.lookup f4 = some ⟨oc4, od4, .func (PySem.W.fnOf "right_end" "right_end" (defArgs sREnd) (defBody sREnd) (defScope sREnd) .none kV4 dc4 pm4 an4 cd4 ct4), sl4⟩) (c4 : PySem.W.codeIn K cd4 "right_end" = true) (k4 : PySem.W.keepIn K (.ref f4) = true)
    (a5 : PySem.W.nsIn K mainGlobals "nearest" = some (some (.ref f5))) (l5 : K.lookup f5 = some ⟨oc5, od5, .func (PySem.W.fnOf "nearest" "nearest" (defArgs sNear) (defBody sNear) (defScope sNear) .none kV5 dc5 pm5 an5 cd5 ct5), sl5⟩) (c5 : PySem.W.codeIn K cd5 "nearest" = true) (k5 : PySem.W.keepIn K (.ref f5) = true)
    (a6 : PySem.W.nsIn K mainGlobals "edges_at" = some (some (.ref f6))) (l6 : K.lookup f6 = some ⟨oc6, od6, .func (PySem.W.fnOf "edges_at" "edges_at" (defArgs sEdges) (defBody sEdges) (defScope sEdges) .none kV6 dc6 pm6 an6 cd6 ct6), sl6⟩) (c6 : PySem.W.codeIn K cd6 "edges_at" = true) (k6 : PySem.W.keepIn K (.ref f6) = true)
    (a7 : PySem.W.nsIn K mainGlobals "place_across" = some (some (.ref f7))) (l7 : K.lookup f7 = some ⟨oc7, od7, .func (PySem.W.fnOf "place_across" "place_across" (defArgs sAcross) (defBody sAcross) (defScope sAcross) .none kV7 dc7 pm7 an7 cd7 ct7), sl7⟩) (c7 : PySem.W.codeIn K cd7 "place_across" = true) (k7 : PySem.W.keepIn K (.ref f7) = true)
    (a8 : PySem.W.nsIn K mainGlobals "triple_of" = some (some (.ref f8))) (l8 : K.lookup f8 = some ⟨oc8, od8, .func (PySem.W.fnOf "triple_of" "triple_of" (defArgs sTriple) (defBody sTriple) (defScope sTriple) .none kV8 dc8 pm8 an8 cd8 ct8), sl8⟩) (c8 : PySem.W.codeIn K cd8 "triple_of" = true) (k8 : PySem.W.keepIn K (.ref f8) = true)
    (a9 : PySem.W.nsIn K mainGlobals "stand_float" = some (some (.ref f9))) (l9 : K.lookup f9 = some ⟨oc9, od9, .func (PySem.W.fnOf "stand_float" "stand_float" (defArgs sStand) (defBody sStand) (defScope sStand) .none kV9 dc9 pm9 an9 cd9 ct9), sl9⟩) (c9 : PySem.W.codeIn K cd9 "stand_float" = true) (k9 : PySem.W.keepIn K (.ref f9) = true)
    (a10 : PySem.W.nsIn K mainGlobals "stand_floats" = some (some (.ref f10))) (l10 : K.lookup f10 = some ⟨oc10, od10, .func (PySem.W.fnOf "stand_floats" "stand_floats" (defArgs sStandAll) (defBody sStandAll) (defScope sStandAll) .none kV10 dc10 pm10 an10 cd10 ct10), sl10⟩) (c10 : PySem.W.codeIn K cd10 "stand_floats" = true) (k10 : PySem.W.keepIn K (.ref f10) = true)
    (a11 : PySem.W.nsIn K mainGlobals "_law_cell_at" = some (some (.ref f11))) (l11 : K.lookup f11 = some ⟨oc11, od11, .func (PySem.W.fnOf "_law_cell_at" "_law_cell_at" (defArgs sCell) (defBody sCell) (defScope sCell) .none kV11 dc11 pm11 an11 cd11 ct11), sl11⟩) (c11 : PySem.W.codeIn K cd11 "_law_cell_at" = true) (k11 : PySem.W.keepIn K (.ref f11) = true)
    (a12 : PySem.W.nsIn K mainGlobals "_law_numbers" = some (some (.ref f12))) (l12 : K.lookup f12 = some ⟨oc12, od12, .func (PySem.W.fnOf "_law_numbers" "_law_numbers" (defArgs sNumbers) (defBody sNumbers) (defScope sNumbers) .none kV12 dc12 pm12 an12 cd12 ct12), sl12⟩) (c12 : PySem.W.codeIn K cd12 "_law_numbers" = true) (k12 : PySem.W.keepIn K (.ref f12) = true)
    (a13 : PySem.W.nsIn K mainGlobals "_law_names" = some (some (.ref f13))) (l13 : K.lookup f13 = some ⟨oc13, od13, .func (PySem.W.fnOf "_law_names" "_law_names" (defArgs sLNames) (defBody sLNames) (defScope sLNames) .none kV13 dc13 pm13 an13 cd13 ct13), sl13⟩) (c13 : PySem.W.codeIn K cd13 "_law_names" = true) (k13 : PySem.W.keepIn K (.ref f13) = true)
    (a14 : PySem.W.nsIn K mainGlobals "_law_floats" = some (some (.ref f14))) (l14 : K.lookup f14 = some ⟨oc14, od14, .func (PySem.W.fnOf "_law_floats" "_law_floats" (defArgs sLFloats) (defBody sLFloats) (defScope sLFloats) .none kV14 dc14 pm14 an14 cd14 ct14), sl14⟩) (c14 : PySem.W.codeIn K cd14 "_law_floats" = true) (k14 : PySem.W.keepIn K (.ref f14) = true)
    (a15 : PySem.W.nsIn K mainGlobals "is_whole" = some (some (.ref f15))) (l15 : K.lookup f15 = some ⟨oc15, od15, .func (PySem.W.fnOf "is_whole" "is_whole" (defArgs sWhole) (defBody sWhole) (defScope sWhole) .none kV15 dc15 pm15 an15 cd15 ct15), sl15⟩) (c15 : PySem.W.codeIn K cd15 "is_whole" = true) (k15 : PySem.W.keepIn K (.ref f15) = true)
    (a16 : PySem.W.nsIn K mainGlobals "is_tuple_of" = some (some (.ref f16))) (l16 : K.lookup f16 = some ⟨oc16, od16, .func (PySem.W.fnOf "is_tuple_of" "is_tuple_of" (defArgs sTupOf) (defBody sTupOf) (defScope sTupOf) .none kV16 dc16 pm16 an16 cd16 ct16), sl16⟩) (c16 : PySem.W.codeIn K cd16 "is_tuple_of" = true) (k16 : PySem.W.keepIn K (.ref f16) = true)
    (a17 : PySem.W.nsIn K mainGlobals "is_list_of" = some (some (.ref f17))) (l17 : K.lookup f17 = some ⟨oc17, od17, .func (PySem.W.fnOf "is_list_of" "is_list_of" (defArgs sLstOf) (defBody sLstOf) (defScope sLstOf) .none kV17 dc17 pm17 an17 cd17 ct17), sl17⟩) (c17 : PySem.W.codeIn K cd17 "is_list_of" = true) (k17 : PySem.W.keepIn K (.ref f17) = true)
    (a18 : PySem.W.nsIn K mainGlobals "is_placed" = some (some (.ref f18))) (l18 : K.lookup f18 = some ⟨oc18, od18, .func (PySem.W.fnOf "is_placed" "is_placed" (defArgs sPlaced) (defBody sPlaced) (defScope sPlaced) .none kV18 dc18 pm18 an18 cd18 ct18), sl18⟩) (c18 : PySem.W.codeIn K cd18 "is_placed" = true) (k18 : PySem.W.keepIn K (.ref f18) = true)
    (a19 : PySem.W.nsIn K mainGlobals "is_triple" = some (some (.ref f19))) (l19 : K.lookup f19 = some ⟨oc19, od19, .func (PySem.W.fnOf "is_triple" "is_triple" (defArgs sIsTri) (defBody sIsTri) (defScope sIsTri) .none kV19 dc19 pm19 an19 cd19 ct19), sl19⟩) (c19 : PySem.W.codeIn K cd19 "is_triple" = true) (k19 : PySem.W.keepIn K (.ref f19) = true)
    (a20 : PySem.W.nsIn K mainGlobals "is_paper" = some (some (.ref f20))) (l20 : K.lookup f20 = some ⟨oc20, od20, .func (PySem.W.fnOf "is_paper" "is_paper" (defArgs sPaper) (defBody sPaper) (defScope sPaper) .none kV20 dc20 pm20 an20 cd20 ct20), sl20⟩) (c20 : PySem.W.codeIn K cd20 "is_paper" = true) (k20 : PySem.W.keepIn K (.ref f20) = true)
    (a21 : PySem.W.nsIn K mainGlobals "in_the_way" = some (some (.ref f21))) (l21 : K.lookup f21 = some ⟨oc21, od21, .func (PySem.W.fnOf "in_the_way" "in_the_way" (defArgs sWay) (defBody sWay) (defScope sWay) .none kV21 dc21 pm21 an21 cd21 ct21), sl21⟩) (c21 : PySem.W.codeIn K cd21 "in_the_way" = true) (k21 : PySem.W.keepIn K (.ref f21) = true)
    (a22 : PySem.W.nsIn K mainGlobals "can_not_stand" = some (some (.ref f22))) (l22 : K.lookup f22 = some ⟨oc22, od22, .func (PySem.W.fnOf "can_not_stand" "can_not_stand" (defArgs sCant) (defBody sCant) (defScope sCant) .none kV22 dc22 pm22 an22 cd22 ct22), sl22⟩) (c22 : PySem.W.codeIn K cd22 "can_not_stand" = true) (k22 : PySem.W.keepIn K (.ref f22) = true)
    (a23 : PySem.W.nsIn K mainGlobals "stands" = some (some (.ref f23))) (l23 : K.lookup f23 = some ⟨oc23, od23, .func (PySem.W.fnOf "stands" "stands" (defArgs sStands) (defBody sStands) (defScope sStands) .none kV23 dc23 pm23 an23 cd23 ct23), sl23⟩) (c23 : PySem.W.codeIn K cd23 "stands" = true) (k23 : PySem.W.keepIn K (.ref f23) = true)
    (a24 : PySem.W.nsIn K mainGlobals "stood" = some (some (.ref f24))) (l24 : K.lookup f24 = some ⟨oc24, od24, .func (PySem.W.fnOf "stood" "stood" (defArgs sStood) (defBody sStood) (defScope sStood) .none kV24 dc24 pm24 an24 cd24 ct24), sl24⟩) (c24 : PySem.W.codeIn K cd24 "stood" = true) (k24 : PySem.W.keepIn K (.ref f24) = true)
    (a25 : PySem.W.nsIn K mainGlobals "_law_touch" = some (some (.ref f25))) (l25 : K.lookup f25 = some ⟨oc25, od25, .func (PySem.W.fnOf "_law_touch" "_law_touch" (defArgs sLTouch) (defBody sLTouch) (defScope sLTouch) .none kV25 dc25 pm25 an25 cd25 ct25), sl25⟩) (c25 : PySem.W.codeIn K cd25 "_law_touch" = true) (k25 : PySem.W.keepIn K (.ref f25) = true)
    (a26 : PySem.W.nsIn K mainGlobals "_law_barred" = some (some (.ref f26))) (l26 : K.lookup f26 = some ⟨oc26, od26, .func (PySem.W.fnOf "_law_barred" "_law_barred" (defArgs sLBarred) (defBody sLBarred) (defScope sLBarred) .none kV26 dc26 pm26 an26 cd26 ct26), sl26⟩) (c26 : PySem.W.codeIn K cd26 "_law_barred" = true) (k26 : PySem.W.keepIn K (.ref f26) = true)
    (a27 : PySem.W.nsIn K mainGlobals "_law_walked" = some (some (.ref f27))) (l27 : K.lookup f27 = some ⟨oc27, od27, .func (PySem.W.fnOf "_law_walked" "_law_walked" (defArgs sLWalked) (defBody sLWalked) (defScope sLWalked) .none kV27 dc27 pm27 an27 cd27 ct27), sl27⟩) (c27 : PySem.W.codeIn K cd27 "_law_walked" = true) (k27 : PySem.W.keepIn K (.ref f27) = true)
    (a28 : PySem.W.nsIn K mainGlobals "law" = some (some (.ref f28))) (l28 : K.lookup f28 = some ⟨oc28, od28, .func (PySem.W.fnOf "law" "law" (defArgs sLaw) (defBody sLaw) (defScope sLaw) .none kV28 dc28 pm28 an28 cd28 ct28), sl28⟩) (c28 : PySem.W.codeIn K cd28 "law" = true) (k28 : PySem.W.keepIn K (.ref f28) = true)
    (z0 : PySem.W.nsIn K mainGlobals "len" = some none) (z1 : PySem.W.nsIn K mainGlobals "max" = some none) (z2 : PySem.W.nsIn K mainGlobals "min" = some none) (z3 : PySem.W.nsIn K mainGlobals "zip" = some none) (z4 : PySem.W.nsIn K mainGlobals "list" = some none) (z5 : PySem.W.nsIn K mainGlobals "tuple" = some none) (z6 : PySem.W.nsIn K mainGlobals "int" = some none) (z7 : PySem.W.nsIn K mainGlobals "isinstance" = some none) (z8 : PySem.W.nsIn K mainGlobals "enumerate" = some none) (z9 : PySem.W.nsIn K mainGlobals "range" = some none) (z10 : PySem.W.nsIn K mainGlobals "all" = some none) (z11 : PySem.W.nsIn K mainGlobals "str" = some none) (z12 : PySem.W.nsIn K mainGlobals "bool" = some none) :
    ∃ fd : FuncData, (∀ (s : Shared) (v : Value), BindsTo s fd ⟨[v], []⟩ [("_law_script", v)]) ∧ ∀ base : Heap, K.In base → base.Ns mainGlobals mg → FnOk l.prog w K mg base CX0 7 fa fd ["_law_script"] (spLaw K) := by
  have e := hfa.symm.trans (PySem.W.mg_of X G a28)
  cases e
  have N : Names mg := ⟨PySem.W.mg_none_of X G z0, PySem.W.mg_none_of X G z1, PySem.W.mg_none_of X G z2, PySem.W.mg_none_of X G z3, PySem.W.mg_none_of X G z4, PySem.W.mg_none_of X G z5, PySem.W.mg_none_of X G z6, PySem.W.mg_none_of X G z7, PySem.W.mg_none_of X G z8, PySem.W.mg_none_of X G z9, PySem.W.mg_none_of X G z10, PySem.W.mg_none_of X G z11, PySem.W.mg_none_of X G z12⟩
  have F1 := fun_mk (st := sTou) l1 c1 k1
  have b1 := F1.binds (ps := ["placed", "row", "high"]) fun _ _ _ _ _ _ us hl => match us, hl with | [_, _, _], _ => rfl
  have m1 := PySem.W.mg_of X G a1
  have F2 := fun_mk (st := sTouching) l2 c2 k2
  have b2 := F2.binds (ps := ["floats", "standing", "side", "row", "high"]) fun _ _ _ _ _ _ us hl => match us, hl with | [_, _, _, _, _], _ => rfl
  have m2 := PySem.W.mg_of X G a2
  have F3 := fun_mk (st := sLEnd) l3 c3 k3
  have b3 := F3.binds (ps := ["placed"]) fun _ _ _ _ _ _ us hl => match us, hl with | [_], _ => rfl
  have m3 := PySem.W.mg_of X G a3
  have F4 := fun_mk (st := sREnd) l4 c4 k4
  have b4 := F4.binds (ps := ["placed"]) fun _ _ _ _ _ _ us hl => match us, hl with | [_], _ => rfl
  have m4 := PySem.W.mg_of X G a4
  have F5 := fun_mk (st := sNear) l5 c5 k5
  have b5 := F5.binds (ps := ["floats", "standing", "row", "high"]) fun _ _ _ _ _ _ us hl => match us, hl with | [_, _, _, _], _ => rfl
  have m5 := PySem.W.mg_of X G a5
  have F6 := fun_mk (st := sEdges) l6 c6 k6
  have b6 := F6.binds (ps := ["W", "floats", "standing", "row", "high"]) fun _ _ _ _ _ _ us hl => match us, hl with | [_, _, _, _, _], _ => rfl
  have m6 := PySem.W.mg_of X G a6
  have F7 := fun_mk (st := sAcross) l7 c7 k7
  have b7 := F7.binds (ps := ["side", "wide", "edges"]) fun _ _ _ _ _ _ us hl => match us, hl with | [_, _, _], _ => rfl
  have m7 := PySem.W.mg_of X G a7
  have F8 := fun_mk (st := sTriple) l8 c8 k8
  have b8 := F8.binds (ps := ["near"]) fun _ _ _ _ _ _ us hl => match us, hl with | [_], _ => rfl
  have m8 := PySem.W.mg_of X G a8
  have F9 := fun_mk (st := sStand) l9 c9 k9
  have b9 := F9.binds (ps := ["W", "floats", "standing", "row"]) fun _ _ _ _ _ _ us hl => match us, hl with | [_, _, _, _], _ => rfl
  have m9 := PySem.W.mg_of X G a9
  have F10 := fun_mk (st := sStandAll) l10 c10 k10
  have b10 := F10.binds (ps := ["W", "floats"]) fun _ _ _ _ _ _ us hl => match us, hl with | [_, _], _ => rfl
  have m10 := PySem.W.mg_of X G a10
  have F11 := fun_mk (st := sCell) l11 c11 k11
  have b11 := F11.binds (ps := ["_law_script", "_law_k"]) fun _ _ _ _ _ _ us hl => match us, hl with | [_, _], _ => rfl
  have m11 := PySem.W.mg_of X G a11
  have F12 := fun_mk (st := sNumbers) l12 c12 k12
  have b12 := F12.binds (ps := ["_law_cell", "_law_many"]) fun _ _ _ _ _ _ us hl => match us, hl with | [_, _], _ => rfl
  have m12 := PySem.W.mg_of X G a12
  have F13 := fun_mk (st := sLNames) l13 c13 k13
  have b13 := F13.binds (ps := ["_law_cell", "_law_many"]) fun _ _ _ _ _ _ us hl => match us, hl with | [_, _], _ => rfl
  have m13 := PySem.W.mg_of X G a13
  have F14 := fun_mk (st := sLFloats) l14 c14 k14
  have b14 := F14.binds (ps := ["_law_names_here", "_law_wide", "_law_cells"]) fun _ _ _ _ _ _ us hl => match us, hl with | [_, _, _], _ => rfl
  have m14 := PySem.W.mg_of X G a14
  have F15 := fun_mk (st := sWhole) l15 c15 k15
  have b15 := F15.binds (ps := ["thing"]) fun _ _ _ _ _ _ us hl => match us, hl with | [_], _ => rfl
  have m15 := PySem.W.mg_of X G a15
  have F16 := fun_mk (st := sTupOf) l16 c16 k16
  have b16 := F16.binds (ps := ["thing", "many"]) fun _ _ _ _ _ _ us hl => match us, hl with | [_, _], _ => rfl
  have m16 := PySem.W.mg_of X G a16
  have F17 := fun_mk (st := sLstOf) l17 c17 k17
  have b17 := F17.binds (ps := ["thing", "many"]) fun _ _ _ _ _ _ us hl => match us, hl with | [_, _], _ => rfl
  have m17 := PySem.W.mg_of X G a17
  have F18 := fun_mk (st := sPlaced) l18 c18 k18
  have b18 := F18.binds (ps := ["thing", "name", "wide", "high"]) fun _ _ _ _ _ _ us hl => match us, hl with | [_, _, _, _], _ => rfl
  have m18 := PySem.W.mg_of X G a18
  have F19 := fun_mk (st := sIsTri) l19 c19 k19
  have b19 := F19.binds (ps := ["thing"]) fun _ _ _ _ _ _ us hl => match us, hl with | [_], _ => rfl
  have m19 := PySem.W.mg_of X G a19
  have F20 := fun_mk (st := sPaper) l20 c20 k20
  have b20 := F20.binds (ps := ["thing"]) fun _ _ _ _ _ _ us hl => match us, hl with | [_], _ => rfl
  have m20 := PySem.W.mg_of X G a20
  have F21 := fun_mk (st := sWay) l21 c21 k21
  have b21 := F21.binds (ps := ["floats", "standing", "side", "rows", "high"]) fun _ _ _ _ _ _ us hl => match us, hl with | [_, _, _, _, _], _ => rfl
  have m21 := PySem.W.mg_of X G a21
  have F22 := fun_mk (st := sCant) l22 c22 k22
  have b22 := F22.binds (ps := ["W", "floats", "standing", "rows", "names"]) fun _ _ _ _ _ _ us hl => match us, hl with | [_, _, _, _, _], _ => rfl
  have m22 := PySem.W.mg_of X G a22
  have F23 := fun_mk (st := sStands) l23 c23 k23
  have b23 := F23.binds (ps := ["W", "floats", "standing", "row", "placed", "paper"]) fun _ _ _ _ _ _ us hl => match us, hl with | [_, _, _, _, _, _], _ => rfl
  have m23 := PySem.W.mg_of X G a23
  have F24 := fun_mk (st := sStood) l24 c24 k24
  have b24 := F24.binds (ps := ["W", "floats", "standing", "papers"]) fun _ _ _ _ _ _ us hl => match us, hl with | [_, _, _, _], _ => rfl
  have m24 := PySem.W.mg_of X G a24
  have F25 := fun_mk (st := sLTouch) l25 c25 k25
  have b25 := F25.binds (ps := ["_law_thing", "_law_row", "_law_high"]) fun _ _ _ _ _ _ us hl => match us, hl with | [_, _, _], _ => rfl
  have m25 := PySem.W.mg_of X G a25
  have F26 := fun_mk (st := sLBarred) l26 c26 k26
  have b26 := F26.binds (ps := ["_law_wide", "_law_ahead", "_law_triple", "_law_row", "_law_one"]) fun _ _ _ _ _ _ us hl => match us, hl with | [_, _, _, _, _], _ => rfl
  have m26 := PySem.W.mg_of X G a26
  have F27 := fun_mk (st := sLWalked) l27 c27 k27
  have b27 := F27.binds (ps := ["_law_wide", "_law_floats_here", "_law_standing", "_law_papers"]) fun _ _ _ _ _ _ us hl => match us, hl with | [_, _, _, _], _ => rfl
  have m27 := PySem.W.mg_of X G a27
  have F28 := fun_mk (st := sLaw) l28 c28 k28
  refine ⟨PySem.W.fnOf "law" "law" (defArgs sLaw) (defBody sLaw) (defScope sLaw) .none kV28 dc28 pm28 an28 cd28 ct28, fun s v => .of_eq rfl, fun base _ _ => ?_⟩
  have GT := ok_tou (P := l.prog) (w := w) (base := base) F1 N
  have GTg := ok_touching (P := l.prog) (w := w) (base := base) F2 N GT b1 m1 k1
  have GL := ok_lend (P := l.prog) (w := w) (mg := mg) (base := base) F3
  have GR := ok_rend (P := l.prog) (w := w) (mg := mg) (base := base) F4
  have GN := ok_near (P := l.prog) (w := w) (base := base) F5 N GTg b2 m2 k2 GR b4 m4 GL b3 m3
  have GE := ok_edges (P := l.prog) (w := w) (base := base) F6 GN b5 m5 k5 GR b4 m4 k4 GL b3 m3 k3
  have GS := ok_stand (P := l.prog) (w := w) (base := base) F9 N GE b6 m6 k6 GN b5 m5 k5 (ok_triple F8 N) b8 m8 k8 (ok_across F7) b7 m7 k7
  have GA := ok_standAll (P := l.prog) (w := w) (base := base) F10 N GS b9 m9 k9
  have GU := ok_numbers (P := l.prog) (w := w) (base := base) F12 N
  have GWh := ok_whole (P := l.prog) (w := w) (base := base) F15 N
  have GTo := ok_tupOf (P := l.prog) (w := w) (base := base) F16 N
  have GLo := ok_lstOf (P := l.prog) (w := w) (base := base) F17 N
  have GPl := ok_placed (P := l.prog) (w := w) (base := base) F18 N GTo b16 m16 k16 GWh b15 m15 k15
  have GTr := ok_isTri (P := l.prog) (w := w) (base := base) F19 N GTo b16 m16 k16 GWh b15 m15 k15
  have GPa := ok_paper (P := l.prog) (w := w) (base := base) F20 N GTr b19 m19 k19
  have GWy := ok_way (P := l.prog) (w := w) (base := base) F21 N GTg b2 m2 k2 GT b1 m1 k1
  have GCa := ok_cant (P := l.prog) (w := w) (base := base) F22 N GWy b21 m21 k21 GR b4 m4 k4 GL b3 m3 k3
  have GSt := ok_stands (P := l.prog) (w := w) (base := base) F23 N GCa b22 m22 k22 GE b6 m6 k6 (ok_across F7) b7 m7 k7
  have GSd := ok_stood (P := l.prog) (w := w) (base := base) F24 N GLo b17 m17 k17 GPl b18 m18 k18 GPa b20 m20 k20 GSt b23 m23 k23
  exact ok_law F28 N (ok_cell F11 N) b11 m11 k11 (ok_lnames F13 N GU b12 m12 k12) b13 m13 k13 (ok_lfloats F14 N GU b12 m12 k12) b14 m14 k14 GA b10 m10 k10 GSd b24 m24 k24 (ok_lwalked F27 N (ok_lbarred F26 N (ok_ltouch F25) b25 m25 k25) b26 m26 k26) b27 m27 k27
theorem walk {l : PySem.W.OpenLaw} {q : Program} {loose : List Str} {XP : (Str → Option Value) → Heap → Prop} {YP : World → Heap → Prop} {d : DefRec} {K : Params → PySem.W.Frag} (hn : l.most = some 63) (hdf : d.params.defaults = [])
    (hY : ∀ (w : World) (h : Heap), YP w h → (K w.params).In h)
    (F : ∀ (w : World) (mg : Str → Option Value) (fa : Addr) (h : Heap), (K w.params).In h → h.Ns mainGlobals mg → mg d.name = some (.ref fa) →
      ∃ fd : FuncData, (∀ (s : Shared) (u : Value), BindsTo s fd ⟨[u], []⟩ [("_law_script", u)]) ∧ ∀ base : Heap, (K w.params).In base → base.Ns mainGlobals mg → FnOk l.prog w (K w.params) mg base CX0 7 fa fd ["_law_script"] (spLaw (K w.params))) :
    PySem.W.WalkO q loose XP YP l.row.toRowW d [] (fun f vs => PySem.call f vs) :=
  L2.walk_of (n := 63) (k := 7) (x := "_law_script") (CX := fun _ => CX0) (sp := fun w => spLaw (K w.params)) hn (by decide) hdf ⟨rfl, by decide, by decide⟩ hY F (fun _ _ a ns hl _ hS => ⟨a, ns, rfl, hS, hl, fun _ => rfl⟩) fun _ _ _ _ _ z => z
end B68
open PySem PySem.W PyProof.Rows
set_option maxRecDepth 100000 in
set_option maxHeartbeats 0 in
theorem PySem.Challenge.cw_boxgalley_k68_papers_of_floats_holds : PySem.Challenge.rw_boxgalley_k68_papers_of_floats.Holds := by
  w_on; o_law; k_head; (case hw => w_witness2)
  k_fill
  refine B68.walk (l := PySem.Challenge.rw_boxgalley_k68_papers_of_floats) rfl rfl (fun w h Y => PySem.W.kIn_of Y) ?F
  case F =>
    intro w mg fa h KX G hmg
    refine' B68.all_mk KX G hmg ?a1 ?l1 ?c1 ?k1 ?a2 ?l2 ?c2 ?k2 ?a3 ?l3 ?c3 ?k3 ?a4 ?l4 ?c4 ?k4 ?a5 ?l5 ?c5 ?k5 ?a6 ?l6 ?c6 ?k6 ?a7 ?l7 ?c7 ?k7 ?a8 ?l8 ?c8 ?k8 ?a9 ?l9 ?c9 ?k9 ?a10 ?l10 ?c10 ?k10 ?a11 ?l11 ?c11 ?k11 ?a12 ?l12 ?c12 ?k12 ?a13 ?l13 ?c13 ?k13 ?a14 ?l14 ?c14 ?k14 ?a15 ?l15 ?c15 ?k15 ?a16 ?l16 ?c16 ?k16 ?a17 ?l17 ?c17 ?k17 ?a18 ?l18 ?c18 ?k18 ?a19 ?l19 ?c19 ?k19 ?a20 ?l20 ?c20 ?k20 ?a21 ?l21 ?c21 ?k21 ?a22 ?l22 ?c22 ?k22 ?a23 ?l23 ?c23 ?k23 ?a24 ?l24 ?c24 ?k24 ?a25 ?l25 ?c25 ?k25 ?a26 ?l26 ?c26 ?k26 ?a27 ?l27 ?c27 ?k27 ?a28 ?l28 ?c28 ?k28 ?z0 ?z1 ?z2 ?z3 ?z4 ?z5 ?z6 ?z7 ?z8 ?z9 ?z10 ?z11 ?z12
    (case a1 => k_is); (case l1 => k_is); (case c1 => k_is); (case k1 => k_is); (case a2 => k_is); (case l2 => k_is)
    (case c2 => k_is); (case k2 => k_is); (case a3 => k_is); (case l3 => k_is); (case c3 => k_is); (case k3 => k_is)
    (case a4 => k_is); (case l4 => k_is); (case c4 => k_is); (case k4 => k_is); (case a5 => k_is); (case l5 => k_is)
    (case c5 => k_is); (case k5 => k_is); (case a6 => k_is); (case l6 => k_is); (case c6 => k_is); (case k6 => k_is)
    (case a7 => k_is); (case l7 => k_is); (case c7 => k_is); (case k7 => k_is); (case a8 => k_is); (case l8 => k_is)
    (case c8 => k_is); (case k8 => k_is); (case a9 => k_is); (case l9 => k_is); (case c9 => k_is); (case k9 => k_is)
    (case a10 => k_is); (case l10 => k_is); (case c10 => k_is); (case k10 => k_is); (case a11 => k_is); (case l11 => k_is)
    (case c11 => k_is); (case k11 => k_is); (case a12 => k_is); (case l12 => k_is); (case c12 => k_is); (case k12 => k_is)
    (case a13 => k_is); (case l13 => k_is); (case c13 => k_is); (case k13 => k_is); (case a14 => k_is); (case l14 => k_is)
    (case c14 => k_is); (case k14 => k_is); (case a15 => k_is); (case l15 => k_is); (case c15 => k_is); (case k15 => k_is)
    (case a16 => k_is); (case l16 => k_is); (case c16 => k_is); (case k16 => k_is); (case a17 => k_is); (case l17 => k_is)
    (case c17 => k_is); (case k17 => k_is); (case a18 => k_is); (case l18 => k_is); (case c18 => k_is); (case k18 => k_is)
    (case a19 => k_is); (case l19 => k_is); (case c19 => k_is); (case k19 => k_is); (case a20 => k_is); (case l20 => k_is)
    (case c20 => k_is); (case k20 => k_is); (case a21 => k_is); (case l21 => k_is); (case c21 => k_is); (case k21 => k_is)
    (case a22 => k_is); (case l22 => k_is); (case c22 => k_is); (case k22 => k_is); (case a23 => k_is); (case l23 => k_is)
    (case c23 => k_is); (case k23 => k_is); (case a24 => k_is); (case l24 => k_is); (case c24 => k_is); (case k24 => k_is)
    (case a25 => k_is); (case l25 => k_is); (case c25 => k_is); (case k25 => k_is); (case a26 => k_is); (case l26 => k_is)
    (case c26 => k_is); (case k26 => k_is); (case a27 => k_is); (case l27 => k_is); (case c27 => k_is); (case k27 => k_is)
    (case a28 => k_is); (case l28 => k_is); (case c28 => k_is); (case k28 => k_is); (case z0 => k_is); (case z1 => k_is)
    (case z2 => k_is); (case z3 => k_is); (case z4 => k_is); (case z5 => k_is); (case z6 => k_is); (case z7 => k_is)
    (case z8 => k_is); (case z9 => k_is); (case z10 => k_is); (case z11 => k_is); (case z12 => k_is)
