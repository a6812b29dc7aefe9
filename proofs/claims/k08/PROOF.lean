import PyProof.Rows.All
import Wide.All
import OpenK.AllK
import Wide.FinOn
import Lean
import PyProof.EqAt
import PyProof.EqKinds
import PyProof.TupleCall
import PyProof.MinMaxWalk
import PyProof.Rows.StrJoin2
import PyProof.Rows.ZipGen
import KE.KDictSum
import PyProof.DictItems
import KE.KEqDict
import KE.KSortTup
import KE.KMinKey
import KE.KLam
import KE.KNestM
import PyProof.NeKinds
import PyProof.AttrMiss
import PyProof.IsiH_list
import KE.KDictOf
import PyProof.Rows.SortStr
import PyProof.Rows.SortWalk
import PyProof.DictUpdate
import PyProof.FString5
import PyProof.StrOps2
import PySem.Challenge.RW_boxgalley_k08_trees_as_texts
set_option Elab.async false
set_option linter.all false
set_option maxRecDepth 100000
namespace L2
open PySem PySem.Spec PyProof.Rows
abbrev Key := Sum Int Str
def keyIs : Key → Value → Bool
  | .inl k, v => Value.isInt k v
  | .inr x, v => Value.isStrOf x v
def keyH (w : World) : Key → Int
  | .inl k => hashInt k
  | .inr x => hashStr w x
theorem keyIs_shape : ∀ {k : Key} {v : Value}, keyIs k v = true → (∃ i t, k = Sum.inl i ∧ v = Value.int i t) ∨ (∃ x t, k = Sum.inr x ∧ v = Value.str x t)
  | .inl i, v, h => by
    obtain ⟨t, e⟩ := Value.isInt_shape (k := i) (v := v) h
    exact .inl ⟨i, t, rfl, e⟩
  | .inr x, v, h => by
    obtain ⟨t, e⟩ := Value.isStrOf_shape (x := x) (v := v) h
    exact .inr ⟨x, t, rfl, e⟩
theorem keyIs_int (i : Int) (t : Tok) : keyIs (.inl i) (.int i t) = true := by simp [keyIs, Value.isInt]
theorem keyIs_str (x : Str) (t : Tok) : keyIs (.inr x) (.str x t) = true := by simp [keyIs, Value.isStrOf]
theorem key_ll (a b : Int) : decide ((Sum.inl a : Key) = Sum.inl b) = (a == b) := by
  by_cases e : a = b
  · subst e; simp
  · have h : ¬ (Sum.inl a : Key) = Sum.inl b := fun q => e (Sum.inl.inj q)
    rw [decide_eq_false h]
    exact (beq_eq_false_iff_ne.mpr e).symm
theorem key_rr (a b : Str) : decide ((Sum.inr a : Key) = Sum.inr b) = decide (a = b) := by
  by_cases e : a = b
  · subst e; simp
  · have h : ¬ (Sum.inr a : Key) = Sum.inr b := fun q => e (Sum.inr.inj q)
    rw [decide_eq_false h, decide_eq_false e]
theorem key_lr (a : Int) (b : Str) : decide ((Sum.inl a : Key) = Sum.inr b) = false := decide_eq_false (fun q => nomatch q)
theorem key_rl (a : Str) (b : Int) : decide ((Sum.inr a : Key) = Sum.inl b) = false := decide_eq_false (fun q => nomatch q)
def mixKind (prog : Program) (w : World) : PySem.KeyKind prog w Key where
  is := keyIs
  hash := keyH w
  inj := fun v a b ha hb => by
    rcases keyIs_shape ha with ⟨i, t, rfl, rfl⟩ | ⟨x, t, rfl, rfl⟩
    · rcases keyIs_shape hb with ⟨j, u, rfl, e⟩ | ⟨y, u, rfl, e⟩
      · injection e with e1 _; rw [e1]
      · exact nomatch e
    · rcases keyIs_shape hb with ⟨j, u, rfl, e⟩ | ⟨y, u, rfl, e⟩
      · exact nomatch e
      · injection e with e1 _; rw [e1]
  byValue := fun k v h => by
    rcases keyIs_shape h with ⟨i, t, rfl, rfl⟩ | ⟨x, t, rfl, rfl⟩ <;> rfl
  pyHash := fun hv h => by
    rcases keyIs_shape hv with ⟨i, t, rfl, rfl⟩ | ⟨x, t, rfl, rfl⟩
    · exact wpAny_pyHash_int h
    · exact wpAny_pyHash_str h
  eqBool := fun hu hv h => by
    rcases keyIs_shape hu with ⟨i, t, rfl, rfl⟩ | ⟨x, t, rfl, rfl⟩
    · rcases keyIs_shape hv with ⟨j, u, rfl, rfl⟩ | ⟨y, u, rfl, rfl⟩
      · rw [key_ll] at h; exact wpAny_eqBool_int h
      · rw [key_lr] at h; exact SeqAt.EqAt.int_str i t y u _ _ _ _ h
    · rcases keyIs_shape hv with ⟨j, u, rfl, rfl⟩ | ⟨y, u, rfl, rfl⟩
      · rw [key_rl] at h; exact SeqAt.EqAt.str_int x t j u _ _ _ _ h
      · rw [key_rr] at h; exact wpAny_eqBool_str h
  «strs» := fun k x t v h => by
    rcases keyIs_shape h with ⟨i, u, rfl, e⟩ | ⟨y, u, rfl, e⟩
    · exact nomatch e
    · injection e with e1 _
      subst e1
      cases v <;> rfl
theorem mixKind_int (prog : Program) (w : World) (i : Int) (t : Tok) : (mixKind prog w).is (.inl i) (.int i t) = true := keyIs_int i t
theorem mixKind_str (prog : Program) (w : World) (x : Str) (t : Tok) : (mixKind prog w).is (.inr x) (.str x t) = true := keyIs_str x t
end L2
namespace L2
open PySem PySem.Spec PyProof.Rows
inductive V where
  | non | bl (b : Bool) | int (i : Int) | str (x : Str) | byt (b : Array UInt8) | flt (b : UInt64) | ref (a : Addr) | ty (n : String)
  deriving DecidableEq
def RelV : V → Value → Prop
  | .non, u => u = Value.none
  | .bl b, u => u = Value.bool b
  | .int i, u => ∃ t, u = Value.int i t
  | .str x, u => ∃ t, u = Value.str x t
  | .byt b, u => ∃ t, u = Value.bytes b t
  | .flt b, u => ∃ t, u = Value.float b t
  | .ref a, u => u = Value.ref a
  | .ty n, u => u = Value.type n
abbrev Vals : List V → List Value → Prop := Paired RelV
theorem Vals.length {xs : List V} {us : List Value} (r : Vals xs us) : xs.length = us.length := Paired.length r
theorem Vals.get : ∀ {xs : List V} {us : List Value} {i : Nat} {x : V}, Vals xs us → xs[i]? = some x → ∃ u, us[i]? = some u ∧ RelV x u
  | _, _, _, _, .nil, e => by simp at e
  | _, _, 0, _, .cons r _, e => by simp at e; subst e; exact ⟨_, rfl, r⟩
  | _, _, i + 1, x, .cons _ t, e => by
    obtain ⟨u, h1, h2⟩ := Vals.get (i := i) (x := x) t (by simpa using e)
    exact ⟨u, by simpa using h1, h2⟩
theorem Vals.set {x : V} {u : Value} (r : RelV x u) : ∀ {xs : List V} {us : List Value} (i : Nat), Vals xs us → Vals (xs.set i x) (us.set i u)
  | _, _, _, .nil => .nil
  | _, _, 0, .cons _ t => .cons r t
  | _, _, i + 1, .cons q t => .cons q (Vals.set r i t)
theorem Vals.append : ∀ {xs ys : List V} {us ws : List Value}, Vals xs us → Vals ys ws → Vals (xs ++ ys) (us ++ ws)
  | _, _, _, _, .nil, s => s
  | _, _, _, _, .cons r t, s => .cons r (Vals.append t s)
theorem Vals.take : ∀ {xs : List V} {us : List Value} (n : Nat), Vals xs us → Vals (xs.take n) (us.take n)
  | _, _, 0, _ => .nil
  | _, _, _ + 1, .nil => .nil
  | _, _, n + 1, .cons r t => .cons r (Vals.take n t)
theorem Vals.drop : ∀ {xs : List V} {us : List Value} (n : Nat), Vals xs us → Vals (xs.drop n) (us.drop n)
  | _, _, 0, r => r
  | _, _, _ + 1, .nil => .nil
  | _, _, n + 1, .cons _ t => Vals.drop n t
def RelO : Option V → Option Value → Prop
  | some v, some u => RelV v u
  | none, none => True
  | _, _ => False
def KV {κ : Type} : List (κ × V) → List (κ × Value) → Prop := Paired fun (p : κ × V) (q : κ × Value) => p.1 = q.1 ∧ RelV p.2 q.2
def kV : Key → V
  | .inl i => .int i
  | .inr x => .str x
inductive HO where
  /-- a list -/
  | lst (xs : List V)
  /-- a tuple (never changes) -/
  | tup (xs : List V)
  /-- a dict whose keys are ints and texts; one whose keys are tuples of ints and texts (the empty one is both) -/
  | dK (kvs : List (Key × V)) | dT (kvs : List (List Key × V))
  /-- a set of ints: its members, its size -/
  | set (S : Int → Bool) (n : Nat)
  /-- an instance of the class at C, its dict at dx, its attributes -/
  | ins (C dx : Addr) (fs : List (Str × V))
  /-- the dict of the instance at x -/
  | own (x : Addr)
  /-- the dict of an exception -/
  | xd (fs : List (Str × V))
  /-- a bound method, f of x -/
  | met (f x : Addr)
  /-- a range object lo, lo + 1, .. below hi -/
  | rng (lo hi : Int)
  /-- a thing that is known to the object (the script; a dict while a loop walks it): read, never written while it is so -/
  | frz (o : Obj) (u : HO)
  /-- a code object's table -/
  | tbl (ps : Array Value)
  /-- any other thing, by what is true of its one object (a def of one's own: SetO a S n := HO.ext fun h => ..) -/
  | ext (φ : Heap → Prop)
abbrev Hp := Addr → Option HO
def upd (H : Hp) (a : Addr) (o : HO) : Hp := fun b => if b = a then some o else H b
theorem upd_same {H : Hp} {a : Addr} {o : HO} : upd H a o a = some o := by unfold upd; rw [if_pos rfl]
theorem upd_ne {H : Hp} {a b : Addr} {o : HO} (h : b ≠ a) : upd H a o b = H b := by unfold upd; rw [if_neg h]
theorem ne_of {H : Hp} {a b : Addr} {o u : HO} (h : H a = some o) (h' : H b = some u) (d : o ≠ u) : a ≠ b := by
  intro e; subst e; rw [h] at h'; exact d (Option.some.inj h')
theorem ne_of_none {H : Hp} {a b : Addr} {o : HO} (h : H a = some o) (h' : H b = none) : a ≠ b := by
  intro e; subst e; rw [h] at h'; cases h'
section
variable (P : Program) (w : World)
def ObjOk (H : Hp) (h : Heap) (a : Addr) : HO → Prop
  | .lst xs => xs.length ≤ sizeLine ∧ ∃ (its : List Value) (n : Nat), Vals xs its ∧ h.get? a = some { cls := .type "list", data := .seq its.toArray n }
  | .tup xs => xs.length ≤ sizeLine ∧ ∃ its : List Value, Vals xs its ∧ IsTup h a its.toArray
  | .dK kvs => kvs.length ≤ sizeLine ∧ (a == sysModules) = false ∧ ∃ vs, KV kvs vs ∧ h.DictOf (mixKind P w) a vs
  | .dT kvs => kvs.length ≤ sizeLine ∧ (a == sysModules) = false ∧ ∃ xs : List (List Key × Addr × Value),
      Paired (fun (p : List Key × V) (q : List Key × Addr × Value) => p.1 = q.1 ∧ H q.2.1 = some (.tup (p.1.map kV)) ∧ RelV p.2 q.2.2) kvs xs ∧
      ∃ o es ep, h.get? a = some o ∧ o.ExactDict ∧ o.data = .dict es ep ∧ es.toList = xs.map (entryOfKey (tupleKind (mixKind P w))) ∧ (xs.map (·.1)).Nodup
  | .set S n => h.SetOf (intKind P w) a S n
  | .ins C dx fs => H dx = some (.own a) ∧ fs.length ≤ 1000 ∧ dx ≠ a ∧ h.get? a = some (PySem.W.instObj C dx) ∧
      ∃ mA, h.Ns1 dx mA ∧ (∀ f, RelO (fs.lookup f) (mA f)) ∧ PySem.Within mA (fs.map (·.1))
  | .own _ => ∃ o, h.get? a = some o
  | .xd fs => ∃ mA, h.Ns1 a mA ∧ ∀ f, RelO (fs.lookup f) (mA f)
  | .rng lo hi => ∃ t u v, h.get? a = some { cls := .type "range", data := .fields #[.int lo t, .int hi u, .int 1 v] }
  | .frz o u => h.get? a = some o ∧ ObjOk H h a u
  | .tbl ps => h.get? a = some { cls := .none, data := .fields ps }
  | .met f x => h.get? a = some (PySem.W.methodObj (.ref f) (.ref x))
  | .ext φ => φ h ∧ (∃ o, h.get? a = some o) ∧ ∀ h1 h2 : Heap, φ h1 → (∀ o, h1.get? a = some o → h2.get? a = some o) → φ h2
def HOk (H : Hp) (h : Heap) : Prop := ∀ a o, H a = some o → ObjOk P w H h a o
end
section
variable {P : Program} {w : World} {H H' : Hp} {h h' : Heap} {a : Addr} {o : HO}
theorem ObjOk.lt (x : ObjOk P w H h a o) : a < h.objs.size := by
  cases o with
  | lst xs => obtain ⟨_, _, _, _, e⟩ := x; exact Heap.lt_size e
  | tup xs => obtain ⟨_, _, _, p⟩ := x; exact p.lt
  | dK kvs => obtain ⟨_, _, _, _, o, _, _, e, _⟩ := x; exact Heap.lt_size e
  | dT kvs => obtain ⟨_, _, _, _, o, _, _, e, _⟩ := x; exact Heap.lt_size e
  | set S n => obtain ⟨o, _, _, _, e, _⟩ := x; exact Heap.lt_size e
  | ins C dx fs => obtain ⟨_, _, _, e, _⟩ := x; exact Heap.lt_size e
  | own y => obtain ⟨_, e⟩ := x; exact Heap.lt_size e
  | xd fs => obtain ⟨_, ⟨_, _, _, e, _⟩, _⟩ := x; exact Heap.lt_size e
  | rng lo hi => obtain ⟨_, _, _, e⟩ := x; exact Heap.lt_size e
  | frz ob u => obtain ⟨e, _⟩ := x; exact Heap.lt_size e
  | tbl ps => exact Heap.lt_size (show h.get? a = some _ from x)
  | met f y => exact Heap.lt_size (show h.get? a = some _ from x)
  | ext φ => obtain ⟨_, ⟨_, e⟩, _⟩ := x; exact Heap.lt_size e
theorem Paired.mapP {α β : Type} {F G : α → β → Prop} : ∀ {l₁ : List α} {l₂ : List β}, Paired F l₁ l₂ → (∀ a b, F a b → G a b) → Paired G l₁ l₂
  | _, _, .nil, _ => .nil
  | _, _, .cons r t, f => .cons (f _ _ r) (Paired.mapP t f)
theorem ObjOk.stay (x : ObjOk P w H h a o) (k : ∀ b u, (b = a ∨ H b = some (.own a)) → h.get? b = some u → h'.get? b = some u)
    (ho : ∀ b, H b = some (.own a) → H' b = some (.own a)) (ht : ∀ b xs, H b = some (.tup xs) → H' b = some (.tup xs)) : ObjOk P w H' h' a o := by
  induction o with
  | lst xs => obtain ⟨z, its, n, r, e⟩ := x; exact ⟨z, its, n, r, k _ _ (.inl rfl) e⟩
  | tup xs => obtain ⟨z, its, r, ob, e, c⟩ := x; exact ⟨z, its, r, ob, k _ _ (.inl rfl) e, c⟩
  | dK kvs => obtain ⟨z, y, vs, r, ob, es, ep, e, c⟩ := x; exact ⟨z, y, vs, r, ob, es, ep, k _ _ (.inl rfl) e, c⟩
  | dT kvs =>
    obtain ⟨z, y, xs, r, ob, es, ep, e, c⟩ := x
    exact ⟨z, y, xs, Paired.mapP r fun p q z => ⟨z.1, ht _ _ z.2.1, z.2.2⟩, ob, es, ep, k _ _ (.inl rfl) e, c⟩
  | set S n => obtain ⟨ob, es, ep, t, e, c⟩ := x; exact ⟨ob, es, ep, t, k _ _ (.inl rfl) e, c⟩
  | ins C dx fs =>
    obtain ⟨d, z, ne, e, mA, ⟨od, es, ep, e2, c⟩, r⟩ := x
    exact ⟨ho _ d, z, ne, k _ _ (.inl rfl) e, mA, ⟨od, es, ep, k _ _ (.inr d) e2, c⟩, r⟩
  | own y => obtain ⟨ob, e⟩ := x; exact ⟨ob, k _ _ (.inl rfl) e⟩
  | xd fs => obtain ⟨mA, ⟨od, es, ep, e, c⟩, r⟩ := x; exact ⟨mA, ⟨od, es, ep, k _ _ (.inl rfl) e, c⟩, r⟩
  | rng lo hi => obtain ⟨t, u, v, e⟩ := x; exact ⟨t, u, v, k _ _ (.inl rfl) e⟩
  | frz ob u ih => obtain ⟨e, q⟩ := x; exact ⟨k _ _ (.inl rfl) e, ih q⟩
  | tbl ps =>
    have e : h.get? a = some { cls := .none, data := .fields ps } := x
    show h'.get? a = some { cls := .none, data := .fields ps }
    exact k a _ (.inl rfl) e
  | met f y =>
    have e : h.get? a = some (PySem.W.methodObj (.ref f) (.ref y)) := x
    show h'.get? a = some (PySem.W.methodObj (.ref f) (.ref y))
    exact k a _ (.inl rfl) e
  | ext φ => obtain ⟨p, ⟨o, e⟩, st⟩ := x; exact ⟨st _ _ p fun o q => k _ _ (.inl rfl) q, ⟨o, k _ _ (.inl rfl) e⟩, st⟩
theorem HOk.lt (x : HOk P w H h) (e : H a = some o) : a < h.objs.size := (x a o e).lt
theorem HOk.fresh (x : HOk P w H h) (e : h.objs.size ≤ a) : H a = none := by
  cases q : H a with
  | none => rfl
  | some u => exact absurd (Nat.lt_of_lt_of_le (x.lt q) e) (Nat.lt_irrefl _)
theorem HOk.kept (x : HOk P w H h) (k : ∀ b u, h.get? b = some u → h'.get? b = some u) : HOk P w H h' := fun a o e =>
  (x a o e).stay (fun b u _ q => k b u q) (fun _ q => q) fun _ _ q => q
theorem HOk.laid (x : HOk P w H h) (k : ∀ b u, h.get? b = some u → h'.get? b = some u) (hp : h.objs.size ≤ a) (new : ObjOk P w (upd H a o) h' a o) : HOk P w (upd H a o) h' := fun b u e => by
  have hn := x.fresh hp
  by_cases hb : b = a
  · subst hb; rw [upd_same] at e; cases e; exact new
  · rw [upd_ne hb] at e
    exact (x b u e).stay (fun c v _ q => k c v q) (fun c q => by rw [upd_ne (ne_of_none q hn)]; exact q) fun c xs q => by rw [upd_ne (ne_of_none q hn)]; exact q
end
def Rd (H : Hp) (a : Addr) (u : HO) : Prop := H a = some u ∨ ∃ o, H a = some (.frz o u)
theorem Rd.ok {P : Program} {w : World} {H : Hp} {h : Heap} {a : Addr} {u : HO} (r : Rd H a u) (x : HOk P w H h) : ObjOk P w H h a u := by
  rcases r with r | ⟨o, r⟩
  · exact x a u r
  · obtain ⟨_, q⟩ := x a _ r
    exact q
def Mut : Option HO → Prop
  | some (.lst _) => True
  | some (.dK _) => True
  | some (.dT _) => True
  | some (.set _ _) => True
  | some (.ins _ _ _) => True
  | some (.ext _) => True
  | _ => False
section
variable {P : Program} {w : World} {H : Hp} {h h' : Heap} {x e : Addr} {o' : HO}
theorem HOk.write (ok : HOk P w H h) (mu : Mut (H x)) (he : e = x ∨ H e = some (.own x)) (k : ∀ b u, b ≠ e → h.get? b = some u → h'.get? b = some u) (heo : ∃ u, h'.get? e = some u)
    (new : ObjOk P w (upd H x o') h' x o') : HOk P w (upd H x o') h' := fun b u q => by
  have nown : ∀ c y, H c = some (.own y) → c ≠ x := fun c y r z => by subst z; rw [r] at mu; exact mu
  have ntup : ∀ c xs, H c = some (.tup xs) → c ≠ x := fun c xs r z => by subst z; rw [r] at mu; exact mu
  by_cases hb : b = x
  · subst hb; rw [upd_same] at q; cases q; exact new
  · rw [upd_ne hb] at q
    by_cases hbe : b = e
    · have q' : H b = some (.own x) := by
        rcases he with z | z
        · exact absurd (hbe.trans z) hb
        · rw [hbe]; exact z
      rw [q] at q'; cases q'
      obtain ⟨v, hv⟩ := heo
      exact ⟨v, by rw [hbe]; exact hv⟩
    · refine (ok b u q).stay (fun c v hc r => k c v ?_ r) (fun c r => by rw [upd_ne (nown c b r)]; exact r) fun c xs r => by rw [upd_ne (ntup c xs r)]; exact r
      rcases hc with rfl | hc
      · exact hbe
      · rintro rfl
        rcases he with z | z
        · exact nown c b hc z
        · rw [hc] at z; cases z; exact hb rfl
end
structure Un (fs ex : List Addr) (H H' : Hp) (h h' : Heap) : Prop where
  keep : ∀ b o, h.get? b = some o → H b = none → b ∉ fs → b ∉ ex → h'.get? b = some o
  slot : ∀ b o, h.get? b = some o → H b = none → b ∈ fs → b ∉ ex → ∃ sl, h'.get? b = some { o with slots := sl }
  free : ∀ b o, h.get? b = some o → H b = none → b ∉ ex → H' b = none
  there : ∀ b o, h.get? b = some o → b ∉ ex → ∃ o', h'.get? b = some o'
  tups : ∀ b xs, H b = some (.tup xs) → H' b = some (.tup xs)
  frzs : ∀ b o u, H b = some (.frz o u) → H' b = some (.frz o u)
  tbls : ∀ b ps, H b = some (.tbl ps) → ∃ more, H' b = some (.tbl (ps ++ more))
section
variable {fs fs' ex ex' : List Addr} {H H1 H2 : Hp} {h h1 h2 h' : Heap} {a x e : Addr} {o : HO}
theorem Un.any (u : Un fs ex H H1 h h1) {b : Addr} {ob : Obj} (q : h.get? b = some ob) (n : H b = none) (hx : b ∉ ex) : ∃ sl, h1.get? b = some { ob with slots := sl } := by
  by_cases hb : b ∈ fs
  · exact u.slot b ob q n hb hx
  · exact ⟨ob.slots, u.keep b ob q n hb hx⟩
theorem Un.kept (k : ∀ b u, h.get? b = some u → h'.get? b = some u) : Un fs ex H H h h' :=
  ⟨fun b ob q _ _ _ => k b ob q, fun b ob q _ _ _ => ⟨ob.slots, k b ob q⟩, fun _ _ _ n _ => n, fun b ob q _ => ⟨ob, k b ob q⟩, fun _ _ q => q, fun _ _ _ q => q, fun _ ps q => ⟨#[], by rw [q]; simp⟩⟩
theorem Un.refl : Un fs ex H H h h := Un.kept fun _ _ q => q
theorem Un.laid (k : ∀ b u, h.get? b = some u → h'.get? b = some u) (hp : h.objs.size ≤ a) (hn : H a = none) : Un fs ex H (upd H a o) h h' where
  keep := fun b u q _ _ _ => k b u q
  slot := fun b u q _ _ _ => ⟨u.slots, k b u q⟩
  free := fun b u q n _ => by rw [upd_ne (Nat.ne_of_lt (Nat.lt_of_lt_of_le (Heap.lt_size q) hp))]; exact n
  there := fun b u q _ => ⟨u, k b u q⟩
  tups := fun b xs q => by rw [upd_ne (ne_of_none q hn)]; exact q
  frzs := fun b u xs q => by rw [upd_ne (ne_of_none q hn)]; exact q
  tbls := fun b ps q => ⟨#[], by rw [upd_ne (ne_of_none q hn), q]; simp⟩
theorem Un.write (mu : Mut (H x)) (he : e = x ∨ H e = some (.own x)) (k : ∀ b u, b ≠ e → h.get? b = some u → h'.get? b = some u) (heo : ∃ u, h'.get? e = some u) : Un fs ex H (upd H x o) h h' := by
  have hx : ∀ b, H b = none → b ≠ x := fun b n z => by subst z; rw [n] at mu; exact mu
  have hb : ∀ b, H b = none → b ≠ e := fun b n z => by
    subst z
    rcases he with r | r
    · exact hx b n r
    · rw [n] at r; cases r
  have hm : ∀ b u, H b = some u → ¬ Mut (some u) → b ≠ x := fun b u q nm z => by subst z; rw [q] at mu; exact nm mu
  refine ⟨fun b u q n _ _ => k b u (hb b n) q, fun b u q n _ _ => ⟨u.slots, k b u (hb b n) q⟩, fun b u q n _ => by rw [upd_ne (hx b n)]; exact n, fun b u q _ => ?_,
    fun b xs q => by rw [upd_ne (hm b _ q fun z => z)]; exact q, fun b u xs q => by rw [upd_ne (hm b _ q fun z => z)]; exact q, fun b ps q => ⟨#[], by rw [upd_ne (hm b _ q fun z => z), q]; simp⟩⟩
  by_cases hbe : b = e
  · subst hbe; exact heo
  · exact ⟨u, k b u hbe q⟩
end
def trk (h : Heap) (H : Hp) : List Addr := (List.range h.objs.size).filter fun a => (H a).isSome
def hidT (h : Heap) (H : Hp) : Heap := PySem.W.hideAll h (trk h H)
theorem hidT_size (h : Heap) (H : Hp) : (hidT h H).objs.size = h.objs.size := PySem.W.hideAll_size _ _
theorem hidT_get {h : Heap} {H : Hp} {b : Addr} {o : Obj} (e : h.get? b = some o) (n : H b = none) : (hidT h H).get? b = some o :=
  PySem.W.hideAll_get _ e fun hm => by
    have q : (H b).isSome = true := (List.mem_filter.mp hm).2
    rw [n] at q; simp at q
theorem of_hidT {h : Heap} {H : Hp} {b : Addr} {o : Obj} (e : (hidT h H).get? b = some o) : h.get? b = some o ∧ H b = none := by
  have e' : h.get? b = some o := PySem.W.of_hideAll (trk h H) e
  refine ⟨e', ?_⟩
  cases q : H b with
  | none => rfl
  | some x =>
    have hm : b ∈ trk h H := List.mem_filter.mpr ⟨List.mem_range.mpr (Heap.lt_size e'), by simp [q]⟩
    have z : (hidT h H).get? b = none := PySem.W.hideAll_none (trk h H) hm
    rw [z] at e; cases e
end L2
namespace L2
open PySem PySem.Spec PyProof.Rows
structure Mod (K : PySem.W.Frag) (mg : Str → Option Value) (base : Heap) : Prop where
  kin : K.In base
  glob : base.Ns mainGlobals mg
  blt : ∃ mb, base.Ns builtinsNs mb ∧ ∀ x : Str, x ≠ "__name__" → mb x = bootBuiltins x
  nolimit : base.NoLimit
structure Cx where
  prog : Program
  w : World
  K : PySem.W.Frag
  mg : Str → Option Value
  base : Heap
  A : Around
  N : List Str
  s₀ : Shared
  H₀ : Hp
  env : Env
  outer : List Env
  stack : List Env
  ex : List Addr
  fn : Str → Bool
  calm : Bool
  pn : List (Addr × Obj)
  xe : Value → Shared → Prop
def frs (l : List Env) : List Addr := l.filterMap (·.frame)
abbrev Cx.fs (X : Cx) : List Addr := frs X.outer
def Vis (sc : Scope) (x : Str) : Prop := sc.names.lookup x = some .local ∨ sc.names.lookup x = some .cell ∨ sc.names.lookup x = some .free
def Loc (sc : Scope) (x : Str) : Prop := sc.names.lookup x = some .local ∨ sc.names.lookup x = some .cell
def Look (env : Env) (h : Heap) (m : Str → Option Value) (x : Str) (u : Value) : Prop :=
  (env.kindOf x = some .local ∧ m x = some u) ∨ ((env.kindOf x = some .cell ∨ env.kindOf x = some .free) ∧ ∃ c, env.cells.lookup x = some c ∧ h.IsCell c (some u))
structure Cx.Ok (X : Cx) : Prop where
  mod : Mod X.K X.mg X.base
  kind : X.env.scope.kind = .function
  glob : X.env.globals = mainGlobals
  blt : X.env.builtins = builtinsNs
  above : X.s₀.heap.objs.size ≤ X.env.locals
  inj : ∀ x y c, X.env.cells.lookup x = some c → X.env.cells.lookup y = some c → x = y
  has : ∀ x, (X.env.kindOf x = some .cell ∨ X.env.kindOf x = some .free) → ∃ c, X.env.cells.lookup x = some c
  cab : ∀ x c, X.fn x = true → X.env.cells.lookup x = some c → X.s₀.heap.objs.size ≤ c
  hd : X.calm = true → X.A.handled = none
  frames : X.A.frames = some X.stack
  stk : X.stack = X.outer ∨ (X.stack = X.env :: X.outer ∧ X.env.frame = some X.env.locals)
  exf : ∀ b ∈ X.ex, b ≠ X.env.locals ∧ ∀ x c, X.env.cells.lookup x = some c → c ≠ b
  bs : ∀ b o, X.base.get? b = some o → X.s₀.heap.get? b = some o ∧ X.H₀ b = none
  bsz : X.base.objs.size ≤ X.s₀.heap.objs.size
  noex : ∀ b o, X.base.get? b = some o → b ∉ X.ex
  exfs : ∀ b ∈ X.ex, b ∉ X.fs
  funs : X.s₀.heap.FunFrames X.base X.outer
  frf : ∀ b ∈ X.fs, X.H₀ b = none
structure Inv (X : Cx) (pins : List (Addr × Obj)) (σ : List (Option V)) (H : Hp) (s : Shared) : Prop where
  ok : X.Ok
  os : s.os = X.s₀.os
  bare : AllBare s.gens
  base : Un X.fs X.ex X.H₀ H X.s₀.heap s.heap
  loc : ∃ m, s.heap.Ns X.env.locals m ∧ ∀ (i : Nat) (x : Str) (v : V), X.N[i]? = some x → σ[i]? = some (some v) → Vis X.env.scope x → ∃ u, RelV v u ∧ Look X.env s.heap m x u
  cell : ∀ x c, X.env.cells.lookup x = some c → ∃ v, s.heap.IsCell c v
  free : H X.env.locals = none
  freeC : ∀ x c, X.env.cells.lookup x = some c → H c = none
  pin : ∀ p ∈ X.pn ++ pins, s.heap.get? p.1 = some p.2 ∧ H p.1 = none ∧ p.1 ≠ X.env.locals ∧ p.1 ∉ X.fs ∧ ∀ v, p.2.data ≠ .cell v
  hok : HOk X.prog X.w H s.heap
  len : σ.length = X.N.length
section
variable {X : Cx} {pins : List (Addr × Obj)} {σ : List (Option V)} {H H' : Hp} {s : Shared} {h' : Heap}
theorem Cx.Ok.nofr (ok : X.Ok) {b : Addr} {o : Obj} (e : X.base.get? b = some o) : b ∉ X.fs := fun hb => by
  have := (ok.funs.mem hb).1
  rw [e] at this; cases this
theorem Inv.bs (I : Inv X pins σ H s) : ∀ b o, X.base.get? b = some o → s.heap.get? b = some o ∧ H b = none := fun b o e =>
  ⟨I.base.keep b o (I.ok.bs b o e).1 (I.ok.bs b o e).2 (I.ok.nofr e) (I.ok.noex b o e), I.base.free b o (I.ok.bs b o e).1 (I.ok.bs b o e).2 (I.ok.noex b o e)⟩
theorem Inv.bk (I : Inv X pins σ H s) : ∀ b o, X.base.get? b = some o → s.heap.get? b = some o := fun b o e => (I.bs b o e).1
theorem Inv.mod (I : Inv X pins σ H s) : Mod X.K X.mg X.base := I.ok.mod
theorem Inv.kIn (I : Inv X pins σ H s) : X.K.In s.heap := I.ok.mod.kin.keeps I.bk
theorem Inv.lt (I : Inv X pins σ H s) : X.env.locals < s.heap.objs.size := let ⟨_, hn, _⟩ := I.loc; hn.lt
theorem Inv.sz (I : Inv X pins σ H s) : X.s₀.heap.objs.size ≤ s.heap.objs.size := Nat.le_trans I.ok.above (Nat.le_of_lt I.lt)
theorem Inv.nofs (I : Inv X pins σ H s) {a : Addr} (h : s.heap.objs.size ≤ a) : a ∉ X.fs := fun hb => by
  obtain ⟨_, o, ho, _⟩ := I.ok.funs.mem hb
  exact absurd (Nat.lt_of_lt_of_le (Heap.lt_size ho) (Nat.le_trans I.sz h)) (Nat.lt_irrefl _)
theorem Inv.cne (I : Inv X pins σ H s) : ∀ x c, X.env.cells.lookup x = some c → c ≠ X.env.locals := fun x c e z => by
  obtain ⟨v, o, ho, hd⟩ := I.cell x c e
  obtain ⟨m, ⟨o', es, ep, ho', hd', _⟩, _⟩ := I.loc
  rw [z, ho'] at ho; cases ho; rw [hd'] at hd; cases hd
theorem Inv.funs (I : Inv X pins σ H s) : s.heap.FunFrames X.base X.outer := by
  have all : ∀ (l : List Env), (∀ b ∈ frs l, b ∈ X.fs) → X.s₀.heap.FunFrames X.base l → s.heap.FunFrames X.base l := by
    intro l
    induction l with
    | nil => intro _ _; trivial
    | cons env r ih =>
      intro hs hl
      obtain ⟨hk, ⟨L, o, hf, hn, ho, hd⟩, hr⟩ := hl
      have hL : L ∈ X.fs := hs L (by unfold frs; rw [List.filterMap_cons, hf]; exact List.mem_cons_self)
      obtain ⟨sl, e⟩ := I.base.slot L o ho (I.ok.frf L hL) hL fun z => I.ok.exfs L z hL
      exact ⟨hk, ⟨L, _, hf, hn, e, hd⟩, ih (fun b hb => hs b (by unfold frs; rw [List.filterMap_cons, hf]; exact List.mem_cons_of_mem _ hb)) hr⟩
  exact all X.outer (fun _ hb => hb) I.ok.funs
theorem Inv.stack (I : Inv X pins σ H s) : s.heap.FunFrames X.base X.stack := by
  rcases I.ok.stk with e | ⟨e, hf⟩
  · rw [e]; exact I.funs
  · rw [e]
    obtain ⟨m, hn, _⟩ := I.loc
    refine .cons (by rw [I.ok.kind]; decide) hf hn ?_ I.funs
    exact Heap.get?_none_of_le (Nat.le_trans I.ok.bsz I.ok.above)
theorem Inv.stkSub (I : Inv X pins σ H s) : ∀ b ∈ frs X.stack, b ∈ X.env.locals :: X.fs := fun b hb => by
  rcases I.ok.stk with e | ⟨e, hf⟩
  · rw [e] at hb; exact List.mem_cons_of_mem _ hb
  · rw [e] at hb
    unfold frs at hb
    rw [List.filterMap_cons, hf] at hb
    exact hb
theorem Inv.stkFree (I : Inv X pins σ H s) : ∀ b ∈ frs X.stack, H b = none := fun b hb => by
  rcases List.mem_cons.mp (I.stkSub b hb) with e | hb
  · rw [e]; exact I.free
  · obtain ⟨_, o, ho, _⟩ := I.ok.funs.mem hb
    exact I.base.free b o ho (I.ok.frf b hb) fun z => I.ok.exfs b z hb
theorem Inv.step {g' : Array GenState} {t' : Nat} {d' : Drawn} {ch : List Addr} (I : Inv X pins σ H s)
    (hch : ∀ b ∈ ch, (b ∈ X.ex ∨ X.s₀.heap.objs.size ≤ b) ∧ b ≠ X.env.locals ∧ (∀ x c, X.env.cells.lookup x = some c → c ≠ b) ∧ ∀ p ∈ X.pn ++ pins, p.1 ≠ b)
    (keep : ∀ b o, b ≠ X.env.locals → b ∉ X.fs → b ∉ ch → s.heap.get? b = some o → H b = none → h'.get? b = some o)
    (slot : ∀ b o, b ≠ X.env.locals → b ∈ X.fs → b ∉ ch → s.heap.get? b = some o → H b = none → ∃ sl, h'.get? b = some { o with slots := sl }) (free : ∀ b o, b ∉ ch → s.heap.get? b = some o → H b = none → H' b = none)
    (there : ∀ b o, b ∉ ch → s.heap.get? b = some o → ∃ o', h'.get? b = some o')
    (tups : ∀ b xs, H b = some (.tup xs) → H' b = some (.tup xs)) (frzs : ∀ b o u, H b = some (.frz o u) → H' b = some (.frz o u)) (tbls : ∀ b ps, H b = some (.tbl ps) → ∃ more, H' b = some (.tbl (ps ++ more)))
    (ns : ∀ m, s.heap.Ns X.env.locals m → h'.Ns X.env.locals m) (hok : HOk X.prog X.w H' h') (hg : AllBare g') :
    Inv X pins σ H' { s with heap := h', gens := g', drawn := d', toks := t' } := by
  have neL : ∀ b o, X.s₀.heap.get? b = some o → b ≠ X.env.locals := fun b o e => Nat.ne_of_lt (Nat.lt_of_lt_of_le (Heap.lt_size e) I.ok.above)
  have neC : ∀ b o, X.s₀.heap.get? b = some o → b ∉ X.ex → b ∉ ch := fun b o e hx hb => by
    rcases (hch b hb).1 with z | z
    · exact hx z
    · exact absurd (Nat.lt_of_lt_of_le (Heap.lt_size e) z) (Nat.lt_irrefl _)
  have cellK : ∀ x c, X.env.cells.lookup x = some c → ∀ v, s.heap.IsCell c v → h'.IsCell c v := fun x c e v ⟨o, ho, hd⟩ => by
    have nch : c ∉ ch := fun z => (hch c z).2.2.1 x c e rfl
    by_cases hc : c ∈ X.fs
    · obtain ⟨sl, q⟩ := slot c o (I.cne x c e) hc nch ho (I.freeC x c e)
      exact ⟨_, q, hd⟩
    · exact ⟨o, keep c o (I.cne x c e) hc nch ho (I.freeC x c e), hd⟩
  refine ⟨I.ok, I.os, hg, ⟨fun b o e n hb hx => ?_, fun b o e n hb hx => ?_, fun b o e n hx => ?_, fun b o e hx => ?_, fun b xs e => tups b xs (I.base.tups b xs e), fun b o xs e => frzs b o xs (I.base.frzs b o xs e), fun b ps e => ?_⟩, ?_, fun x c e => ?_, ?_, fun x c e => ?_, fun p hp => ?_, hok, I.len⟩
  · exact keep b o (neL b o e) hb (neC b o e hx) (I.base.keep b o e n hb hx) (I.base.free b o e n hx)
  · obtain ⟨sl, e1⟩ := I.base.slot b o e n hb hx
    obtain ⟨sl', e2⟩ := slot b _ (neL b o e) hb (neC b o e hx) e1 (I.base.free b o e n hx)
    exact ⟨sl', e2⟩
  · obtain ⟨o', e1⟩ := I.base.there b o e hx
    exact free b o' (neC b o e hx) e1 (I.base.free b o e n hx)
  · obtain ⟨o', e1⟩ := I.base.there b o e hx
    exact there b o' (neC b o e hx) e1
  · obtain ⟨m1, e1⟩ := I.base.tbls b ps e
    obtain ⟨m2, e2⟩ := tbls b _ e1
    exact ⟨m1 ++ m2, by rw [e2, Array.append_assoc]⟩
  · obtain ⟨m, hn, hl⟩ := I.loc
    refine ⟨m, ns m hn, fun i x v e1 e2 e3 => ?_⟩
    obtain ⟨u, r, l⟩ := hl i x v e1 e2 e3
    refine ⟨u, r, ?_⟩
    rcases l with l | ⟨k, c, e, z⟩
    · exact .inl l
    · exact .inr ⟨k, c, e, cellK x c e _ z⟩
  · obtain ⟨v, z⟩ := I.cell x c e
    exact ⟨v, cellK x c e v z⟩
  · obtain ⟨m, ⟨o, _, _, ho, _⟩, _⟩ := I.loc
    exact free _ o (fun z => (hch _ z).2.1 rfl) ho I.free
  · obtain ⟨v, o, ho, hd⟩ := I.cell x c e
    exact free c o (fun z => (hch c z).2.2.1 x c e rfl) ho (I.freeC x c e)
  · obtain ⟨e, n, ne, nf, d⟩ := I.pin p hp
    have nch : p.1 ∉ ch := fun z => (hch p.1 z).2.2.2 p hp rfl
    exact ⟨keep p.1 p.2 ne nf nch e n, free p.1 p.2 nch e n, ne, nf, d⟩
theorem Inv.un {t' : Nat} (I : Inv X pins σ H s) (u : Un X.fs [] H H' s.heap h') (hok : HOk X.prog X.w H' h') : Inv X pins σ H' { s with heap := h', toks := t' } := by
  obtain ⟨m, ⟨o, es, ep, ho, r⟩, _⟩ := id I.loc
  obtain ⟨sl, hL⟩ := u.any ho I.free (by simp)
  exact I.step (g' := s.gens) (d' := s.drawn) (ch := []) (fun _ z => nomatch z) (fun b o _ hb _ e n => u.keep b o e n hb (by simp)) (fun b o _ hb _ e n => u.slot b o e n hb (by simp)) (fun b o _ e n => u.free b o e n (by simp)) (fun b o _ e => u.there b o e (by simp)) u.tups u.frzs u.tbls (fun m' hm => by
    obtain ⟨o', es', ep', ho', r'⟩ := hm
    rw [ho] at ho'; cases ho'
    exact ⟨_, es', ep', hL, r'⟩) hok I.bare
theorem Inv.call {g' : Array GenState} {t' : Nat} {d' : Drawn} {ch : List Addr} (I : Inv X pins σ H s) (u : Un (frs X.stack) ch H H' s.heap h') (hok : HOk X.prog X.w H' h') (hg : AllBare g')
    (hch : ∀ b ∈ ch, (b ∈ X.ex ∨ X.s₀.heap.objs.size ≤ b) ∧ b ≠ X.env.locals ∧ (∀ x c, X.env.cells.lookup x = some c → c ≠ b) ∧ ∀ p ∈ X.pn ++ pins, p.1 ≠ b) :
    Inv X pins σ H' { s with heap := h', gens := g', drawn := d', toks := t' } := by
  obtain ⟨m, ⟨o, es, ep, ho, r⟩, _⟩ := id I.loc
  obtain ⟨sl, hL⟩ := u.any ho I.free fun z => (hch _ z).2.1 rfl
  exact I.step (ch := ch) hch (fun b o hL hb hc e n => u.keep b o e n (fun z => (List.mem_cons.mp (I.stkSub b z)).elim hL hb) hc) (fun b o _ _ hc e n => u.any e n hc) (fun b o hc e n => u.free b o e n hc) (fun b o hc e => u.there b o e hc) u.tups u.frzs u.tbls (fun m' hm => by
    obtain ⟨o', es', ep', ho', r'⟩ := hm
    rw [ho] at ho'; cases ho'
    exact ⟨_, es', ep', hL, r'⟩) hok hg
theorem Inv.turned {t' : Nat} {it : Addr} (I : Inv X pins σ H s) (k : ∀ b o, b ≠ it → s.heap.get? b = some o → h'.get? b = some o) (hn : H it = none) (hL : it ≠ X.env.locals)
    (h1 : it ∈ X.ex ∨ X.s₀.heap.objs.size ≤ it) (h2 : ∀ x c, X.env.cells.lookup x = some c → c ≠ it) (h3 : ∀ p ∈ X.pn ++ pins, p.1 ≠ it) : Inv X pins σ H { s with heap := h', toks := t' } := by
  have nit : ∀ b u, H b = some u → b ≠ it := fun b u e z => by rw [z, hn] at e; cases e
  refine I.step (g' := s.gens) (d' := s.drawn) (ch := [it]) (fun b hb => ?_) (fun b o _ _ hc e _ => k b o (fun z => hc (by simp [z])) e) (fun b o _ _ hc e _ => ⟨o.slots, k b o (fun z => hc (by simp [z])) e⟩) (fun _ _ _ _ n => n)
    (fun b o hc e => ⟨o, k b o (fun z => hc (by simp [z])) e⟩) (fun _ _ e => e) (fun _ _ _ e => e) (fun b ps e => ⟨#[], by rw [e]; simp⟩) (fun m hm => ?_) (fun b u e => ?_) I.bare
  · have e : b = it := by simpa using hb
    subst e
    exact ⟨h1, hL, h2, h3⟩
  · obtain ⟨o, es, ep, ho, r⟩ := hm
    exact ⟨o, es, ep, k _ o (Ne.symm hL) ho, r⟩
  · refine (I.hok b u e).stay (fun c v hc q => k c v ?_ q) (fun _ q => q) fun _ _ q => q
    rcases hc with z | z
    · rw [z]; exact nit b u e
    · exact nit c _ z
theorem Inv.tok (I : Inv X pins σ H s) (t : Nat) : Inv X pins σ H { s with toks := t } := I.un (h' := s.heap) (t' := t) Un.refl I.hok
theorem Inv.kept {t' : Nat} (I : Inv X pins σ H s) (k : ∀ b u, s.heap.get? b = some u → h'.get? b = some u) : Inv X pins σ H { s with heap := h', toks := t' } := I.un (Un.kept k) (I.hok.kept k)
theorem Inv.laid {a : Addr} {o : HO} {t' : Nat} (I : Inv X pins σ H s) (k : ∀ b u, s.heap.get? b = some u → h'.get? b = some u) (hp : s.heap.objs.size ≤ a) (new : ObjOk X.prog X.w (upd H a o) h' a o) :
    Inv X pins σ (upd H a o) { s with heap := h', toks := t' } := I.un (Un.laid k hp (I.hok.fresh hp)) (I.hok.laid k hp new)
theorem Inv.write {x e : Addr} {o : HO} {t' : Nat} (I : Inv X pins σ H s) (mu : Mut (H x)) (he : e = x ∨ H e = some (.own x)) (k : ∀ b u, b ≠ e → s.heap.get? b = some u → h'.get? b = some u) (heo : ∃ u, h'.get? e = some u)
    (new : ObjOk X.prog X.w (upd H x o) h' x o) : Inv X pins σ (upd H x o) { s with heap := h', toks := t' } := I.un (Un.write mu he k heo) (I.hok.write mu he k heo new)
theorem Inv.pins_of {pins' : List (Addr × Obj)} (I : Inv X pins σ H s) (h : ∀ p ∈ pins', s.heap.get? p.1 = some p.2 ∧ H p.1 = none ∧ p.1 ≠ X.env.locals ∧ p.1 ∉ X.fs ∧ ∀ v, p.2.data ≠ .cell v) : Inv X pins' σ H s :=
  ⟨I.ok, I.os, I.bare, I.base, I.loc, I.cell, I.free, I.freeC, fun p hp => (List.mem_append.mp hp).elim (fun z => I.pin p (List.mem_append_left _ z)) (h p), I.hok, I.len⟩
theorem nodup_ix {N : List Str} (hN : N.Nodup) {i j : Nat} {x : Str} (a : N[i]? = some x) (b : N[j]? = some x) : i = j := by
  obtain ⟨h1, e1⟩ := List.getElem?_eq_some_iff.mp a
  obtain ⟨h2, e2⟩ := List.getElem?_eq_some_iff.mp b
  exact (List.getElem_inj hN).mp (e1.trans e2.symm)
theorem store_ok2 {M : Model} {A : Around} {E : Value → Shared → Prop} {i : Nat} {x : Str} {v : V} {u : Value} {Q : Unit → Shared → Prop} (I : Inv X pins σ H s) (hN : X.N.Nodup) (hi : X.N[i]? = some x) (hx : Loc X.env.scope x) (r : RelV v u)
    (h : ∀ s', Inv X pins (σ.set i (some v)) H s' → (∃ a, Heap.SameBut a s.heap s'.heap ∧ (a = X.env.locals ∨ X.env.cells.lookup x = some a)) → Q () s') (hf : X.fn x = true ∨ X.env.scope.names.lookup x = some .local := by first | exact .inl rfl | exact .inr rfl | assumption) : wpAny M A (storeName X.env x u) Q E s := by
  obtain ⟨m, hn, hl⟩ := id I.loc
  have hcls : (X.env.scope.kind == .class || (X.env.scope.kind == .module && X.env.locals != X.env.globals)) = false := by rw [I.ok.kind]; rfl
  have hiσ : i < σ.length := by rw [I.len]; exact (List.getElem?_eq_some_iff.mp hi).1
  have cne := I.cne
  have tracked : ∀ {a : Addr} {h' : Heap}, (∃ o, s.heap.get? a = some o ∧ H a = none) → Heap.SameBut a s.heap h' → HOk X.prog X.w H h' := fun {a h'} ha hs b ob e => by
    obtain ⟨_, _, hfree⟩ := ha
    refine (I.hok b ob e).stay (fun c w' hc q => (hs.2 c ?_).trans q) (fun _ q => q) fun _ _ q => q
    rintro rfl
    rcases hc with rfl | hc
    · rw [hfree] at e; cases e
    · rw [hfree] at hc; cases hc
  rcases hx with hk | hk
  · refine wpAny_storeName_local hk hn (fun h' hn' hs => ?_) hcls
    obtain ⟨oL, _, _, hoL, _⟩ := id hn
    refine h _ ⟨I.ok, I.os, I.bare, ⟨fun b o e n hb hx => ?_, fun b o e n hb hx => ?_, I.base.free, fun b o e hx => ?_, I.base.tups, I.base.frzs, I.base.tbls⟩, ⟨_, hn', fun j y v' e1 e2 e3 => ?_⟩, fun y c e => ?_, I.free, I.freeC, fun p hp => ?_, tracked ⟨oL, hoL, I.free⟩ hs, by simpa using I.len⟩ ⟨_, hs, .inl rfl⟩
    · exact (hs.2 b (Nat.ne_of_lt (Nat.lt_of_lt_of_le (Heap.lt_size e) I.ok.above))).trans (I.base.keep b o e n hb hx)
    · obtain ⟨sl, e1⟩ := I.base.slot b o e n hb hx
      exact ⟨sl, (hs.2 b (Nat.ne_of_lt (Nat.lt_of_lt_of_le (Heap.lt_size e) I.ok.above))).trans e1⟩
    · obtain ⟨o', e1⟩ := I.base.there b o e hx
      exact ⟨o', (hs.2 b (Nat.ne_of_lt (Nat.lt_of_lt_of_le (Heap.lt_size e) I.ok.above))).trans e1⟩
    · by_cases hj : j = i
      · subst hj
        rw [hi] at e1; cases e1
        rw [List.getElem?_set_self hiσ] at e2
        cases e2
        exact ⟨u, r, .inl ⟨hk, by simp⟩⟩
      · rw [List.getElem?_set_ne (Ne.symm hj)] at e2
        obtain ⟨u', r', q⟩ := hl j y v' e1 e2 e3
        refine ⟨u', r', ?_⟩
        rcases q with ⟨k, e⟩ | ⟨k, c, e, z⟩
        · refine .inl ⟨k, ?_⟩
          have : y ≠ x := fun e => hj (nodup_ix hN e1 (e ▸ hi))
          simp [this, e]
        · exact .inr ⟨k, c, e, z.sameBut hs (cne y c e)⟩
    · obtain ⟨w', z⟩ := I.cell y c e
      exact ⟨w', z.sameBut hs (cne y c e)⟩
    · obtain ⟨e, n, ne, nf, d⟩ := I.pin p hp
      exact ⟨(hs.2 p.1 ne).trans e, n, ne, nf, d⟩
  · have hfn : X.fn x = true := by
      rcases hf with z | z
      · exact z
      · rw [z] at hk; cases hk
    obtain ⟨c, hc⟩ := I.ok.has x (.inl hk)
    obtain ⟨w', z⟩ := I.cell x c hc
    refine wpAny_storeName_cell I.ok.kind hk hc z (fun h' hc' hs => ?_)
    obtain ⟨oc, hoc, hocd⟩ := id z
    refine h { s with heap := h' } ⟨I.ok, I.os, I.bare, ⟨fun b o e n hb hx => ?_, fun b o e n hb hx => ?_, I.base.free, fun b o e hx => ?_, I.base.tups, I.base.frzs, I.base.tbls⟩, ⟨m, hn.sameBut hs (Ne.symm (cne x c hc)), fun j y v' e1 e2 e3 => ?_⟩, fun y c' e => ?_, I.free, I.freeC, fun p hp => ?_, tracked ⟨oc, hoc, I.freeC x c hc⟩ hs, by simpa using I.len⟩ ⟨c, hs, .inr hc⟩
    · exact (hs.2 b (Nat.ne_of_lt (Nat.lt_of_lt_of_le (Heap.lt_size e) (I.ok.cab x c hfn hc)))).trans (I.base.keep b o e n hb hx)
    · obtain ⟨sl, e1⟩ := I.base.slot b o e n hb hx
      exact ⟨sl, (hs.2 b (Nat.ne_of_lt (Nat.lt_of_lt_of_le (Heap.lt_size e) (I.ok.cab x c hfn hc)))).trans e1⟩
    · obtain ⟨o', e1⟩ := I.base.there b o e hx
      exact ⟨o', (hs.2 b (Nat.ne_of_lt (Nat.lt_of_lt_of_le (Heap.lt_size e) (I.ok.cab x c hfn hc)))).trans e1⟩
    · by_cases hj : j = i
      · subst hj
        rw [hi] at e1; cases e1
        rw [List.getElem?_set_self hiσ] at e2
        cases e2
        exact ⟨u, r, .inr ⟨.inl hk, c, hc, hc'⟩⟩
      · rw [List.getElem?_set_ne (Ne.symm hj)] at e2
        obtain ⟨u', r', q⟩ := hl j y v' e1 e2 e3
        refine ⟨u', r', ?_⟩
        rcases q with q | ⟨k, c', e, z'⟩
        · exact .inl q
        · refine .inr ⟨k, c', e, z'.sameBut hs ?_⟩
          rintro rfl
          exact hj (nodup_ix hN e1 (I.ok.inj _ _ _ e hc ▸ hi))
    · by_cases hcc : c' = c
      · subst hcc; exact ⟨_, hc'⟩
      · obtain ⟨w2, z2⟩ := I.cell y c' e
        exact ⟨w2, z2.sameBut hs hcc⟩
    · obtain ⟨e, n, ne, nf, d⟩ := I.pin p hp
      refine ⟨(hs.2 p.1 ?_).trans e, n, ne, nf, d⟩
      intro q
      rw [q, hoc] at e
      have q' : oc = p.2 := Option.some.inj e
      exact d w' (by rw [← q']; exact hocd)
theorem store_ok {M : Model} {A : Around} {E : Value → Shared → Prop} {i : Nat} {x : Str} {v : V} {u : Value} {Q : Unit → Shared → Prop} (I : Inv X pins σ H s) (hN : X.N.Nodup) (hi : X.N[i]? = some x) (hx : Loc X.env.scope x) (r : RelV v u)
    (h : ∀ s', Inv X pins (σ.set i (some v)) H s' → Q () s') (hf : X.fn x = true ∨ X.env.scope.names.lookup x = some .local := by first | exact .inl rfl | exact .inr rfl | assumption) : wpAny M A (storeName X.env x u) Q E s :=
  store_ok2 I hN hi hx r (fun s' I' _ => h s' I') hf
theorem Inv.call' {s' : Shared} {ch : List Addr} (I : Inv X pins σ H s) (ho : s'.os = s.os) (u : Un (frs X.stack) ch H H' s.heap s'.heap) (hok : HOk X.prog X.w H' s'.heap) (hg : AllBare s'.gens)
    (hch : ∀ b ∈ ch, (b ∈ X.ex ∨ X.s₀.heap.objs.size ≤ b) ∧ b ≠ X.env.locals ∧ (∀ x c, X.env.cells.lookup x = some c → c ≠ b) ∧ ∀ p ∈ X.pn ++ pins, p.1 ≠ b) : Inv X pins σ H' s' := by
  obtain ⟨h', g', d', t', o'⟩ := s'
  have e : o' = s.os := ho
  subst e
  exact I.call (g' := g') (t' := t') (d' := d') u hok hg hch
end
abbrev XK := Value → Option Addr → Hp → Prop
abbrev St := List (Option V)
abbrev VK := V → Hp → Prop
abbrev TE := St → Hp → VK → Prop
abbrev TT := St → Hp → (Bool → Hp → Prop) → Prop
abbrev TA := St → Hp → (List V → Hp → Prop) → Prop
structure Ends where
  nx : St → Hp → Prop
  rt : VK
  bk : St → Hp → Prop := fun _ _ => False
  ct : St → Hp → Prop := fun _ _ => False
abbrev TS := Ends → St → Hp → Prop
def EP (X : Cx) (pins : List (Addr × Obj)) (σ : St) (Q : VK) (u : Value) (s' : Shared) : Prop := ∃ v H', Inv X pins σ H' s' ∧ RelV v u ∧ Q v H'
def TP (X : Cx) (pins : List (Addr × Obj)) (σ : St) (Q : Bool → Hp → Prop) (b : Bool) (s' : Shared) : Prop := ∃ H', Inv X pins σ H' s' ∧ Q b H'
def AP (X : Cx) (pins : List (Addr × Obj)) (σ : St) (Q : List V → Hp → Prop) (us : List Value) (s' : Shared) : Prop := ∃ vs H', Inv X pins σ H' s' ∧ Vals vs us ∧ Q vs H'
def SP (X : Cx) (pins : List (Addr × Obj)) (D : Ends) (f : Flow) (s' : Shared) : Prop :=
  match f with
  | .next => ∃ σ' H', Inv X pins σ' H' s' ∧ D.nx σ' H'
  | .brk => ∃ σ' H', Inv X pins σ' H' s' ∧ D.bk σ' H'
  | .cont => ∃ σ' H', Inv X pins σ' H' s' ∧ D.ct σ' H'
  | .ret u => ∃ v σ' H', Inv X pins σ' H' s' ∧ RelV v u ∧ D.rt v H'
def PE (X : Cx) (e : Expr) (t : TE) : Prop :=
  ∀ (pins : List (Addr × Obj)) (s : Shared) (σ : St) (H : Hp) (Q : VK), Inv X pins σ H s → t σ H Q → wpAny (model X.prog X.w) X.A (eval e X.env) (EP X pins σ Q) X.xe s
def PT (X : Cx) (e : Expr) (t : TT) : Prop :=
  ∀ (pins : List (Addr × Obj)) (s : Shared) (σ : St) (H : Hp) (Q : Bool → Hp → Prop), Inv X pins σ H s → t σ H Q → wpAny (model X.prog X.w) X.A (isTrue e X.env (eval e X.env)) (TP X pins σ Q) X.xe s
def PW (X : Cx) (e : Expr) (t : TT) : Prop :=
  ∀ (whole : Sem Value) (pins : List (Addr × Obj)) (s : Shared) (σ : St) (H : Hp) (Q : Bool → Hp → Prop), Inv X pins σ H s → t σ H Q → wpAny (model X.prog X.w) X.A (isTrue e X.env whole) (TP X pins σ Q) X.xe s
theorem PW.pt {X : Cx} {e : Expr} {t : TT} (h : PW X e t) : PT X e t := h _
def PA (X : Cx) (es : List Expr) (t : TA) : Prop :=
  ∀ (pos : Pos) (pins : List (Addr × Obj)) (s : Shared) (σ : St) (H : Hp) (Q : List V → Hp → Prop), Inv X pins σ H s → t σ H Q → wpAny (model X.prog X.w) X.A (spliced (backTo pos (starEach es X.env))) (AP X pins σ Q) X.xe s
def PS (X : Cx) (st : Stmt) (t : TS) : Prop :=
  ∀ (pins : List (Addr × Obj)) (s : Shared) (σ : St) (H : Hp) (D : Ends), Inv X pins σ H s → t D σ H → wpAny (model X.prog X.w) X.A (exec st X.env) (SP X pins D) X.xe s
def PSs (X : Cx) (st : List Stmt) (t : TS) : Prop :=
  ∀ (pins : List (Addr × Obj)) (s : Shared) (σ : St) (H : Hp) (D : Ends), Inv X pins σ H s → t D σ H → wpAny (model X.prog X.w) X.A (execs st X.env) (SP X pins D) X.xe s
theorem thn {α : Type} {t : Sem α} {Q Q' : α → Shared → Prop} {M : Model} {A : Around} {E : Value → Shared → Prop} {s : Shared} (h : wpAny M A t Q E s) (hQ : ∀ a s, Q a s → Q' a s) : wpAny M A t Q' E s := wpAny_mono h hQ fun _ _ x => x
end L2
namespace L2
open PySem PySem.Spec PyProof.Rows
section
variable {X : Cx}
def tVar (i : Nat) : TE := fun σ H Q => ∃ v, σ[i]? = some (some v) ∧ Q v H
def tC (v : V) : TE := fun _ H Q => Q v H
theorem pe_var {i : Nat} {x : Str} {pos : Pos} (hN : X.N[i]? = some x) (hv : Vis X.env.scope x) (hd : (x == ("__debug__" : Str)) = false := by decide) (hcd : (x == ("__classdict__" : Str)) = false := by decide) : PE X (.Name x pos) (tVar i) := by
  intro pins s σ H Q I h
  obtain ⟨v, e, h⟩ := h
  obtain ⟨m, hn, hl⟩ := I.loc
  obtain ⟨u, r, l⟩ := hl i x v hN e hv
  have fin : EP X pins σ Q u s := ⟨v, H, I, r, h⟩
  rcases l with ⟨hk, hm⟩ | ⟨hk, c, hc, hcell⟩
  · exact wpAny_Name (wpAny_loadName_local I.ok.kind hk hn hm fin) hd
  · rcases hk with hk | hk
    · exact wpAny_Name (wpAny_loadName_cell I.ok.kind hk hc hcell fin) hd
    · exact wpAny_Name (wpAny_loadName_free I.ok.kind hk hc hcell fin hcd) hd
theorem pe_int {i j pos} : PE X (.Constant (.int i) j pos) (tC (.int i)) := fun _ _ _ H _ I h => wpAny_Constant_int ⟨.int i, H, I.tok _, ⟨_, rfl⟩, h⟩
theorem pe_bl {b j pos} : PE X (.Constant (.bool b) j pos) (tC (.bl b)) := fun _ _ _ H _ I h => Constant_bool ⟨.bl b, H, I, rfl, h⟩
theorem pe_str {x j pos} : PE X (.Constant (.str x) j pos) (tC (.str x)) := fun _ _ _ H _ I h => Calls.Constant_str ⟨.str x, H, I.tok _, ⟨_, rfl⟩, h⟩
def Gl (X : Cx) (x : Str) : Prop := X.env.kindOf x = some .globalImplicit
theorem ld_glob {E : Value → Shared → Prop} {pins : List (Addr × Obj)} {s : Shared} {σ : St} {H : Hp} {x : Str} {u : Value} {pos : Pos} {Q : Value → Shared → Prop} (I : Inv X pins σ H s) (hg : Gl X x) (hm : X.mg x = some u) (h : Q u s)
    (hd : (x == ("__debug__" : Str)) = false := by decide) : wpAny (model X.prog X.w) X.A (eval (.Name x pos) X.env) Q E s :=
  Calls.Name_function_global I.ok.kind hg (Calls.loadGlobal_global (by rw [I.ok.glob]; exact I.mod.glob.keeps I.bk) hm h) hd
theorem ld_blt {E : Value → Shared → Prop} {pins : List (Addr × Obj)} {s : Shared} {σ : St} {H : Hp} {x : Str} {u : Value} {pos : Pos} {Q : Value → Shared → Prop} (I : Inv X pins σ H s) (hg : Gl X x) (hm : X.mg x = none) (hv : bootBuiltins x = some u) (h : Q u s)
    (hn : x ≠ "__name__" := by decide) (hd : (x == ("__debug__" : Str)) = false := by decide) : wpAny (model X.prog X.w) X.A (eval (.Name x pos) X.env) Q E s := by
  obtain ⟨mb, h1, h2⟩ := I.mod.blt
  exact Calls.Name_function_global I.ok.kind hg (Calls.loadGlobal_builtin (by rw [I.ok.glob]; exact I.mod.glob.keeps I.bk) hm (by rw [I.ok.blt]; exact h1.keeps I.bk) ((h2 x hn).trans hv) h) hd
theorem pe_glob {x : Str} {v : V} {u : Value} {pos : Pos} (hg : Gl X x) (hm : X.mg x = some u) (r : RelV v u) (hd : (x == ("__debug__" : Str)) = false := by decide) : PE X (.Name x pos) (tC v) :=
  fun _ _ _ H _ I h => ld_glob I hg hm ⟨v, H, I, r, h⟩ hd
theorem pe_bltn {x : Str} {v : V} {u : Value} {pos : Pos} (hg : Gl X x) (hm : X.mg x = none) (hv : bootBuiltins x = some u) (r : RelV v u) (hn : x ≠ "__name__" := by decide) (hd : (x == ("__debug__" : Str)) = false := by decide) : PE X (.Name x pos) (tC v) :=
  fun _ _ _ H _ I h => ld_blt I hg hm hv ⟨v, H, I, r, h⟩ hn hd
variable {a b : Expr} {ta tb : TE} {pos : Pos}
def tB (t : TE) : TT := fun σ H Q => t σ H fun x H1 => ∃ c, x = .bl c ∧ Q c H1
theorem pt_val {e : Expr} {t : TE} (h : PE X e t) (he : ∀ whole, isTrue e X.env whole = (do let v ← whole; standAt e.pos; holding [v] (truthy v)) := by intro _; rfl) : PT X e (tB t) := by
  intro pins s σ H Q I hw
  refine isTrue_plain (thn (h pins s σ H _ I hw) fun v s1 ⟨x, H1, I1, r1, q1⟩ => ?_) (he _)
  obtain ⟨d, rfl, q⟩ := q1
  cases r1
  exact wpAny_truthy_bool ⟨H1, I1, q⟩
variable {tA tB' : TT} {rest : List Expr}
def tAnd (t u : TT) : TT := fun σ H Q => t σ H fun c H1 => if c = true then u σ H1 Q else Q false H1
def tOr (t u : TT) : TT := fun σ H Q => t σ H fun c H1 => if c = true then Q true H1 else u σ H1 Q
def tNot (t : TT) : TT := fun σ H Q => t σ H fun c H1 => Q (!c) H1
theorem pw_and1 (ha : PT X a tA) : PW X (.BoolOp .And [a] pos) tA := by
  intro wh pins s σ H Q I h
  refine isTrue_and (thn (ha pins s σ H Q I h) fun c s1 e => ?_)
  cases c with
  | true => exact isTrue_and_nil e
  | false => exact e
theorem pw_or1 (ha : PT X a tA) : PW X (.BoolOp .Or [a] pos) tA := by
  intro wh pins s σ H Q I h
  refine isTrue_or (thn (ha pins s σ H Q I h) fun c s1 e => ?_)
  cases c with
  | false => exact isTrue_or_nil e
  | true => exact e
theorem pw_and (ha : PT X a tA) (hb : PW X (.BoolOp .And (b :: rest) pos) tB') : PW X (.BoolOp .And (a :: b :: rest) pos) (tAnd tA tB') := by
  intro wh pins s σ H Q I h
  refine isTrue_and (thn (ha pins s σ H _ I h) fun c s1 ⟨H1, I1, q1⟩ => ?_)
  cases c with
  | true => exact hb wh pins s1 σ H1 Q I1 q1
  | false => exact ⟨H1, I1, q1⟩
theorem pw_or (ha : PT X a tA) (hb : PW X (.BoolOp .Or (b :: rest) pos) tB') : PW X (.BoolOp .Or (a :: b :: rest) pos) (tOr tA tB') := by
  intro wh pins s σ H Q I h
  refine isTrue_or (thn (ha pins s σ H _ I h) fun c s1 ⟨H1, I1, q1⟩ => ?_)
  cases c with
  | true => exact ⟨H1, I1, q1⟩
  | false => exact hb wh pins s1 σ H1 Q I1 q1
theorem pt_not (ha : PT X a tA) : PT X (.UnaryOp .Not a pos) (tNot tA) := by
  intro pins s σ H Q I h
  exact isTrue_not (ha pins s σ H (fun c H1 => Q (!c) H1) I h)
def tAndV (ta tb : TE) : TE := fun σ H Q => ta σ H fun x H1 => ∃ c, x = .bl c ∧ if c = true then tb σ H1 Q else Q (.bl false) H1
def tOrV (ta tb : TE) : TE := fun σ H Q => ta σ H fun x H1 => ∃ c, x = .bl c ∧ if c = true then Q (.bl true) H1 else tb σ H1 Q
theorem pe_one {op} {t : TE} (h : PE X a t) : PE X (.BoolOp op [a] pos) t := fun pins s σ H Q I hw => BoolOp_one (h pins s σ H Q I hw)
theorem pe_and (ha : PE X a ta) (hb : PE X (.BoolOp .And (b :: rest) pos) tb) : PE X (.BoolOp .And (a :: b :: rest) pos) (tAndV ta tb) := by
  intro pins s σ H Q I h
  refine BoolOp_and (thn (ha pins s σ H _ I h) fun v s1 ⟨x, H1, I1, r1, q1⟩ => ?_)
  obtain ⟨c, rfl, q1⟩ := q1
  cases r1
  refine wpAny_truthy_bool ?_
  cases c with
  | true => exact hb pins s1 σ H1 Q I1 q1
  | false => exact ⟨.bl false, H1, I1, rfl, q1⟩
theorem pe_or (ha : PE X a ta) (hb : PE X (.BoolOp .Or (b :: rest) pos) tb) : PE X (.BoolOp .Or (a :: b :: rest) pos) (tOrV ta tb) := by
  intro pins s σ H Q I h
  refine BoolOp_or (thn (ha pins s σ H _ I h) fun v s1 ⟨x, H1, I1, r1, q1⟩ => ?_)
  obtain ⟨c, rfl, q1⟩ := q1
  cases r1
  refine wpAny_truthy_bool ?_
  cases c with
  | false => exact hb pins s1 σ H1 Q I1 q1
  | true => exact ⟨.bl true, H1, I1, rfl, q1⟩
end
end L2
namespace L2
open PySem PySem.Spec PyProof.Rows
def SqL (K : PySem.W.Frag) (H : Hp) (a : Addr) (xs : List V) : Prop :=
  Rd H a (.lst xs) ∨
    ∃ (o : Obj) (its : Array Value) (n : Nat), K.lookup a = some o ∧ o.cls = .type "list" ∧ o.dict = none ∧ o.data = .seq its n ∧ its.size ≤ sizeLine ∧ Vals xs its.toList
def SqT (K : PySem.W.Frag) (H : Hp) (a : Addr) (xs : List V) : Prop :=
  Rd H a (.tup xs) ∨
    ∃ (o : Obj) (its : Array Value) (n : Nat), K.lookup a = some o ∧ o.cls = .type "tuple" ∧ o.data = .seq its n ∧ its.size ≤ sizeLine ∧ Vals xs its.toList
def absV : Value → Option V
  | .none => some .non
  | .bool b => some (.bl b)
  | .int i _ => some (.int i)
  | .str x _ => some (.str x)
  | .bytes b _ => some (.byt b)
  | .float b _ => some (.flt b)
  | .ref a => some (.ref a)
  | .type n => some (.ty n)
  | _ => none
theorem RelV.abs {x : V} {u : Value} (r : RelV x u) : absV u = some x := by
  cases x with
  | non => cases r; rfl
  | bl _ => cases r; rfl
  | int _ => obtain ⟨t, rfl⟩ := r; rfl
  | str _ => obtain ⟨t, rfl⟩ := r; rfl
  | byt _ => obtain ⟨t, rfl⟩ := r; rfl
  | flt _ => obtain ⟨t, rfl⟩ := r; rfl
  | ref _ => cases r; rfl
  | ty _ => cases r; rfl
theorem RelV.inj {x y : V} {u : Value} (r : RelV x u) (q : RelV y u) : x = y := Option.some.inj (r.abs.symm.trans q.abs)
theorem Vals.inj : ∀ {xs ys : List V} {us : List Value}, Vals xs us → Vals ys us → xs = ys
  | _, _, _, .nil, .nil => rfl
  | _, _, _, .cons r t, .cons r' t' => by rw [r.inj r', Vals.inj t t']
section
variable {X : Cx} {pins : List (Addr × Obj)} {σ : St} {H : Hp} {s : Shared} {a : Addr} {xs ys : List V}
theorem SqL.of {K : PySem.W.Frag} (h : H a = some (.lst xs)) : SqL K H a xs := .inl (.inl h)
theorem SqT.of {K : PySem.W.Frag} (h : H a = some (.tup xs)) : SqT K H a xs := .inl (.inl h)
theorem Inv.list (I : Inv X pins σ H s) (h : SqL X.K H a xs) : ∃ its : List Value, Vals xs its ∧ PlainL s.heap a its.toArray ∧ xs.length ≤ sizeLine := by
  rcases h with h | ⟨o, its, n, hk, hc, hd, hs, hz, r⟩
  · obtain ⟨z, its, n, r, e⟩ := h.ok I.hok
    exact ⟨its, r, ⟨_, n, e, rfl, rfl, rfl⟩, z⟩
  · refine ⟨its.toList, r, ⟨o, n, I.kIn a o hk, hc, hd, by simpa using hs⟩, ?_⟩
    have e := r.length
    simp only [Array.length_toList] at e
    omega
theorem Inv.tuple (I : Inv X pins σ H s) (h : SqT X.K H a xs) : ∃ its : List Value, Vals xs its ∧ IsTup s.heap a its.toArray ∧ xs.length ≤ sizeLine := by
  rcases h with h | ⟨o, its, n, hk, hc, hs, hz, r⟩
  · obtain ⟨z, its, r, p⟩ := h.ok I.hok
    exact ⟨its, r, p, z⟩
  · refine ⟨its.toList, r, ⟨o, I.kIn a o hk, hc, n, by simpa using hs⟩, ?_⟩
    have e := r.length
    simp only [Array.length_toList] at e
    omega
theorem Inv.list_inj (I : Inv X pins σ H s) (h : SqL X.K H a xs) (h' : SqL X.K H a ys) : xs = ys := by
  obtain ⟨its, r, ⟨o, n, e, _, _, d⟩, _⟩ := I.list h
  obtain ⟨its', r', ⟨o', n', e', _, _, d'⟩, _⟩ := I.list h'
  rw [e] at e'; cases e'
  rw [d] at d'
  injection d' with d1 _
  have : its = its' := by simpa using congrArg Array.toList d1
  subst this
  exact r.inj r'
theorem Inv.tuple_inj (I : Inv X pins σ H s) (h : SqT X.K H a xs) (h' : SqT X.K H a ys) : xs = ys := by
  obtain ⟨its, r, ⟨o, e, _, n, d⟩, _⟩ := I.tuple h
  obtain ⟨its', r', ⟨o', e', _, n', d'⟩, _⟩ := I.tuple h'
  rw [e] at e'; cases e'
  rw [d] at d'
  injection d' with d1 _
  have : its = its' := by simpa using congrArg Array.toList d1
  subst this
  exact r.inj r'
end
abbrev Cx.wish (X : Cx) (E : Value → Shared → Prop) : Cx := { X with xe := E }
abbrev Cx.nox (X : Cx) : Cx := X.wish fun _ _ => False
theorem Cx.Ok.wish {X : Cx} (ok : X.Ok) (E : Value → Shared → Prop) : (X.wish E).Ok :=
  ⟨ok.mod, ok.kind, ok.glob, ok.blt, ok.above, ok.inj, ok.has, ok.cab, ok.hd, ok.frames, ok.stk, ok.exf, ok.bs, ok.bsz, ok.noex, ok.exfs, ok.funs, ok.frf⟩
theorem Cx.Ok.unwish {X : Cx} {E : Value → Shared → Prop} (ok : (X.wish E).Ok) : X.Ok :=
  ⟨ok.mod, ok.kind, ok.glob, ok.blt, ok.above, ok.inj, ok.has, ok.cab, ok.hd, ok.frames, ok.stk, ok.exf, ok.bs, ok.bsz, ok.noex, ok.exfs, ok.funs, ok.frf⟩
section
variable {X : Cx} {pins : List (Addr × Obj)} {σ : St} {H : Hp} {s : Shared} {E : Value → Shared → Prop}
theorem Inv.wish (I : Inv X pins σ H s) (E : Value → Shared → Prop) : Inv (X.wish E) pins σ H s := ⟨I.ok.wish E, I.os, I.bare, I.base, I.loc, I.cell, I.free, I.freeC, I.pin, I.hok, I.len⟩
theorem Inv.unwish (I : Inv (X.wish E) pins σ H s) : Inv X pins σ H s := ⟨I.ok.unwish, I.os, I.bare, I.base, I.loc, I.cell, I.free, I.freeC, I.pin, I.hok, I.len⟩
theorem SP.unwish {D : Ends} {f : Flow} {s' : Shared} (h : SP (X.wish E) pins D f s') : SP X pins D f s' := by
  cases f with
  | next => obtain ⟨σ', H', I, q⟩ := h; exact ⟨σ', H', I.unwish, q⟩
  | brk => obtain ⟨σ', H', I, q⟩ := h; exact ⟨σ', H', I.unwish, q⟩
  | cont => obtain ⟨σ', H', I, q⟩ := h; exact ⟨σ', H', I.unwish, q⟩
  | ret u => obtain ⟨v, σ', H', I, r, q⟩ := h; exact ⟨v, σ', H', I.unwish, r, q⟩
theorem PSs.nox {st : List Stmt} {t : TS} (h : PSs X.nox st t) : PSs X st t := fun pins s σ H D I hw =>
  wpAny_mono (h pins s σ H D (I.wish _) hw) (fun _ _ q => q.unwish) fun _ _ z => False.elim z
end
section
variable {X : Cx} {st : Stmt} {rest : List Stmt} {t u : TS} {e : Expr} {te : TE} {pos : Pos}
def tNext : TS := fun D σ H => D.nx σ H
def tSeq (t u : TS) : TS := fun D σ H => t { D with nx := u D } σ H
theorem pss_nil : PSs X [] tNext := fun _ _ σ H _ I h => wpAny_execs_nil ⟨σ, H, I, h⟩
theorem pss_cons (h1 : PS X st t) (h2 : PSs X rest u) : PSs X (st :: rest) (tSeq t u) := by
  intro pins s σ H D I h
  refine wpAny_execs_cons (thn (h1 pins s σ H { D with nx := u D } I h) fun f s1 q => ?_)
  cases f with
  | next =>
    obtain ⟨σ', H', I', q⟩ := q
    exact h2 pins s1 σ' H' D I' q
  | ret v => exact q
  | brk => exact q
  | cont => exact q
theorem pss_one (h1 : PS X st t) : PSs X [st] t := by
  intro pins s σ H D I h
  refine wpAny_execs_cons (thn (h1 pins s σ H D I h) fun f s1 q => ?_)
  cases f with
  | next => exact wpAny_execs_nil q
  | ret v => exact q
  | brk => exact q
  | cont => exact q
theorem Inv.quiet {pins : List (Addr × Obj)} {σ : St} {H : Hp} {s : Shared} (I : Inv X pins σ H s) : interactive X.env = false := by simp [interactive, I.ok.kind]
def tDrop (te : TE) : TS := fun D σ H => te σ H fun _ H1 => D.nx σ H1
theorem ps_expr (he : PE X e te) (hs : swapsWith e none pos.line X.env = pure false := by rfl) : PS X (.Expr e pos) (tDrop te) := by
  intro pins s σ H D I h
  exact wpAny_Expr_any (thn (he pins s σ H _ I h) fun v s1 ⟨x, H1, I1, r1, q1⟩ => ⟨σ, H1, I1, q1⟩) I.quiet hs
def tRet (te : TE) : TS := fun D σ H => te σ H D.rt
theorem ps_ret (he : PE X e te) : PS X (.Return (some e) pos) (tRet te) := by
  intro pins s σ H D I h
  exact wpAny_Return_some (thn (he pins s σ H _ I h) fun v s1 ⟨x, H1, I1, r1, q1⟩ => ⟨x, σ, H1, I1, r1, q1⟩)
def tIfS (c : TT) (t u : TS) : TS := fun D σ H => c σ H fun b H1 => if b = true then t D σ H1 else u D σ H1
theorem ps_if {c : Expr} {a b : List Stmt} {tc : TT} (hc : PT X c tc) (ha : PSs X a t) (hb : PSs X b u) : PS X (.If c a b pos) (tIfS tc t u) := by
  intro pins s σ H D I h
  refine wpAny_If (thn (hc pins s σ H _ I h) fun d s1 ⟨H1, I1, q1⟩ => ?_)
  cases d with
  | true => exact ha pins s1 σ H1 D I1 q1
  | false => exact hb pins s1 σ H1 D I1 q1
end
abbrev TG := V → St → Hp → (St → Hp → Prop) → Prop
abbrev TGs := List V → St → Hp → (St → Hp → Prop) → Prop
def PG (X : Cx) (target : Expr) (t : TG) : Prop :=
  ∀ (pins : List (Addr × Obj)) (s : Shared) (σ : St) (H : Hp) (v : V) (u : Value) (Q : St → Hp → Prop), Inv X pins σ H s → RelV v u → t v σ H Q →
    wpAny (model X.prog X.w) X.A (assign target X.env u) (fun _ s' => ∃ σ' H', Inv X pins σ' H' s' ∧ Q σ' H') X.xe s
def PGs (X : Cx) (ts : List Expr) (t : TGs) : Prop :=
  ∀ (pins : List (Addr × Obj)) (s : Shared) (σ : St) (H : Hp) (vs : List V) (us : List Value) (Q : St → Hp → Prop), Inv X pins σ H s → Vals vs us → t vs σ H Q →
    wpAny (model X.prog X.w) X.A (assignInOrder ((assignEach ts X.env).map (·.2)) us) (fun _ s' => ∃ σ' H', Inv X pins σ' H' s' ∧ Q σ' H') X.xe s
abbrev TSet := V → V → V → Hp → (Hp → Prop) → Prop
def PSet (X : Cx) (t : TSet) : Prop :=
  ∀ (pins : List (Addr × Obj)) (s : Shared) (σ : St) (H : Hp) (o i v : V) (ov iv u : Value) (Q : Hp → Prop), Inv X pins σ H s → RelV o ov → RelV i iv → RelV v u → t o i v H Q →
    wpAny (model X.prog X.w) X.A (setItem ov iv u) (fun _ s' => ∃ H', Inv X pins σ H' s' ∧ Q H') X.xe s
section
variable {X : Cx} {pos : Pos}
def gName (i : Nat) : TG := fun v σ H Q => Q (σ.set i (some v)) H
theorem pg_name {i : Nat} {x : Str} (hN : X.N.Nodup) (hi : X.N[i]? = some x) (hx : Loc X.env.scope x) (hf : X.fn x = true ∨ X.env.scope.names.lookup x = some .local := by first | exact .inl rfl | exact .inr rfl | assumption) : PG X (.Name x pos) (gName i) := by
  intro pins s σ H v u Q I r h
  exact wpAny_assign_Name (store_ok I hN hi hx r (fun s' I' => ⟨_, H, I', h⟩) hf)
def gNil : TGs := fun vs σ H Q => vs = [] ∧ Q σ H
def gCons (t : TG) (u : TGs) : TGs := fun vs σ H Q => ∃ v r, vs = v :: r ∧ t v σ H fun σ' H' => u r σ' H' Q
theorem pgs_nil : PGs X [] gNil := by
  intro pins s σ H vs us Q I r h
  obtain ⟨e, h⟩ := h
  subst e
  cases r
  exact assignInOrder_nil ⟨σ, H, I, h⟩
theorem pgs_cons {e : Expr} {es : List Expr} {t : TG} {u : TGs} (h1 : PG X e t) (h2 : PGs X es u)
    (hs : (assignEach (e :: es) X.env).map (·.2) = assign e X.env :: (assignEach es X.env).map (·.2) := by rfl) : PGs X (e :: es) (gCons t u) := by
  intro pins s σ H vs us Q I r h
  obtain ⟨v, vr, e1, h⟩ := h
  subst e1
  cases r with
  | cons r rr =>
    rw [hs]
    refine assignInOrder_cons (thn (h1 pins s σ H _ _ _ I r h) fun _ s1 ⟨σ1, H1, I1, q1⟩ => ?_)
    exact h2 pins s1 σ1 H1 _ _ Q I1 rr q1
def gTup (K : PySem.W.Frag) (n : Nat) (t : TGs) : TG := fun v σ H Q => ∃ a xs, v = .ref a ∧ SqT K H a xs ∧ xs.length = n ∧ t xs σ H Q
theorem pg_tup {es : List Expr} {k : Nat} {t : TGs} {n : Nat} (hc : X.calm = true) (h : PGs X es t)
    (hn : (assignEach es X.env).length = n := by rfl) (hst : (assignEach es X.env).findIdx? (·.1) = none := by rfl) : PG X (.Tuple es k pos) (gTup X.K n t) := by
  intro pins s σ H v u Q I r hw
  obtain ⟨a, xs, e1, hq, hl, hw⟩ := hw
  subst e1
  cases r
  obtain ⟨its, rv, ht, hz⟩ := I.tuple hq
  refine assign_Tuple_tuple (I.ok.hd hc) ht (by simp [hn, ← hl, rv.length]) hst fun h' hx => ?_
  have I1 : Inv X pins σ H { s with heap := h' } := I.kept (t' := s.toks) fun b o e => hx b o (Nat.ne_of_lt (Heap.lt_size e)) e
  exact h pins _ σ H xs _ Q I1 (by simpa using rv) hw
def gSub (to ti : TE) (t : TSet) : TG := fun v σ H Q => to σ H fun o H1 => ti σ H1 fun i H2 => t o i v H2 fun H3 => Q σ H3
theorem pg_sub {o i : Expr} {to ti : TE} {t : TSet} (ho : PE X o to) (hi : PE X i ti) (hs : PSet X t)
    (ha : ∀ v, assign (.Subscript o i pos) X.env v = (do
      let ov ← holding [v] (eval o X.env)
      let iv ← holding [v, ov] (eval i X.env)
      standAt pos
      holding [v, ov, iv] (setItem ov iv v)
      release [v, ov, iv] []) := by intro _; rfl) : PG X (.Subscript o i pos) (gSub to ti t) := by
  intro pins s σ H v u Q I r h
  rw [ha]
  refine wpAny_bind (wpAny_holding (thn (ho pins s σ H _ I h) fun ov s1 ⟨x, H1, I1, r1, q1⟩ => ?_))
  refine wpAny_bind (wpAny_holding (thn (hi pins s1 σ H1 _ I1 q1) fun iv s2 ⟨y, H2, I2, r2, q2⟩ => ?_))
  refine wpAny_bind (wpAny_standAt (wpAny_bind (wpAny_holding (thn (hs pins s2 σ H2 x y v ov iv u _ I2 r1 r2 r q2) fun _ s3 ⟨H3, I3, q3⟩ => ?_))))
  exact wpAny_release ⟨σ, H3, I3, q3⟩
def tAsg (te : TE) (g : TG) : TS := fun D σ H => te σ H fun x H1 => g x σ H1 D.nx
theorem ps_asg {tg e : Expr} {te : TE} {g : TG} (he : PE X e te) (hg : PG X tg g) (hs : swapsWithSole [tg] e pos.line X.env = pure false := by rfl) (hw : swappedStores [tg] e X.env = pure none := by rfl)
    (h1 : (assignEach [tg] X.env).map (·.2) = [assign tg X.env] := by rfl) : PS X (.Assign [tg] e pos) (tAsg te g) := by
  intro pins s σ H D I h
  refine wpAny_Assign_stores (thn (he pins s σ H _ I h) fun v s1 ⟨x, H1, I1, r1, q1⟩ => ?_) hs hw
  rw [h1]
  exact thn (hg pins s1 σ H1 x v _ I1 r1 q1) fun _ s2 q => q
theorem ps_set {i : Nat} {x : Str} {e : Expr} {te : TE} {pos' : Pos} (hN : X.N.Nodup) (hi : X.N[i]? = some x) (hx : Loc X.env.scope x) (he : PE X e te) (hs : swapsWith e (some (.Name x pos')) pos.line X.env = pure false := by rfl) (hf : X.fn x = true ∨ X.env.scope.names.lookup x = some .local := by first | exact .inl rfl | exact .inr rfl | assumption) :
    PS X (.Assign [.Name x pos'] e pos) (tAsg te (gName i)) := by
  intro pins s σ H D I h
  refine wpAny_Assign_Name (thn (he pins s σ H _ I h) fun v s1 ⟨y, H1, I1, r1, q1⟩ => ?_) hs
  exact store_ok I1 hN hi hx r1 (fun s2 I2 => ⟨_, H1, I2, q1⟩) hf
end
section
variable {X : Cx} {pos : Pos}
def tWhile (c : TT) (tb : TS) : TS := fun D σ H => ∃ W : Nat → St → Hp → Prop, (∃ m, W m σ H) ∧ ∀ m σ H, W m σ H →
  c σ H fun b H1 => if b = true then ∃ N : St → Hp → Prop, (∀ σ' H', N σ' H' → ∃ m', m' < m ∧ W m' σ' H') ∧ tb { D with nx := N, ct := N, bk := D.nx } σ H1 else D.nx σ H1
theorem ps_while {c : Expr} {body : List Stmt} {tc : TT} {tb : TS} (hp : PassesOwn (model X.prog X.w) X.A X.env X.xe) (hc : PT X c tc) (hb : PSs X body tb) : PS X (.While c body [] pos) (tWhile tc tb) := by
  intro pins s σ H D I h
  obtain ⟨W, ⟨m0, w0⟩, turn⟩ := h
  refine wpAny_While (codeAny_whileLoop (fun n s' => ∃ σ' H', Inv X pins σ' H' s' ∧ W n σ' H') ?_ m0 ⟨σ, H, I, w0⟩)
  rintro n s1 ⟨σ1, H1, I1, w1⟩
  refine wpAny_passesOwn hp (thn (hc pins s1 σ1 H1 _ I1 (turn n σ1 H1 w1)) fun b s2 ⟨H2, I2, q2⟩ => ?_)
  cases b with
  | true =>
    obtain ⟨N, hN, q2⟩ := q2
    rw [if_pos rfl]
    refine wpAny_passesOwn hp (thn (hb pins s2 σ1 H2 _ I2 q2) fun f s3 q3 => ?_)
    cases f with
    | next =>
      obtain ⟨σ3, H3, I3, n3⟩ := q3
      obtain ⟨m', hm, w3⟩ := hN σ3 H3 n3
      exact ⟨m', hm, σ3, H3, I3, w3⟩
    | cont =>
      obtain ⟨σ3, H3, I3, n3⟩ := q3
      obtain ⟨m', hm, w3⟩ := hN σ3 H3 n3
      exact ⟨m', hm, σ3, H3, I3, w3⟩
    | brk => exact q3
    | ret v => exact q3
  | false =>
    rw [if_neg Bool.false_ne_true]
    exact wpAny_execs_nil ⟨σ1, H2, I2, q2⟩
end
structure It where
  go : Nat → Hp → Prop
  yld : Nat → Hp → V → Hp → Prop
  stop : Nat → Hp → Prop
def FpOk (X : Cx) (pins : List (Addr × Obj)) (H : Hp) (b : Addr) : Prop :=
  H b = none ∧ b ≠ X.env.locals ∧ b ∉ X.fs ∧ (b ∈ X.ex ∨ X.s₀.heap.objs.size ≤ b) ∧ (∀ x c, X.env.cells.lookup x = some c → c ≠ b) ∧ ∀ p ∈ X.pn ++ pins, p.1 ≠ b
theorem Inv.fpOk {X : Cx} {pins : List (Addr × Obj)} {σ : St} {H H' : Hp} {s : Shared} {b : Addr} (I : Inv X pins σ H s) (hb : s.heap.objs.size ≤ b) (hn : H' b = none) : FpOk X pins H' b := by
  refine ⟨hn, Nat.ne_of_gt (Nat.lt_of_lt_of_le I.lt hb), I.nofs hb, .inr (Nat.le_trans I.sz hb), fun x c e z => ?_, fun p hp z => ?_⟩
  · obtain ⟨v, q⟩ := I.cell x c e
    exact absurd (Nat.lt_of_lt_of_le q.lt (by rw [z]; exact hb)) (Nat.lt_irrefl _)
  · exact absurd (Nat.lt_of_lt_of_le (Heap.lt_size (I.pin p hp).1) (by rw [z]; exact hb)) (Nat.lt_irrefl _)
structure Turn (P : Program) (w : World) (K : PySem.W.Frag) (tg : Expr) (J : It) (fp : List Addr) (it : Addr) (tn : Nat → Heap → Prop) : Prop where
  mem : it ∈ fp
  obj : ∀ i h, tn i h → ∀ b ∈ fp, ∃ o, h.get? b = some o ∧ ∀ v, o.data ≠ .cell v
  keep : ∀ i h h', tn i h → (∀ b ∈ fp, ∀ o, h.get? b = some o → h'.get? b = some o) → tn i h'
  item : ∀ (X : Cx), X.prog = P → X.w = w → X.K = K → X.calm = true → ∀ (i : Nat) (pins : List (Addr × Obj)) (s : Shared) (σ : St) (H : Hp) (E : Value → Shared → Prop), Inv X pins σ H s → (∀ b ∈ fp, FpOk X pins H b) → tn i s.heap → J.go i H →
    wpAny (model P w) X.A (pyNext (.ref it)) (fun r s1 => ∃ u, r = some u ∧
      wpAny (model P w) X.A (letOwnedTupleGo tg (.ref it) u) (fun _ s2 => ∃ x H', Inv X pins σ H' s2 ∧ RelV x u ∧ J.yld i H x H' ∧ tn (i + 1) s2.heap ∧ ∀ b ∈ fp, H' b = none) E s1) E s
  done : ∀ (X : Cx), X.prog = P → X.w = w → X.K = K → X.calm = true → ∀ (i : Nat) (pins : List (Addr × Obj)) (s : Shared) (σ : St) (H : Hp) (E : Value → Shared → Prop), Inv X pins σ H s → (∀ b ∈ fp, FpOk X pins H b) → tn i s.heap → J.stop i H →
    wpAny (model P w) X.A (pyNext (.ref it)) (fun r s1 => r = none ∧ Inv X pins σ H s1) E s
  self : ∀ (A : Around) (i : Nat) (s : Shared) (Q : Value → Shared → Prop) (E : Value → Shared → Prop), tn i s.heap → Q (.ref it) s → wpAny (model P w) A (pyIter (.ref it)) Q E s
abbrev TI := St → Hp → (It → Hp → Prop) → Prop
def PIE (X : Cx) (pins : List (Addr × Obj)) (σ : St) (tg : Expr) (R : It → Hp → Prop) (itv : Value) (s2 : Shared) : Prop :=
  ∃ (it : Addr) (fp : List Addr) (tn : Nat → Heap → Prop) (J : It) (H' : Hp), itv = .ref it ∧ Inv X pins σ H' s2 ∧ Turn X.prog X.w X.K tg J fp it tn ∧ tn 0 s2.heap ∧ (∀ b ∈ fp, FpOk X pins H' b) ∧ R J H'
def PI (X : Cx) (tg iter : Expr) (wi : TI) : Prop :=
  ∀ (pins : List (Addr × Obj)) (s : Shared) (σ : St) (H : Hp) (R : It → Hp → Prop), Inv X pins σ H s → wi σ H R →
    wpAny (model X.prog X.w) X.A (eval iter X.env) (fun v s1 => wpAny (model X.prog X.w) X.A (pyIter v) (PIE X pins σ tg R) X.xe s1) X.xe s
theorem go_of {M : Model} {A : Around} {E : Value → Shared → Prop} {s : Shared} {tg : Expr} {it : Addr} {u : Value} {o : Obj} {n : String} {vs : Array Value} {Q : Unit → Shared → Prop} (ho : s.heap.get? it = some o) (hc : o.cls = .type n) (hd : o.data = .fields vs)
    (hn : ["enumerate", "zip", "dict_itemiterator", "dict_reverseitemiterator", "odict_iterator", "itertools.zip_longest", "itertools.pairwise"].contains n = false) (hQ : Q () s) : wpAny M A (letOwnedTupleGo tg (.ref it) u) Q E s := by
  unfold letOwnedTupleGo
  cases tg <;> first
    | exact wpAny_pure hQ
    | (cases u <;> first
        | exact wpAny_pure hQ
        | (refine wpAny_bind (wpAny_load ho ?_)
           rw [hc, hd]
           show wpAny M A (if (["enumerate", "zip", "dict_itemiterator", "dict_reverseitemiterator", "odict_iterator", "itertools.zip_longest", "itertools.pairwise"].contains n && vs[0]? == some (rawInt _)) = true then _ else _) Q E s
           rw [if_neg (by intro h; rw [hn, Bool.false_and] at h; cases h)]
           exact wpAny_pure hQ))
def Itl (K : PySem.W.Frag) (a : Addr) : It :=
  ⟨fun i H => ∃ xs x, SqL K H a xs ∧ xs[i]? = some x, fun i H x H' => H' = H ∧ ∀ xs, SqL K H a xs → xs[i]? = some x, fun i H => ∃ xs, SqL K H a xs ∧ xs.length ≤ i⟩
def Itt (K : PySem.W.Frag) (a : Addr) : It :=
  ⟨fun i H => ∃ xs x, SqT K H a xs ∧ xs[i]? = some x, fun i H x H' => H' = H ∧ ∀ xs, SqT K H a xs → xs[i]? = some x, fun i H => ∃ xs, SqT K H a xs ∧ xs.length ≤ i⟩
def Itr (lo : Int) (n : Nat) : It := ⟨fun i _ => i < n, fun i H x H' => H' = H ∧ x = .int (lo + i), fun i _ => n ≤ i⟩
theorem turn_list {P : Program} {w : World} {K : PySem.W.Frag} {tg : Expr} (a it : Addr) : Turn P w K tg (Itl K a) [it] it (fun i h => h.IsListIter it a i) where
  mem := by simp
  obj := fun i h st b hb => by
    have e : b = it := by simpa using hb
    subst e
    obtain ⟨o, e, c, d⟩ := st
    exact ⟨o, e, fun v z => by rw [d] at z; cases z⟩
  keep := fun i h h' st k => st.at fun o e => k it (by simp) o e
  item := by
    intro X hP hw hK hc i pins s σ H E I hf st hg
    subst hP hw hK
    obtain ⟨xs, x, hq, hx⟩ := hg
    obtain ⟨its, rv, p, hz⟩ := I.list hq
    obtain ⟨u, hu, ru⟩ := rv.get hx
    obtain ⟨f0, f1, f2, f3, f4, f5⟩ := hf it (by simp)
    refine wpAny_pyNext_list_item st p.isList (x := u) (by simpa using hu) fun h' st' sb => ?_
    have I1 : Inv X pins σ H { s with heap := h' } := I.turned (t' := s.toks) (fun b o hb e => (sb.2 b hb).trans e) f0 f1 f3 f4 f5
    obtain ⟨o, e, c, d⟩ := id st'
    exact ⟨u, rfl, go_of (s := { s with heap := h' }) e c d (by decide) ⟨x, H, I1, ru, ⟨rfl, fun ys hy => by rw [I.list_inj hy hq]; exact hx⟩, st', fun b hb => (hf b hb).1⟩⟩
  done := by
    intro X hP hw hK hc i pins s σ H E I hf st hg
    subst hP hw hK
    obtain ⟨xs, hq, hx⟩ := hg
    obtain ⟨its, rv, p, hz⟩ := I.list hq
    obtain ⟨f0, f1, f2, f3, f4, f5⟩ := hf it (by simp)
    have hl := rv.length
    exact wpAny_pyNext_list_end (I.ok.hd hc) st p.isList (by simp; omega) fun h' eb => ⟨rfl, I.turned (t' := s.toks) (fun b o hb e => eb b o hb e) f0 f1 f3 f4 f5⟩
  self := fun _ _ _ _ _ st h => wpAny_pyIter_listiter st h
theorem turn_tuple {P : Program} {w : World} {K : PySem.W.Frag} {tg : Expr} (a it : Addr) : Turn P w K tg (Itt K a) [it] it (fun i h => h.IsTupleIter it a i) where
  mem := by simp
  obj := fun i h st b hb => by
    have e : b = it := by simpa using hb
    subst e
    obtain ⟨o, e, c, d⟩ := st
    exact ⟨o, e, fun v z => by rw [d] at z; cases z⟩
  keep := fun i h h' st k => st.at fun o e => k it (by simp) o e
  item := by
    intro X hP hw hK hc i pins s σ H E I hf st hg
    subst hP hw hK
    obtain ⟨xs, x, hq, hx⟩ := hg
    obtain ⟨its, rv, p, hz⟩ := I.tuple hq
    obtain ⟨u, hu, ru⟩ := rv.get hx
    obtain ⟨f0, f1, f2, f3, f4, f5⟩ := hf it (by simp)
    refine wpAny_pyNext_tuple_item st (show s.heap.IsTuple a its.toArray from p) (x := u) (by simpa using hu) fun h' st' sb => ?_
    have I1 : Inv X pins σ H { s with heap := h' } := I.turned (t' := s.toks) (fun b o hb e => (sb.2 b hb).trans e) f0 f1 f3 f4 f5
    obtain ⟨o, e, c, d⟩ := id st'
    exact ⟨u, rfl, go_of (s := { s with heap := h' }) e c d (by decide) ⟨x, H, I1, ru, ⟨rfl, fun ys hy => by rw [I.tuple_inj hy hq]; exact hx⟩, st', fun b hb => (hf b hb).1⟩⟩
  done := by
    intro X hP hw hK hc i pins s σ H E I hf st hg
    subst hP hw hK
    obtain ⟨xs, hq, hx⟩ := hg
    obtain ⟨its, rv, p, hz⟩ := I.tuple hq
    obtain ⟨f0, f1, f2, f3, f4, f5⟩ := hf it (by simp)
    have hl := rv.length
    exact wpAny_pyNext_tuple_end (I.ok.hd hc) st (show s.heap.IsTuple a its.toArray from p) (by simp; omega) fun h' eb => ⟨rfl, I.turned (t' := s.toks) (fun b o hb e => eb b o hb e) f0 f1 f3 f4 f5⟩
  self := fun _ _ _ _ _ st h => wpAny_pyIter_tupleiter st h
theorem turn_range {P : Program} {w : World} {K : PySem.W.Frag} {tg : Expr} (it : Addr) (lo : Int) (n : Nat) : Turn P w K tg (Itr lo n) [it] it (fun i h => IsRangeIter h it (lo + (i : Nat) * 1) ((n : Int) - (i : Nat)) 1) where
  mem := by simp
  obj := fun i h st b hb => by
    have e : b = it := by simpa using hb
    subst e
    exact ⟨_, st, fun v z => by
      have z' : Data.fields _ = Data.cell v := z
      cases z'⟩
  keep := fun i h h' st k => k it (by simp) _ st
  item := by
    intro X hP hw hK hc i pins s σ H E I hf st hg
    subst hP hw hK
    obtain ⟨f0, f1, f2, f3, f4, f5⟩ := hf it (by simp)
    have W := Walks.range (prog := X.prog) (w := X.w) (I.ok.hd hc) it lo 1 n
    refine W.item i s _ _ hg st fun v h' tk hv st' kk => ?_
    obtain ⟨t, rfl⟩ := hv
    have I1 : Inv X pins σ H { s with heap := h', toks := tk } := I.turned (fun b o hb e => kk b o (by simpa using hb) e) f0 f1 f3 f4 f5
    refine ⟨_, rfl, go_of (s := { s with heap := h', toks := tk }) (n := "range_iterator") st' rfl rfl (by decide) ⟨.int (lo + i), H, I1, ⟨t, ?_⟩, ⟨rfl, rfl⟩, st', fun b hb => (hf b hb).1⟩⟩
    rw [Int.mul_one]
  done := by
    intro X hP hw hK hc i pins s σ H E I hf st hg
    subst hP hw hK
    obtain ⟨f0, f1, f2, f3, f4, f5⟩ := hf it (by simp)
    exact wpAny_pyNext_range_end (I.ok.hd hc) st (by have : n ≤ i := hg; omega) fun h' eb => ⟨rfl, I.turned (t' := s.toks) (fun b o hb e => eb b o hb e) f0 f1 f3 f4 f5⟩
  self := fun _ _ _ _ _ st h => wpAny_pyIter_rangeiter st h
end L2
namespace L2
open PySem PySem.Spec PyProof.Rows
section
variable {X : Cx} {tg : Expr}
def iList (K : PySem.W.Frag) (tl : TE) : TI := fun σ H R => tl σ H fun x H1 => ∃ a, x = .ref a ∧ (∃ xs, SqL K H1 a xs) ∧ R (Itl K a) H1
def iTup (K : PySem.W.Frag) (tl : TE) : TI := fun σ H R => tl σ H fun x H1 => ∃ a, x = .ref a ∧ (∃ xs, SqT K H1 a xs) ∧ R (Itt K a) H1
theorem pi_list {l : Expr} {tl : TE} (hl : PE X l tl) : PI X tg l (iList X.K tl) := by
  intro pins s σ H R I h
  refine thn (hl pins s σ H _ I h) fun v s1 ⟨x, H1, I1, r1, q1⟩ => ?_
  obtain ⟨a, e, ⟨xs, hq⟩, q⟩ := q1
  subst e
  cases r1
  obtain ⟨its, rv, p, hz⟩ := I1.list hq
  refine wpAny_pyIter_list p.isList ?_
  refine ⟨s1.heap.objs.size, [s1.heap.objs.size], _, _, H1, rfl, I1.kept (t' := s1.toks) fun b o e => Heap.get?_push_of_some _ e, turn_list a _, ⟨_, Heap.get?_push_size _ rfl, rfl, rfl⟩, fun b hb => ?_, q⟩
  have e : b = s1.heap.objs.size := by simpa using hb
  subst e
  exact I1.fpOk (Nat.le_refl _) (I1.hok.fresh (Nat.le_refl _))
theorem pi_tup {l : Expr} {tl : TE} (hl : PE X l tl) : PI X tg l (iTup X.K tl) := by
  intro pins s σ H R I h
  refine thn (hl pins s σ H _ I h) fun v s1 ⟨x, H1, I1, r1, q1⟩ => ?_
  obtain ⟨a, e, ⟨xs, hq⟩, q⟩ := q1
  subst e
  cases r1
  obtain ⟨its, rv, p, hz⟩ := I1.tuple hq
  refine wpAny_pyIter_tuple (show s1.heap.IsTuple a its.toArray from p) ?_
  refine ⟨s1.heap.objs.size, [s1.heap.objs.size], _, _, H1, rfl, I1.kept (t' := s1.toks) fun b o e => Heap.get?_push_of_some _ e, turn_tuple a _, ⟨_, Heap.get?_push_size _ rfl, rfl, rfl⟩, fun b hb => ?_, q⟩
  have e : b = s1.heap.objs.size := by simpa using hb
  subst e
  exact I1.fpOk (Nat.le_refl _) (I1.hok.fresh (Nat.le_refl _))
theorem range_it {pins : List (Addr × Obj)} {σ : St} {H : Hp} {s : Shared} {R : It → Hp → Prop} {E : Value → Shared → Prop} {lo hi : Int} {t u v : Tok} {tk : Nat} (I : Inv X pins σ H s) (h1 : -(2 ^ 62) ≤ lo) (h2 : lo < 2 ^ 62) (h3 : -(2 ^ 62) ≤ hi) (h4 : hi < 2 ^ 62)
    (q : R (Itr lo (hi - lo).toNat) H) : wpAny (model X.prog X.w) X.A (pyIter (.ref s.heap.objs.size)) (PIE X pins σ tg R) E { s with heap := s.heap.push { cls := .type "range", data := .fields #[.int lo t, .int hi u, .int 1 v] }, toks := tk } := by
  refine wpAny_pyIter_range (IsRange.new ..) (small_one h1 h2 h3 h4) ?_
  have I1 : Inv X pins σ H { s with heap := s.heap.push { cls := .type "range", data := .fields #[.int lo t, .int hi u, .int 1 v] }, toks := tk } := I.kept fun b o e => Heap.get?_push_of_some _ e
  refine ⟨(s.heap.push { cls := .type "range", data := .fields #[.int lo t, .int hi u, .int 1 v] }).objs.size, [(s.heap.push { cls := .type "range", data := .fields #[.int lo t, .int hi u, .int 1 v] }).objs.size], _, _, H, rfl,
    I1.kept (t' := tk) fun b o e => Heap.get?_push_of_some _ e, turn_range _ lo (hi - lo).toNat, ?_, fun b hb => ?_, q⟩
  · have e1 : lo + ((0 : Nat) : Int) * 1 = lo := by simp
    have e2 : (((hi - lo).toNat : Nat) : Int) - ((0 : Nat) : Int) = Builtin.Range.rangeSize lo hi 1 := by rw [rangeSize_one]; split <;> omega
    show IsRangeIter _ _ (lo + ((0 : Nat) : Int) * 1) ((((hi - lo).toNat : Nat) : Int) - ((0 : Nat) : Int)) 1
    rw [e1, e2]
    exact Heap.get?_push_size _ rfl
  · have e : b = (s.heap.push { cls := .type "range", data := .fields #[.int lo t, .int hi u, .int 1 v] }).objs.size := by simpa using hb
    subst e
    exact I1.fpOk (Nat.le_refl _) (I1.hok.fresh (Nat.le_refl _))
def iRng1 (ta : TA) : TI := fun σ H R => ta σ H fun vs H1 => ∃ j : Int, vs = [.int j] ∧ -(2 ^ 62) ≤ j ∧ j < 2 ^ 62 ∧ R (Itr 0 j.toNat) H1
theorem pi_range1 {a : Expr} {ta : TA} {p pos : Pos} (hg : Gl X "range") (hm : X.mg "range" = none) (ha : PA X [a] ta) (hs : starEach [a] X.env = [(false, eval a X.env)] := by rfl) : PI X tg (.Call (.Name "range" p) [a] [] pos) (iRng1 ta) := by
  intro pins s σ H R I h
  refine Call_ (ld_blt I hg hm boot_range (PyProof.Rows.callWith_type1 (thn (ha pos pins s σ H _ I h) fun us s1 ⟨vs, H1, I1, r1, q1⟩ => ?_) hs rfl))
  obtain ⟨j, e, q1, q2, q⟩ := q1
  subst e
  cases r1 with
  | cons r rr =>
    cases rr
    obtain ⟨t, rfl⟩ := r
    exact call_range_1 (range_it I1 (by omega) (by omega) q1 q2 (by simpa using q))
def tFor (wi : TI) (g : TG) (tb : TS) : TS := fun D σ H => wi σ H fun J H1 => ∃ W : Nat → Nat → St → Hp → Prop, (∃ m, W 0 m σ H1) ∧ ∀ i m σ H, W i m σ H →
  (J.stop i H ∧ D.nx σ H) ∨ (J.go i H ∧ ∃ N : St → Hp → Prop, (∀ σ' H', N σ' H' → ∃ m', m' < m ∧ W (i + 1) m' σ' H') ∧ ∀ x H', J.yld i H x H' → g x σ H' fun σ2 H2 => tb { D with nx := N, ct := N, bk := D.nx } σ2 H2)
def pinsAt (fp : List Addr) (h : Heap) : List (Addr × Obj) := fp.filterMap fun b => (h.get? b).map fun o => (b, o)
theorem mem_pinsAt {fp : List Addr} {h : Heap} {b : Addr} {o : Obj} (hb : b ∈ fp) (e : h.get? b = some o) : (b, o) ∈ pinsAt fp h := List.mem_filterMap.mpr ⟨b, hb, by rw [e]; rfl⟩
theorem of_pinsAt {fp : List Addr} {h : Heap} {p : Addr × Obj} (hp : p ∈ pinsAt fp h) : p.1 ∈ fp ∧ h.get? p.1 = some p.2 := by
  obtain ⟨b, hb, e⟩ := List.mem_filterMap.mp hp
  cases q : h.get? b with
  | none => rw [q] at e; cases e
  | some o =>
    rw [q] at e
    have e' : (b, o) = p := Option.some.inj e
    subst e'
    exact ⟨hb, q⟩
theorem Inv.pinned {pins : List (Addr × Obj)} {σ : St} {H : Hp} {s : Shared} {fp : List Addr} (I : Inv X pins σ H s) (hf : ∀ b ∈ fp, FpOk X pins H b) (ho : ∀ b ∈ fp, ∃ o, s.heap.get? b = some o ∧ ∀ v, o.data ≠ .cell v) : Inv X (pins ++ pinsAt fp s.heap) σ H s :=
  I.pins_of fun p hp => (List.mem_append.mp hp).elim (fun z => I.pin p (List.mem_append_right _ z)) fun z => by
    obtain ⟨hb, e⟩ := of_pinsAt z
    obtain ⟨f0, f1, f2, _⟩ := hf p.1 hb
    obtain ⟨o, e', d⟩ := ho p.1 hb
    rw [e] at e'; cases e'
    exact ⟨e, f0, f1, f2, d⟩
theorem Inv.unpinned {pins pl : List (Addr × Obj)} {σ : St} {H : Hp} {s : Shared} (I : Inv X (pins ++ pl) σ H s) : Inv X pins σ H s := I.pins_of fun p hp => I.pin p (List.mem_append_right _ (List.mem_append_left _ hp))
theorem ps_for {iter : Expr} {body : List Stmt} {wi : TI} {g : TG} {tb : TS} {pos : Pos} (hp : PassesOwn (model X.prog X.w) X.A X.env X.xe) (hc : X.calm = true) (hi : PI X tg iter wi) (hg : PG X tg g) (hb : PSs X body tb)
    (hs : ∀ x, foldedSetIterable iter X.env x = pure x := by intro _; rfl) : PS X (.For tg iter body [] pos) (tFor wi g tb) := by
  intro pins s σ H D I h
  refine wpAny_For (thn (hi pins s σ H _ I h) fun v s1 h1 => thn h1 fun itv s2 h2 => ?_) hs
  obtain ⟨it, fp, tn, J, H2, e, I2, T, st2, f2, W, ⟨m0, w0⟩, turn⟩ := h2
  subst e
  -- what stays true of the iterator's objects through the loop
  have stat : ∀ {H' : Hp}, (∀ b ∈ fp, H' b = none) → ∀ b ∈ fp, FpOk X pins H' b := fun hn b hb => ⟨hn b hb, (f2 b hb).2⟩
  refine codeAny_forLoop_any (fun n s' => ∃ i σ' H', Inv X pins σ' H' s' ∧ tn i s'.heap ∧ (∀ b ∈ fp, H' b = none) ∧ W i n σ' H') ?_ m0 ⟨0, σ, H2, I2, st2, fun b hb => (f2 b hb).1, w0⟩
  rintro n s3 ⟨i, σ3, H3, I3, st3, fr3, w3⟩
  rcases turn i n σ3 H3 w3 with ⟨stop, qn⟩ | ⟨go, N, hN, step⟩
  · refine wpAny_passesOwn hp (thn (T.done X rfl rfl rfl hc i pins s3 σ3 H3 X.xe I3 (stat fr3) st3 stop) fun r s4 ⟨hr, I4⟩ => ?_)
    subst hr
    exact wpAny_execs_nil ⟨σ3, H3, I4, qn⟩
  · refine wpAny_passesOwn hp (thn (T.item X rfl rfl rfl hc i pins s3 σ3 H3 X.xe I3 (stat fr3) st3 go) fun r s4 ⟨u, hr, h4⟩ => ?_)
    subst hr
    refine wpAny_passesOwn hp (thn h4 fun _ s5 ⟨x, H5, I5, r5, y5, st5, fr5⟩ => ?_)
    have I5' := I5.pinned (stat fr5) (T.obj _ _ st5)
    refine wpAny_passesOwn hp (thn (hg _ s5 σ3 H5 x u _ I5' r5 (step x H5 y5)) fun _ s6 ⟨σ6, H6, I6, q6⟩ => ?_)
    refine wpAny_passesOwn hp (thn (hb _ s6 σ6 H6 _ I6 q6) fun f s7 q7 => ?_)
    have again : ∀ {σ7 : St} {H7 : Hp}, Inv X (pins ++ pinsAt fp s5.heap) σ7 H7 s7 → N σ7 H7 → ∃ m, m < n ∧ ∃ i σ' H', Inv X pins σ' H' s7 ∧ tn i s7.heap ∧ (∀ b ∈ fp, H' b = none) ∧ W i m σ' H' := fun {σ7 H7} I7 n7 => by
      obtain ⟨m', hm, w7⟩ := hN σ7 H7 n7
      refine ⟨m', hm, i + 1, σ7, H7, I7.unpinned, T.keep _ _ _ st5 fun b hb o e => (I7.pin (b, o) (List.mem_append_right _ (List.mem_append_right _ (mem_pinsAt hb e)))).1, fun b hb => ?_, w7⟩
      obtain ⟨o, e, d⟩ := T.obj _ _ st5 b hb
      exact (I7.pin (b, o) (List.mem_append_right _ (List.mem_append_right _ (mem_pinsAt hb e)))).2.1
    cases f with
    | next => obtain ⟨σ7, H7, I7, n7⟩ := q7; exact again I7 n7
    | cont => obtain ⟨σ7, H7, I7, n7⟩ := q7; exact again I7 n7
    | brk => obtain ⟨σ7, H7, I7, q7⟩ := q7; exact ⟨σ7, H7, I7.unpinned, q7⟩
    | ret v => obtain ⟨x7, σ7, H7, I7, r7, q7⟩ := q7; exact ⟨x7, σ7, H7, I7.unpinned, r7, q7⟩
end
theorem for_list {K : PySem.W.Frag} {a : Addr} {xs : List V} {g : TG} {tb : TS} {D : Ends} {σ : St} {H : Hp} (Pv : Nat → St → Hp → Prop) (h0 : Pv 0 σ H) (hl : ∀ i σ H, i ≤ xs.length → Pv i σ H → SqL K H a xs)
    (hs : ∀ i x σ H, xs[i]? = some x → Pv i σ H → g x σ H fun σ2 H2 => tb { D with nx := Pv (i + 1), ct := Pv (i + 1), bk := D.nx } σ2 H2) (hd : ∀ σ H, Pv xs.length σ H → D.nx σ H) :
    ∃ W : Nat → Nat → St → Hp → Prop, (∃ m, W 0 m σ H) ∧ ∀ i m σ H, W i m σ H →
      ((Itl K a).stop i H ∧ D.nx σ H) ∨ ((Itl K a).go i H ∧ ∃ N : St → Hp → Prop, (∀ σ' H', N σ' H' → ∃ m', m' < m ∧ W (i + 1) m' σ' H') ∧ ∀ x H', (Itl K a).yld i H x H' → g x σ H' fun σ2 H2 => tb { D with nx := N, ct := N, bk := D.nx } σ2 H2) := by
  refine ⟨fun i m σ H => m = xs.length - i ∧ i ≤ xs.length ∧ Pv i σ H, ⟨xs.length, by simp, Nat.zero_le _, h0⟩, ?_⟩
  rintro i m σ H ⟨rfl, hi, p⟩
  have q := hl i σ H hi p
  by_cases hlt : i < xs.length
  · refine .inr ⟨⟨xs, xs[i], q, by simp [hlt]⟩, Pv (i + 1), fun σ' H' p' => ⟨xs.length - (i + 1), by omega, rfl, hlt, p'⟩, fun x H' y => ?_⟩
    obtain ⟨e, y⟩ := y
    subst e
    exact hs i x σ _ (y xs q) p
  · have e : i = xs.length := by omega
    subst e
    exact .inl ⟨⟨xs, q, Nat.le_refl _⟩, hd σ H p⟩
theorem for_range {lo : Int} {n : Nat} {g : TG} {tb : TS} {D : Ends} {σ : St} {H : Hp} (Pv : Nat → St → Hp → Prop) (h0 : Pv 0 σ H)
    (hs : ∀ i σ H, i < n → Pv i σ H → g (.int (lo + i)) σ H fun σ2 H2 => tb { D with nx := Pv (i + 1), ct := Pv (i + 1), bk := D.nx } σ2 H2) (hd : ∀ σ H, Pv n σ H → D.nx σ H) :
    ∃ W : Nat → Nat → St → Hp → Prop, (∃ m, W 0 m σ H) ∧ ∀ i m σ H, W i m σ H →
      ((Itr lo n).stop i H ∧ D.nx σ H) ∨ ((Itr lo n).go i H ∧ ∃ N : St → Hp → Prop, (∀ σ' H', N σ' H' → ∃ m', m' < m ∧ W (i + 1) m' σ' H') ∧ ∀ x H', (Itr lo n).yld i H x H' → g x σ H' fun σ2 H2 => tb { D with nx := N, ct := N, bk := D.nx } σ2 H2) := by
  refine ⟨fun i m σ H => m = n - i ∧ i ≤ n ∧ Pv i σ H, ⟨n, by simp, Nat.zero_le _, h0⟩, ?_⟩
  rintro i m σ H ⟨rfl, hi, p⟩
  by_cases hlt : i < n
  · refine .inr ⟨hlt, Pv (i + 1), fun σ' H' p' => ⟨n - (i + 1), by omega, rfl, hlt, p'⟩, fun x H' y => ?_⟩
    obtain ⟨e, y⟩ := y
    subst e y
    exact hs i σ _ hlt p
  · have e : i = n := by omega
    subst e
    exact .inl ⟨Nat.le_refl _, hd σ H p⟩
end L2
namespace L2
open PySem PySem.Spec PyProof.Rows
abbrev R2 := V → V → Hp → VK → Prop
def OpR (X : Cx) (f : Value → Value → Sem Value) (r : R2) : Prop :=
  ∀ (pins : List (Addr × Obj)) (s : Shared) (σ : St) (H : Hp) (x y : V) (v u : Value) (Q : VK), Inv X pins σ H s → RelV x v → RelV y u → r x y H Q →
    wpAny (model X.prog X.w) X.A (f v u) (EP X pins σ Q) X.xe s
def CallR (X : Cx) (f : Value) (r : List V → Hp → VK → Prop) : Prop :=
  ∀ (pins : List (Addr × Obj)) (s : Shared) (σ : St) (H : Hp) (xs : List V) (us : List Value) (Q : VK), Inv X pins σ H s → Vals xs us → r xs H Q →
    wpAny (model X.prog X.w) X.A (call f us) (EP X pins σ Q) X.xe s
def tOp (r : R2) (ta tb : TE) : TE := fun σ H Q => ta σ H fun x H1 => tb σ H1 fun y H2 => r x y H2 Q
def rI (C : Int → Int → Prop) (g : Int → Int → V) : R2 := fun x y H Q => ∃ i j, x = .int i ∧ y = .int j ∧ C i j ∧ Q (g i j) H
def rI0 (g : Int → Int → V) : R2 := fun x y H Q => ∃ i j, x = .int i ∧ y = .int j ∧ Q (g i j) H
section
variable {X : Cx} {a b c : Expr} {ta tb tc : TE} {pos : Pos}
theorem binT (ha : PE X a ta) (hb : PE X b tb) {pins : List (Addr × Obj)} {s : Shared} {σ : St} {H : Hp} {R : V → V → Hp → Prop} (I : Inv X pins σ H s)
    (h : ta σ H fun x H1 => tb σ H1 fun y H2 => R x y H2) {Q : Value → Shared → Prop} {f : Value → Value → Sem Value}
    (hf : ∀ v u s2 x y H2, Inv X pins σ H2 s2 → RelV x v → RelV y u → R x y H2 → wpAny (model X.prog X.w) X.A (f v u) Q X.xe s2) :
    wpAny (model X.prog X.w) X.A (eval a X.env) (fun v s₁ => wpAny (model X.prog X.w) X.A (eval b X.env) (fun u s₂ => wpAny (model X.prog X.w) X.A (f v u) Q X.xe s₂) X.xe s₁) X.xe s := by
  refine thn (ha pins s σ H _ I h) fun v s1 ⟨x, H1, I1, r1, q1⟩ => ?_
  refine thn (hb pins s1 σ H1 _ I1 q1) fun u s2 ⟨y, H2, I2, r2, q2⟩ => ?_
  exact hf v u s2 x y H2 I2 r1 r2 q2
theorem pe_op {op : Operator} {r : R2} (ho : OpR X (binaryOp op) r) (ha : PE X a ta) (hb : PE X b tb) : PE X (.BinOp a op b pos) (tOp r ta tb) := by
  intro pins s σ H Q I h
  exact wpAny_BinOp (binT ha hb I h fun v u s2 x y H2 I2 rx ry q => ho pins s2 σ H2 x y v u Q I2 rx ry q)
theorem opI {f : Value → Value → Sem Value} {C : Int → Int → Prop} {g : Int → Int → Int}
    (rule : ∀ (i j : Int) (t u : Tok) (s : Shared) (Q : Value → Shared → Prop) (E : Value → Shared → Prop), C i j → Q (.int (g i j) s.toks) { s with toks := s.toks + 1 } → wpAny (model X.prog X.w) X.A (f (.int i t) (.int j u)) Q E s) :
    OpR X f (rI C fun i j => .int (g i j)) := by
  intro pins s σ H x y v u Q I rx ry h
  obtain ⟨i, j, rfl, rfl, hc, q⟩ := h
  obtain ⟨t, rfl⟩ := rx
  obtain ⟨t', rfl⟩ := ry
  exact rule i j t t' s _ _ hc ⟨.int (g i j), H, I.tok _, ⟨_, rfl⟩, q⟩
theorem opI0 {f : Value → Value → Sem Value} {g : Int → Int → Int}
    (rule : ∀ (i j : Int) (t u : Tok) (s : Shared) (Q : Value → Shared → Prop) (E : Value → Shared → Prop), Q (.int (g i j) s.toks) { s with toks := s.toks + 1 } → wpAny (model X.prog X.w) X.A (f (.int i t) (.int j u)) Q E s) :
    OpR X f (rI0 fun i j => .int (g i j)) := by
  intro pins s σ H x y v u Q I rx ry h
  obtain ⟨i, j, rfl, rfl, q⟩ := h
  obtain ⟨t, rfl⟩ := rx
  obtain ⟨t', rfl⟩ := ry
  exact rule i j t t' s _ _ ⟨.int (g i j), H, I.tok _, ⟨_, rfl⟩, q⟩
theorem opB0 {f : Value → Value → Sem Value} {g : Int → Int → Bool}
    (rule : ∀ (i j : Int) (t u : Tok) (s : Shared) (Q : Value → Shared → Prop) (E : Value → Shared → Prop), Q (.bool (g i j)) s → wpAny (model X.prog X.w) X.A (f (.int i t) (.int j u)) Q E s) :
    OpR X f (rI0 fun i j => .bl (g i j)) := by
  intro pins s σ H x y v u Q I rx ry h
  obtain ⟨i, j, rfl, rfl, q⟩ := h
  obtain ⟨t, rfl⟩ := rx
  obtain ⟨t', rfl⟩ := ry
  exact rule i j t t' s _ _ ⟨.bl (g i j), H, I, rfl, q⟩
def CDiv (i j : Int) : Prop := 0 < j ∧ j < 1073741824
def CPow (i j : Int) : Prop := 0 ≤ j ∧ j ≤ 1000000 ∧ i.natAbs < 2 ^ 64
def CMul (i j : Int) : Prop := (-(2 ^ 64) < i ∧ i < 2 ^ 64) ∨ (-(2 ^ 64) < j ∧ j < 2 ^ 64)
theorem CMul.ok {i j : Int} (h : CMul i j) : IntMulOk i j := by
  rcases h with ⟨h1, h2⟩ | ⟨h1, h2⟩
  · exact .of_left (intBits_le_64 h1 h2)
  · exact .of_right (intBits_le_64 h1 h2)
theorem op_add : OpR X (binaryOp .Add) (rI0 fun i j => .int (i + j)) := opI0 fun _ _ _ _ _ _ _ q => add_int q
theorem op_sub : OpR X (binaryOp .Sub) (rI0 fun i j => .int (i - j)) := opI0 fun _ _ _ _ _ _ _ q => sub_int q
theorem op_mul : OpR X (binaryOp .Mult) (rI CMul fun i j => .int (i * j)) := opI fun _ _ _ _ _ _ _ hc q => mul_int q hc.ok
theorem op_fdiv : OpR X (binaryOp .FloorDiv) (rI CDiv fun i j => .int (i / j)) := opI fun i j _ _ _ _ _ hc q => by
  have h1 : (0 : Int) < j := hc.1
  have h2 : j < 1073741824 := hc.2
  exact floordiv_int (by omega) (by rw [Int.fdiv_eq_ediv_of_nonneg i (by omega)]; exact q) (.inl (PyProof.noPylong_small (by omega)))
theorem op_mod : OpR X (binaryOp .Mod) (rI (fun _ j => 0 < j) fun i j => .int (i % j)) := opI fun i j _ _ _ _ _ hc q => by
  have h1 : (0 : Int) < j := hc
  exact mod_int' (by omega) (by rw [Int.fmod_eq_emod_of_nonneg i (by omega)]; exact q)
theorem op_pow : OpR X (binaryOp .Pow) (rI CPow fun i j => .int (i ^ j.toNat)) := opI fun _ _ _ _ _ _ _ hc q => pow_int_small hc.1 hc.2.1 hc.2.2 q
end
def scal : V → V → Bool
  | .non, .non => true | .non, .int _ => true | .int _, .non => true | .non, .bl _ => true | .bl _, .non => true | .non, .str _ => true | .str _, .non => true
  | .int _, .int _ => true | .bl _, .bl _ => true | .str _, .str _ => true | .byt _, .byt _ => true
  | .int _, .str _ => true | .str _, .int _ => true | .bl _, .str _ => true | .str _, .bl _ => true
  | _, _ => false
def rEq : R2 := fun x y H Q => scal x y = true ∧ Q (.bl (decide (x = y))) H
def rNe : R2 := fun x y H Q => scal x y = true ∧ Q (.bl (!decide (x = y))) H
theorem dec_int {i j : Int} : decide (V.int i = V.int j) = (i == j) := by
  rw [Bool.eq_iff_iff]
  simp
theorem dec_bl {i j : Bool} : decide (V.bl i = V.bl j) = (i == j) := by
  rw [Bool.eq_iff_iff]
  simp
theorem dec_str {i j : Str} : decide (V.str i = V.str j) = (i == j) := by
  rw [Bool.eq_iff_iff]
  simp
theorem dec_byt {i j : Array UInt8} : decide (V.byt i = V.byt j) = (i.toList == j.toList) := by
  rw [Bool.eq_iff_iff]
  cases i
  cases j
  simp
section
variable {X : Cx} {a b c : Expr} {ta tb tc : TE} {pos : Pos}
theorem fin_bl {pins : List (Addr × Obj)} {σ : St} {H : Hp} {s : Shared} {Q : VK} {k k' : Bool} (I : Inv X pins σ H s) (q : Q (.bl k) H) (e : k = k') : EP X pins σ Q (.bool k') s := by
  subst e
  exact ⟨.bl k, H, I, rfl, q⟩
theorem op_eq : OpR X (compareOp .Eq) rEq := by
  intro pins s σ H x y v u Q I rx ry h
  obtain ⟨hs, q⟩ := h
  cases x with
  | non =>
    cases rx
    cases y with
    | non => cases ry; exact PySem.EqNone.eq_none_none (fin_bl I q (by simp))
    | bl j => cases ry; exact PySem.EqNone.eq_none_bool (fin_bl I q (by simp))
    | int j => obtain ⟨t', rfl⟩ := ry; exact PySem.EqNone.eq_none_int (fin_bl I q (by simp))
    | str j => obtain ⟨t', rfl⟩ := ry; exact PySem.EqNone.eq_none_str (fin_bl I q (by simp))
    | _ => exact absurd (show false = true from hs) Bool.false_ne_true
  | bl i =>
    cases rx
    cases y with
    | non => cases ry; exact PySem.EqNone.eq_bool_none (fin_bl I q (by simp))
    | bl j => cases ry; exact eq_bool (fin_bl I q dec_bl)
    | str j => obtain ⟨t', rfl⟩ := ry; exact PySem.EqMixed.eq_bool_str (fin_bl I q (by simp))
    | _ => exact absurd (show false = true from hs) Bool.false_ne_true
  | int i =>
    obtain ⟨t, rfl⟩ := rx
    cases y with
    | non => cases ry; exact PySem.EqNone.eq_int_none (fin_bl I q (by simp))
    | int j => obtain ⟨t', rfl⟩ := ry; exact eq_int (fin_bl I q dec_int)
    | str j => obtain ⟨t', rfl⟩ := ry; exact PySem.EqMixed.eq_int_str (fin_bl I q (by simp))
    | _ => exact absurd (show false = true from hs) Bool.false_ne_true
  | str i =>
    obtain ⟨t, rfl⟩ := rx
    cases y with
    | non => cases ry; exact PySem.EqNone.eq_str_none (fin_bl I q (by simp))
    | bl j => cases ry; exact PySem.EqMixed.eq_str_bool (fin_bl I q (by simp))
    | int j => obtain ⟨t', rfl⟩ := ry; exact PySem.EqMixed.eq_str_int (fin_bl I q (by simp))
    | str j => obtain ⟨t', rfl⟩ := ry; exact eq_str (fin_bl I q dec_str)
    | _ => exact absurd (show false = true from hs) Bool.false_ne_true
  | byt i =>
    obtain ⟨t, rfl⟩ := rx
    cases y with
    | byt j => obtain ⟨t', rfl⟩ := ry; exact PySem.W.eq_bytes (fin_bl I q dec_byt)
    | _ => exact absurd (show false = true from hs) Bool.false_ne_true
  | _ => cases y <;> exact absurd (show false = true from hs) Bool.false_ne_true
theorem op_ne : OpR X (compareOp .NotEq) rNe := by
  intro pins s σ H x y v u Q I rx ry h
  obtain ⟨hs, q⟩ := h
  cases x with
  | non =>
    cases rx
    cases y with
    | non => cases ry; exact PySem.EqNone.ne_none_none (fin_bl I q (by simp))
    | bl j => cases ry; exact PySem.EqNone.ne_none_bool (fin_bl I q (by simp))
    | int j => obtain ⟨t', rfl⟩ := ry; exact PySem.EqNone.ne_none_int (fin_bl I q (by simp))
    | str j => obtain ⟨t', rfl⟩ := ry; exact PySem.EqNone.ne_none_str (fin_bl I q (by simp))
    | _ => exact absurd (show false = true from hs) Bool.false_ne_true
  | bl i =>
    cases rx
    cases y with
    | non => cases ry; exact PySem.EqNone.ne_bool_none (fin_bl I q (by simp))
    | bl j => cases ry; exact ne_bool (fin_bl I q (congrArg not dec_bl))
    | str j => obtain ⟨t', rfl⟩ := ry; exact PySem.EqMixed.ne_bool_str (fin_bl I q (by simp))
    | _ => exact absurd (show false = true from hs) Bool.false_ne_true
  | int i =>
    obtain ⟨t, rfl⟩ := rx
    cases y with
    | non => cases ry; exact PySem.EqNone.ne_int_none (fin_bl I q (by simp))
    | int j => obtain ⟨t', rfl⟩ := ry; exact ne_int (fin_bl I q (congrArg not dec_int))
    | str j => obtain ⟨t', rfl⟩ := ry; exact PySem.EqMixed.ne_int_str (fin_bl I q (by simp))
    | _ => exact absurd (show false = true from hs) Bool.false_ne_true
  | str i =>
    obtain ⟨t, rfl⟩ := rx
    cases y with
    | non => cases ry; exact PySem.EqNone.ne_str_none (fin_bl I q (by simp))
    | bl j => cases ry; exact PySem.EqMixed.ne_str_bool (fin_bl I q (by simp))
    | int j => obtain ⟨t', rfl⟩ := ry; exact PySem.EqMixed.ne_str_int (fin_bl I q (by simp))
    | str j => obtain ⟨t', rfl⟩ := ry; exact ne_str (fin_bl I q (congrArg not dec_str))
    | _ => exact absurd (show false = true from hs) Bool.false_ne_true
  | byt i =>
    obtain ⟨t, rfl⟩ := rx
    cases y with
    | byt j => obtain ⟨t', rfl⟩ := ry; exact PySem.W.ne_bytes (fin_bl I q (congrArg not dec_byt))
    | _ => exact absurd (show false = true from hs) Bool.false_ne_true
  | _ => cases y <;> exact absurd (show false = true from hs) Bool.false_ne_true
theorem op_gt : OpR X (compareOp .Gt) (rI0 fun i j => .bl (decide (j < i))) := opB0 fun _ _ _ _ _ _ _ q => gt_int q
theorem nomark (b : Expr) {op : CmpOp} (h : op ≠ .In := by decide) (h2 : op ≠ .NotIn := by decide) : behindInMarks op b = false := by
  have e1 : (op == CmpOp.In) = false := by cases op <;> first | rfl | exact absurd rfl h
  have e2 : (op == CmpOp.NotIn) = false := by cases op <;> first | rfl | exact absurd rfl h2
  cases b <;> simp [behindInMarks, e1, e2]
theorem pe_cmpR {op : CmpOp} {r : R2} (ho : OpR X (compareOp op) r) (ha : PE X a ta) (hb : PE X b tb) (hm : behindInMarks op b = false) : PE X (.Compare a [op] [b] pos) (tOp r ta tb) := by
  intro pins s σ H Q I h
  exact wpAny_Compare1 (binT ha hb I h fun v u s2 x y H2 I2 rx ry q => ho pins s2 σ H2 x y v u Q I2 rx ry q) hm
def tTest (t : TE) : TT := fun σ H Q => t σ H fun x H' => ∃ k, x = .bl k ∧ Q k H'
theorem pt_cmpR {op : CmpOp} {r : R2} (ho : OpR X (compareOp op) r) (ha : PE X a ta) (hb : PE X b tb) (hm : behindInMarks op b = false) : PT X (.Compare a [op] [b] pos) (tTest (tOp r ta tb)) := by
  intro pins s σ H Q I h
  refine wpAny_isTrue_Compare1 (thn (ha pins s σ H _ I h) fun v s1 ⟨x, H1, I1, r1, q1⟩ => thn (hb pins s1 σ H1 _ I1 q1) fun u s2 ⟨y, H2, I2, r2, q2⟩ =>
    thn (ho pins s2 σ H2 x y v u _ I2 r1 r2 q2) fun c s3 ⟨z, H3, I3, r3, k, e, q3⟩ => ?_) hm
  subst e
  cases r3
  exact wpAny_truthy_bool ⟨H3, I3, q3⟩
theorem line63 : (sizeLine : Nat) < 2 ^ 63 := by rw [sizeLine_eq]; decide
theorem op_add_str : OpR X (binaryOp .Add) (fun x y H Q => ∃ i j, x = .str i ∧ y = .str j ∧ i.length + j.length ≤ sizeLine ∧ Q (.str (i ++ j)) H) := by
  intro pins s σ H x y v u Q I rx ry h
  obtain ⟨i, j, rfl, rfl, hz, q⟩ := h
  obtain ⟨t, rfl⟩ := rx
  obtain ⟨t', rfl⟩ := ry
  exact add_str (fun t' tk => ⟨.str (i ++ j), H, I.tok _, ⟨_, rfl⟩, q⟩) hz
theorem vals1 {x : V} {us : List Value} (r : Vals [x] us) : ∃ u, us = [u] ∧ RelV x u := by
  cases r with
  | cons r1 r2 => cases r2; exact ⟨_, rfl, r1⟩
theorem vals2 {x y : V} {us : List Value} (r : Vals [x, y] us) : ∃ u w', us = [u, w'] ∧ RelV x u ∧ RelV y w' := by
  cases r with
  | cons r1 r2 =>
    cases r2 with
    | cons r3 r4 => cases r4; exact ⟨_, _, rfl, r1, r3⟩
theorem call_abs : CallR X (.builtin "abs") (fun xs H Q => ∃ i, xs = [.int i] ∧ Q (.int (if i < 0 then -i else i)) H) := by
  intro pins s σ H xs us Q I r h
  obtain ⟨i, rfl, q⟩ := h
  obtain ⟨u, rfl, t, rfl⟩ := vals1 r
  exact call_abs_int fun u tk => ⟨.int (if i < 0 then -i else i), H, I.tok _, ⟨_, rfl⟩, q⟩
theorem call_min2 (hc : X.calm = true) : CallR X (.builtin "min") (fun xs H Q => ∃ i j, xs = [.int i, .int j] ∧ Q (.int (if j < i then j else i)) H) := by
  intro pins s σ H xs us Q I r h
  obtain ⟨i, j, rfl, q⟩ := h
  obtain ⟨u, w', rfl, ⟨t, rfl⟩, ⟨t', rfl⟩⟩ := vals2 r
  refine min_two_ints (I.ok.hd hc) fun h' tk k => ⟨_, H, I.kept k, ?_, q⟩
  by_cases hj : j < i
  · rw [if_pos hj, if_pos hj]; exact ⟨_, rfl⟩
  · rw [if_neg hj, if_neg hj]; exact ⟨_, rfl⟩
end
end L2
namespace L2
open PySem PySem.Spec PyProof.Rows
structure ObjM (h : Heap) (x dx C : Addr) (mA : Str → Option Value) : Prop where
  obj : h.get? x = some (PySem.W.instObj C dx)
  ns : h.Ns1 dx mA
  ne : dx ≠ x
theorem lookIn_ns {h : Heap} {dx : Addr} {mA : Str → Option Value} (n : h.Ns1 dx mA) : ∃ od, h.get? dx = some od ∧ ∀ name, PySem.W.lookIn name od = some (mA name) := by
  obtain ⟨o, es, ep, ho, hd, hk, _, hm⟩ := n
  refine ⟨o, ho, fun name => ?_⟩
  have e := hm name
  unfold nsFind findBy at e
  rw [← Array.find?_toList] at e
  unfold PySem.W.lookIn
  rw [hd]
  dsimp only
  split
  · rename_i y q
    rw [q] at e
    exact congrArg some e
  · rename_i q
    rw [q] at e
    have a : es.toList.any (·.refKey) = false := by
      rw [List.any_eq_false]
      intro y hy
      obtain ⟨z, t, hkey⟩ := hk y (Array.mem_toList_iff.mp hy)
      simp [DictEntry.refKey, hkey]
    have a' : ¬ es.toList.any (·.refKey) = true := by rw [a]; exact Bool.false_ne_true
    rw [if_neg a']
    exact congrArg some e
theorem ObjM.look {h : Heap} {x dx C : Addr} {mA : Str → Option Value} (I : ObjM h x dx C mA) : ∃ od, PySem.W.InstAt h x (PySem.W.instObj C dx) C (some od) ∧ ∀ name, PySem.W.lookIn name od = some (mA name) :=
  let ⟨od, ho, hl⟩ := lookIn_ns I.ns
  ⟨od, ⟨I.obj, rfl, rfl, ho⟩, hl⟩
section
variable {prog : Program} {w : World} {A : Around} {E : Value → Shared → Prop} {s : Shared} {K : PySem.W.Frag} {x dx C f : Addr} {mA : Str → Option Value} {name : Str} {v : Value}
end
theorem RelO.some_of {v : V} {o : Option Value} (r : RelO (some v) o) : ∃ u, o = some u ∧ RelV v u := by
  cases o with
  | none => exact (show False from r).elim
  | some u => exact ⟨u, rfl, r⟩
section
variable {P : Program} {w : World} {H H' : Hp} {h h' : Heap} {a C dx : Addr} {fs fs' : List (Str × V)}
theorem ins_get (hok : HOk P w H h) (e : H a = some (.ins C dx fs)) : ∃ mA, ObjM h a dx C mA ∧ (∀ f, RelO (fs.lookup f) (mA f)) ∧ PySem.Within mA (fs.map (·.1)) ∧ fs.length ≤ 1000 ∧ H dx = some (.own a) := by
  obtain ⟨d, z, ne, ob, mA, n, r, q⟩ := (show ObjOk P w H h a (.ins C dx fs) from hok a _ e)
  exact ⟨mA, ⟨ob, n, ne⟩, r, q, z, d⟩
end
structure Cls (K : PySem.W.Frag) (C : Addr) : Prop where
  pg : PySem.W.plainGet K C Str.empty = true
  hd : PySem.W.hasDictIn K C = true
  po : PySem.W.plainOver K C = true
  sa : PySem.W.findIn K (.ref C) "__setattr__" = some (some (.builtin "object.__setattr__"))
theorem Cls.get {K : PySem.W.Frag} {C : Addr} (c : Cls K C) (f : Str) : PySem.W.plainGet K C f = true := c.pg
structure Con (K : PySem.W.Frag) (C : Addr) (f : Str) (v : V) (u : Value) : Prop where
  at_ : PySem.W.findIn K (.ref C) f = some (some u)
  rel : RelV v u
  get : PySem.W.specialIn K u "__get__" = some none
  cp : PySem.W.copiedNames.contains f = false
structure Meth (K : PySem.W.Frag) (C : Addr) (m : Str) (f : Addr) : Prop where
  at_ : PySem.W.findIn K (.ref C) m = some (some (.ref f))
  fn : PySem.W.isFn K (.ref f) = true
  kp : PySem.W.keepIn K (.ref f) = true
section
variable {X : Cx} {pins : List (Addr × Obj)} {σ : St} {H : Hp} {s : Shared} {a C dx : Addr} {fs : List (Str × V)} {f : Str} {v : V} {A : Around} {E : Value → Shared → Prop}
end
section
variable {X : Cx} {o e value : Expr} {f : Str} {pos pos' tpos : Pos} {ta tv : TE}
end
section
variable {X : Cx} {pins : List (Addr × Obj)} {σ : St} {H : Hp} {s : Shared} {A : Around} {E : Value → Shared → Prop} {Q : Value → Shared → Prop} {c : Value} {b : Bool}
inductive TyOf (K : PySem.W.Frag) (H : Hp) : V → Value → Prop where
  | non : TyOf K H .non (.type "NoneType")
  | bl (x : Bool) : TyOf K H (.bl x) (.type "bool")
  | int (i : Int) : TyOf K H (.int i) (.type "int")
  | str (x : Str) : TyOf K H (.str x) (.type "str")
  | flt (x : UInt64) : TyOf K H (.flt x) (.type "float")
  | lst {a : Addr} {xs : List V} (e : H a = some (.lst xs)) : TyOf K H (.ref a) (.type "list")
  | frz {a : Addr} {o : Obj} {xs : List V} (e : H a = some (.frz o (.lst xs))) : TyOf K H (.ref a) (.type "list")
  | tup {a : Addr} {xs : List V} (e : H a = some (.tup xs)) : TyOf K H (.ref a) (.type "tuple")
  | dK {a : Addr} {kvs : List (Key × V)} (e : H a = some (.dK kvs)) : TyOf K H (.ref a) (.type "dict")
  | dT {a : Addr} {kvs : List (List Key × V)} (e : H a = some (.dT kvs)) : TyOf K H (.ref a) (.type "dict")
  | ins {a C dx : Addr} {fs : List (Str × V)} (e : H a = some (.ins C dx fs)) (cl : Cls K C) (ha : PySem.W.findIn K (.ref C) "__class__" = some (some (.builtin "object.__class__")))
      (hn : PySem.W.specialIn K (.builtin "object.__class__") "__get__" = some (some (.builtin "getset_descriptor.__get__"))) (htk : PySem.W.takesIn K (.builtin "object.__class__") = some true)
      (hm : PySem.W.mroIn K C (.type "object") = some true) : TyOf K H (.ref a) (.ref C)
theorem isinst_ok {x : V} {u t : Value} (I : Inv X pins σ H s) (rx : RelV x u) (ty : TyOf X.K H x t) (e : PySem.W.kitOne X.K t c = some b) (h : ∀ tk, Q (.bool b) { s with toks := tk }) :
    wpAny (model X.prog X.w) A (call (.builtin "isinstance") [u, c]) Q E s := by
  cases ty with
  | non => cases (show u = Value.none from rx); exact PySem.W.kia_one PySem.W.kitx_none I.kIn True.intro e (fun z => nomatch z) h
  | bl y => cases (show u = Value.bool y from rx); exact PySem.W.kia_one PySem.W.kitx_bool I.kIn True.intro e (fun z => nomatch z) h
  | int i => obtain ⟨t, q⟩ := (show ∃ t, u = Value.int i t from rx); cases q; exact PySem.W.kia_one PySem.W.kitx_int I.kIn True.intro e (fun z => nomatch z) h
  | str y => obtain ⟨t, q⟩ := (show ∃ t, u = Value.str y t from rx); cases q; exact PySem.W.kia_one PySem.W.kitx_str I.kIn True.intro e (fun z => nomatch z) h
  | flt y => obtain ⟨t, q⟩ := (show ∃ t, u = Value.float y t from rx); cases q; exact PySem.W.kia_one PySem.W.kitx_float I.kIn True.intro e (fun z => nomatch z) h
  | @lst a xs ea =>
    cases (show u = Value.ref a from rx)
    obtain ⟨_, _, n, _, h1⟩ := (show ObjOk X.prog X.w H s.heap a (.lst xs) from I.hok a _ ea)
    exact PySem.W.kia_one PySem.W.kitx_list I.kIn ⟨_, h1, rfl⟩ e (fun z => nomatch z) h
  | @frz a ob xs ea =>
    cases (show u = Value.ref a from rx)
    obtain ⟨_, _, _, n, _, h1⟩ := (show ObjOk X.prog X.w H s.heap a (.frz ob (.lst xs)) from I.hok a _ ea)
    exact PySem.W.kia_one PySem.W.kitx_list I.kIn ⟨_, h1, rfl⟩ e (fun z => nomatch z) h
  | @tup a xs ea =>
    cases (show u = Value.ref a from rx)
    obtain ⟨_, _, _, p⟩ := (show ObjOk X.prog X.w H s.heap a (.tup xs) from I.hok a _ ea)
    obtain ⟨o, h1, h2, _⟩ := p
    exact PySem.W.kia_one PySem.W.kitx_tuple I.kIn ⟨o, h1, h2⟩ e (fun z => nomatch z) h
  | @dK a kvs ea =>
    cases (show u = Value.ref a from rx)
    obtain ⟨_, _, vs, _, p⟩ := (show ObjOk X.prog X.w H s.heap a (.dK kvs) from I.hok a _ ea)
    obtain ⟨o, es, ep, h1, h2, _⟩ := p
    exact PySem.W.kia_one PySem.W.kitx_dict I.kIn ⟨o, h1, h2.1⟩ e (fun z => nomatch z) h
  | @dT a kvs ea =>
    cases (show u = Value.ref a from rx)
    obtain ⟨_, _, xs, _, o, es, ep, h1, h2, _⟩ := (show ObjOk X.prog X.w H s.heap a (.dT kvs) from I.hok a _ ea)
    exact PySem.W.kia_one PySem.W.kitx_dict I.kIn ⟨o, h1, h2.1⟩ e (fun z => nomatch z) h
  | @ins a C dx fs ea cl ha hn htk hm =>
    cases (show u = Value.ref a from rx)
    obtain ⟨mA, O, _⟩ := ins_get I.hok ea
    obtain ⟨od, J, _⟩ := O.look
    exact PySem.W.kia_one (PySem.W.kitx_own (cl.get _) cl.hd ha hn htk hm) I.kIn J e (fun z => nomatch z) h
end
end L2
namespace L2
open PySem PySem.Spec PyProof.Rows
structure Room (k : Nat) (A : Around) : Prop where
  hd : A.handled = none
  dp : A.depth + 3 * k + 5 < recursionLimit
  un : A.units + 16 * k + 200 < cLine
theorem Room.mono {j k : Nat} {A : Around} (r : Room k A) (h : j ≤ k) : Room j A := ⟨r.hd, by have := r.dp; omega, by have := r.un; omega⟩
theorem Room.deeper {k : Nat} {A : Around} (r : Room (k + 1) A) (env : Env) : Room k (A.deeper env) :=
  ⟨r.hd, by have := r.dp; show A.depth + 1 + 3 * k + 5 < _; omega, by have := r.un; show A.units + 3 + 16 * k + 200 < _; omega⟩
theorem Room.depth {k : Nat} {A : Around} (r : Room k A) : A.depth < recursionLimit := by have := r.dp; omega
theorem Room.units {k : Nat} {A : Around} (r : Room k A) : A.units + 64 < cLine := by have := r.un; omega
def tNil : TA := fun _ H Q => Q [] H
def tCons (ta : TE) (tr : TA) : TA := fun σ H Q => ta σ H fun x H1 => tr σ H1 fun xs H2 => Q (x :: xs) H2
section
variable {X : Cx} {e : Expr} {es : List Expr} {te : TE} {t : TA} {pos : Pos}
theorem pa_nil : PA X [] tNil := fun _ _ _ _ H Q I h => Calls.spliced_nil ⟨[], H, I, .nil, h⟩
theorem pa_cons (ha : PE X e te) (hr : PA X es t) (hs : starEach (e :: es) X.env = (false, eval e X.env) :: starEach es X.env := by rfl) : PA X (e :: es) (tCons te t) := by
  intro pos pins s σ H Q I h
  rw [hs]
  show wpAny _ _ (spliced ((false, eval e X.env) :: backTo pos (starEach es X.env))) _ _ s
  refine Calls.spliced_cons (thn (ha pins s σ H _ I h) fun u s1 ⟨x, H1, I1, r1, q1⟩ => ?_)
  exact thn (hr pos pins s1 σ H1 _ I1 q1) fun us s2 ⟨xs, H2, I2, r2, q2⟩ => ⟨x :: xs, H2, I2, .cons r1 r2, q2⟩
def tTup (t : TA) : TE := fun σ H Q => t σ H fun xs H1 => xs.length ≤ sizeLine ∧ ∀ p, H1 p = none → Q (.ref p) (upd H1 p (.tup xs))
def tLst (t : TA) : TE := fun σ H Q => t σ H fun xs H1 => xs.length ≤ sizeLine ∧ ∀ p, H1 p = none → Q (.ref p) (upd H1 p (.lst xs))
theorem pe_tup {x1} (h : PA X es t) : PE X (.Tuple es x1 pos) (tTup t) := by
  intro pins s σ H Q I hq
  refine wpAny_Tuple_spliced (thn (h pos pins s σ H _ I hq) fun us s1 ⟨xs, H1, I1, r, z, q⟩ => ⟨by rw [← r.length]; exact z, ?_⟩)
  have hf : H1 s1.heap.objs.size = none := I1.hok.fresh (Nat.le_refl _)
  refine ⟨.ref s1.heap.objs.size, upd H1 s1.heap.objs.size (.tup xs), I1.laid (t' := s1.toks) (fun b u e => Heap.get?_push_of_some _ e) (Nat.le_refl _) ?_, rfl, q _ hf⟩
  exact ⟨z, us, r, ⟨_, Heap.get?_push_size _ rfl, rfl, _, rfl⟩⟩
theorem pe_lst (h : PA X es t) : PE X (.List es pos) (tLst t) := by
  intro pins s σ H Q I hq
  refine wpAny_List_spliced (thn (h pos pins s σ H _ I hq) fun us s1 ⟨xs, H1, I1, r, z, q⟩ => ⟨by rw [← r.length]; exact z, ?_⟩)
  have hf : H1 s1.heap.objs.size = none := I1.hok.fresh (Nat.le_refl _)
  refine ⟨.ref s1.heap.objs.size, upd H1 s1.heap.objs.size (.lst xs), I1.laid (t' := s1.toks) (fun b u e => Heap.get?_push_of_some _ e) (Nat.le_refl _) ?_, rfl, q _ hf⟩
  exact ⟨z, us, 0, r, Heap.get?_push_size _ rfl⟩
end
abbrev Sp := List V → Hp → VK → XK → Prop
abbrev CXT := List Env → Hp → Shared → XK → Value → Shared → Prop
structure Env0 (P : Program) (w : World) (K : PySem.W.Frag) (mg : Str → Option Value) (base : Heap) (A : Around) (outer : List Env) (s : Shared) (H : Hp) : Prop where
  frames : A.frames = some outer
  mod : Mod K mg base
  bs : ∀ b o, base.get? b = some o → s.heap.get? b = some o ∧ H b = none
  bsz : base.objs.size ≤ s.heap.objs.size
  funs : s.heap.FunFrames base outer
  frf : ∀ b ∈ frs outer, H b = none
  hok : HOk P w H s.heap
  bare : AllBare s.gens
def CE (outer : List Env) (P : Program) (w : World) (H : Hp) (s : Shared) (Q : VK) (u : Value) (s' : Shared) : Prop :=
  ∃ v H', s'.os = s.os ∧ AllBare s'.gens ∧ Un (frs outer) [] H H' s.heap s'.heap ∧ HOk P w H' s'.heap ∧ RelV v u ∧ Q v H'
def CR (CX : CXT) (outer : List Env) (P : Program) (w : World) (H : Hp) (s : Shared) (Q : VK) (E : XK) (r : Result) (s' : Shared) : Prop :=
  match r with
  | .ok (.ret u) => CE outer P w H s Q u s'
  | .ok _ => False
  | .error e => CX outer H s E e s'
structure FnOk (P : Program) (w : World) (K : PySem.W.Frag) (mg : Str → Option Value) (base : Heap) (CX : CXT) (k : Nat) (f : Addr) (fd : FuncData) (ps : List Str) (sp : Sp) : Prop where
  len : ∀ vs H Q E, sp vs H Q E → vs.length = ps.length
  run : ∀ (A : Around) (outer : List Env) (s : Shared) (H : Hp) (args : Args) (us : List Value) (vs : List V) (Q : VK) (E : XK), Room k A → Env0 P w K mg base A outer s H → BindsTo s fd args (ps.zip us) → Vals vs us → sp vs H Q E →
    codeAny (model P w) A (.call (.ref f) args) (CR CX outer P w H s Q E) s
section
variable {X : Cx} {pins : List (Addr × Obj)} {σ : St} {H : Hp} {s s' : Shared}
theorem Inv.env0 (I : Inv X pins σ H s) : Env0 X.prog X.w X.K X.mg X.base X.A X.stack s H :=
  ⟨I.ok.frames, I.ok.mod, I.bs, Nat.le_trans I.ok.bsz I.sz, I.stack, I.stkFree, I.hok, I.bare⟩
theorem Inv.after {Q : VK} {u : Value} (I : Inv X pins σ H s) (h : CE X.stack X.prog X.w H s Q u s') : EP X pins σ Q u s' := by
  obtain ⟨v, H', os, bare, un, hok, r, q⟩ := h
  obtain ⟨hh, g, d, t, os'⟩ := s'
  obtain rfl : os' = s.os := os
  exact ⟨v, H', I.call (h' := hh) (g' := g) (d' := d) (t' := t) (ch := []) un hok bare (fun b z => absurd z (by simp)), r, q⟩
end
def tCall (sp : Sp) (dvs : List V) (E : XK) (t : TA) : TE := fun σ H Q => t σ H fun vs H1 => sp (vs ++ dvs) H1 Q E
def Binds (K : PySem.W.Frag) (fd : FuncData) (ps : List Str) (ds : List Value) : Prop :=
  ∀ (s : Shared) (us : List Value), K.In s.heap → (us ++ ds).length = ps.length → BindsTo s fd ⟨us, []⟩ (ps.zip (us ++ ds))
theorem Binds.all {K : PySem.W.Frag} {fd : FuncData} {ps : List Str} (h : ∀ us : List Value, us.length = ps.length → bindArgs fd ⟨us, []⟩ = pure (ps.zip us)) : Binds K fd ps [] := fun s us _ hl => by
  rw [List.append_nil] at hl ⊢
  exact .of_eq (h us hl)
def Passes (CX : CXT) (X : Cx) (E : XK) : Prop := ∀ (pins : List (Addr × Obj)) (σ : St) (H : Hp) (s : Shared) (e : Value) (s' : Shared), Inv X pins σ H s → CX X.stack H s E e s' → X.xe e s'
section
variable {X : Cx} {CX : CXT} {k : Nat} {f C : Addr} {fd : FuncData} {ps : List Str} {sp : Sp} {dvs : List V} {ds : List Value} {E : XK} {x m : Str} {p pos apos : Pos} {e o : Expr} {es : List Expr} {ta : TE} {t : TA}
theorem run_fn {pins : List (Addr × Obj)} {σ : St} {H : Hp} {s : Shared} {Q : VK} {us : List Value} {vs : List V} (F : FnOk X.prog X.w X.K X.mg X.base CX k f fd ps sp) (hr : Room k X.A) (hb : Binds X.K fd ps ds) (hd : Vals dvs ds) (hx : Passes CX X E)
    (I : Inv X pins σ H s) (r : Vals vs us) (h : sp (vs ++ dvs) H Q E) : wpAny (model X.prog X.w) X.A (call (.ref f) us) (EP X pins σ Q) X.xe s := by
  have r2 : Vals (vs ++ dvs) (us ++ ds) := r.append hd
  have hl : (us ++ ds).length = ps.length := by rw [← r2.length]; exact F.len _ _ _ _ h
  refine wpAny_call (codeAny_mono (F.run X.A X.stack s H ⟨us, []⟩ (us ++ ds) (vs ++ dvs) Q E hr I.env0 (hb s us I.kIn hl) r2 h) fun r s' hq => ?_)
  cases r with
  | error e => exact hx pins σ H s e s' I hq
  | ok fl =>
    cases fl with
    | ret u => exact I.after hq
    | next => exact False.elim hq
    | brk => exact False.elim hq
    | cont => exact False.elim hq
theorem pe_call (F : FnOk X.prog X.w X.K X.mg X.base CX k f fd ps sp) (hr : Room k X.A) (hg : Gl X x) (hm : X.mg x = some (.ref f)) (hk : PySem.W.keepIn X.K (.ref f) = true) (hb : Binds X.K fd ps ds) (hd : Vals dvs ds) (hx : Passes CX X E)
    (ha : PA X (e :: es) t) (hdb : (x == ("__debug__" : Str)) = false := by decide) (he : starEach (e :: es) X.env = (false, eval e X.env) :: starEach es X.env := by rfl) (hpl : (backTo pos (starEach es X.env)).any (·.1) = false := by rfl) :
    PE X (.Call (.Name x p) (e :: es) [] pos) (tCall sp dvs E t) := by
  intro pins s σ H Q I h
  refine wpAny_Call_Name_kw (ld_glob I hg hm ?_ hdb)
  refine PySem.W.callWith_K (h₀ := X.base) I.ok.mod.kin hk (thn (ha pos pins s σ H _ I h) fun us s1 ⟨vs, H1, I1, r, q⟩ => ⟨I1.kIn, ?_⟩) he hpl
  exact run_fn F hr hb hd hx I1 r q
structure Mk (K : PySem.W.Frag) (C f : Addr) : Prop where
  makes : PySem.W.makesIn K C = true
  init : PySem.W.findIn K (.ref C) "__init__" = some (some (.ref f))
  fn : PySem.W.isFn K (.ref f) = true
  kp : PySem.W.keepIn K (.ref C) = true
end
section
variable {X : Cx} {CX : CXT} {k : Nat} {f C : Addr} {fd : FuncData} {ps ks : List Str} {sp : Sp} {E : XK} {x m : Str} {p pos apos kpos : Pos} {e o : Expr} {es : List Expr} {kws : List Keyword} {te ta : TE} {t tk : TA} {nm : Option Str}
structure KBinds (K : PySem.W.Frag) (fd : FuncData) (ps ks : List Str) (g : List Value → List Value → List Value) (gV : List V → List V → List V) : Prop where
  to : ∀ (s : Shared) (us ws : List Value), K.In s.heap → (g us ws).length = ps.length → BindsTo s fd ⟨us, ks.zip ws⟩ (ps.zip (g us ws))
  rel : ∀ {vs : List V} {us : List Value} {zs : List V} {ws : List Value}, Vals vs us → Vals zs ws → Vals (gV vs zs) (g us ws)
variable {g : List Value → List Value → List Value} {gV : List V → List V → List V}
end
structure FnScope (N P : List Str) (sc : Scope) : Prop where
  kind : sc.kind = .function
  co : sc.isCoroutine = false
  gen : sc.isGenerator = false
  nd : N.Nodup
  pre : N.take P.length = P
  par : ∀ x ∈ P, sc.names.lookup x = some .local ∨ sc.names.lookup x = some .cell
  nofree : ∀ y ∈ sc.names, y.2 ≠ .free
theorem bindL_out {kindOf : Str → Option NameKind} {x : Str} : ∀ {binds : List (Str × Value)} {m : Str → Option Value}, (∀ v, (x, v) ∉ binds) → bindL kindOf binds m x = m x
  | [], _, _ => rfl
  | (n, v) :: r, m, h => by
    unfold bindL
    rw [bindL_out fun w hw => h w (List.mem_cons_of_mem _ hw)]
    split
    · have : x ≠ n := by rintro rfl; exact h v List.mem_cons_self
      simp [this]
    · rfl
theorem bindC_out {kindOf : Str → Option NameKind} {x : Str} : ∀ {binds : List (Str × Value)} {m : Str → Option Value}, (∀ v, (x, v) ∉ binds) → bindC kindOf binds m x = m x
  | [], _, _ => rfl
  | (n, v) :: r, m, h => by
    unfold bindC
    rw [bindC_out fun w hw => h w (List.mem_cons_of_mem _ hw)]
    split
    · rfl
    · have : x ≠ n := by rintro rfl; exact h v List.mem_cons_self
      simp [this]
theorem bindL_get {kindOf : Str → Option NameKind} {x : Str} {v : Value} : ∀ {P : List Str} {vs : List Value} {i : Nat} {m : Str → Option Value}, P.Nodup → P[i]? = some x → vs[i]? = some v → kindOf x = some .local →
    bindL kindOf (P.zip vs) m x = some v
  | [], _, _, _, _, h, _, _ => by simp at h
  | _ :: _, [], _, _, _, _, h, _ => by simp at h
  | p :: P, w :: vs, 0, m, nd, h1, h2, hk => by
    simp at h1 h2; subst h1; subst h2
    show bindL kindOf ((p, w) :: P.zip vs) m p = _
    unfold bindL
    rw [bindL_out fun v hv => (List.nodup_cons.mp nd).1 (List.of_mem_zip hv).1, if_pos hk]
    simp
  | p :: P, w :: vs, i + 1, m, nd, h1, h2, hk => by
    show bindL kindOf ((p, w) :: P.zip vs) m x = _
    unfold bindL
    exact bindL_get (i := i) (List.nodup_cons.mp nd).2 (by simpa using h1) (by simpa using h2) hk
theorem bindC_get {kindOf : Str → Option NameKind} {x : Str} {v : Value} : ∀ {P : List Str} {vs : List Value} {i : Nat} {m : Str → Option Value}, P.Nodup → P[i]? = some x → vs[i]? = some v → kindOf x ≠ some .local →
    bindC kindOf (P.zip vs) m x = some v
  | [], _, _, _, _, h, _, _ => by simp at h
  | _ :: _, [], _, _, _, _, h, _ => by simp at h
  | p :: P, w :: vs, 0, m, nd, h1, h2, hk => by
    simp at h1 h2; subst h1; subst h2
    show bindC kindOf ((p, w) :: P.zip vs) m p = _
    unfold bindC
    rw [bindC_out fun v hv => (List.nodup_cons.mp nd).1 (List.of_mem_zip hv).1, if_neg hk]
    simp
  | p :: P, w :: vs, i + 1, m, nd, h1, h2, hk => by
    show bindC kindOf ((p, w) :: P.zip vs) m x = _
    unfold bindC
    exact bindC_get (i := i) (List.nodup_cons.mp nd).2 (by simpa using h1) (by simpa using h2) hk
def start (N : List Str) (vs : List V) : St := vs.map some ++ List.replicate (N.length - vs.length) none
def cxOf (CX : CXT) (P : Program) (w : World) (K : PySem.W.Frag) (mg : Str → Option Value) (base : Heap) (N : List Str) (qual : Str) (scope : Scope) (f : Addr) (cd : Value) (A : Around) (outer : List Env) (s : Shared) (H : Hp) (E : XK) : Cx where
  prog := P
  w := w
  K := K
  mg := mg
  base := base
  A := A.deeper (envOfC qual scope s.heap.objs.size f cd)
  N := N
  s₀ := s
  H₀ := H
  env := envOfC qual scope s.heap.objs.size f cd
  outer := outer
  stack := envOfC qual scope s.heap.objs.size f cd :: outer
  ex := []
  calm := true
  fn := fun _ => true
  pn := []
  xe := fun e s' => wpAny (model P w) (A.deeper (envOfC qual scope s.heap.objs.size f cd)) (leaving (envOfC qual scope s.heap.objs.size f cd) e) (fun _ s'' => CX outer H s E e s'') (fun e' s'' => CX outer H s E e' s'') s'
theorem cell_has {sc : Scope} {n : Nat} {x : Str} (h : sc.names.lookup x = some .cell) : ∃ c, (cellsFrom n sc.names []).lookup x = some c := by
  have q := PySem.W.cellsFrom_some sc.names n [] (.inl h)
  exact Option.isSome_iff_exists.mp q
theorem inv_start {CX : CXT} {P : Program} {w : World} {K : PySem.W.Frag} {mg : Str → Option Value} {base : Heap} {N ps : List Str} {qual : Str} {scope : Scope} {f : Addr} {cd : Value} {A : Around} {outer : List Env} {s s1 : Shared} {H : Hp} {E : XK} {us : List Value} {vs : List V}
    (S : FnScope N ps scope) (hd : A.handled = none) (e0 : Env0 P w K mg base A outer s H) (hl : vs.length = ps.length) (r : Vals vs us)
    (x : InCallC s s.heap.objs.size (bindL (envOfC qual scope s.heap.objs.size f cd).kindOf (ps.zip us) fun _ => none) (cellsFrom (s.heap.objs.size + 1) scope.names []) (bindC (envOfC qual scope s.heap.objs.size f cd).kindOf (ps.zip us) fun _ => none) s1) :
    Inv (cxOf CX P w K mg base N qual scope f cd A outer s H E) [] (start N vs) H s1 := by
  have hpl : ps.length ≤ N.length := by have := congrArg List.length S.pre; rw [List.length_take] at this; omega
  obtain ⟨h1, tk, rfl, hk⟩ := x.done
  have noA : ∀ b : Addr, b ∉ (cxOf CX P w K mg base N qual scope f cd A outer s H E).ex := fun b z => absurd (show b ∈ ([] : List Addr) from z) (by simp)
  refine ⟨⟨e0.mod, S.kind, rfl, rfl, Nat.le_refl _, fun y z c h1 h2 => ?_, fun y hy => ?_, fun y c _ h => ?_, fun _ => hd, Around.frames_deeper e0.frames, .inr ⟨rfl, rfl⟩, fun b z => absurd z (noA b), e0.bs, e0.bsz, fun b _ _ => noA b, fun b z => absurd z (noA b), e0.funs, e0.frf⟩,
    rfl, e0.bare, Un.kept hk, ⟨_, x.toInCall.ns, fun i y v h1 h2 h3 => ?_⟩, fun y c h => ⟨_, x.cell y c h⟩, e0.hok.fresh (Nat.le_refl _), fun y c h => ?_, fun p hp => absurd (show p ∈ ([] : List (Addr × Obj)) from hp) (by simp), e0.hok.kept hk, ?_⟩
  · exact name_of_addr x.apart (PySem.mem_of_lookup h1) (PySem.mem_of_lookup h2)
  · have hy : scope.names.lookup y = some .cell ∨ scope.names.lookup y = some .free := hy
    rcases hy with hy | hy
    · exact cell_has hy
    · exact absurd rfl (S.nofree _ (PySem.mem_of_lookup hy))
  · exact Nat.le_of_lt (x.above y c (PySem.mem_of_lookup h))
  · have hi : i < vs.length := by
      unfold start at h2
      by_cases hi : i < vs.length
      · exact hi
      · rw [List.getElem?_append_right (by simpa using hi)] at h2
        rw [List.getElem?_replicate] at h2
        split at h2 <;> cases h2
    have ha : vs[i]? = some v := by
      unfold start at h2
      rw [List.getElem?_append_left (by simpa using hi), List.getElem?_map] at h2
      cases e : vs[i]? with
      | none => rw [e] at h2; cases h2
      | some a => rw [e] at h2; cases h2; rfl
    obtain ⟨u, hu, rv⟩ := r.get ha
    have hp : ps[i]? = some y := by
      rw [← S.pre, List.getElem?_take_of_lt (by omega)]; exact h1
    have ndP : ps.Nodup := by rw [← S.pre]; exact S.nd.sublist (List.take_sublist _ _)
    refine ⟨u, rv, ?_⟩
    rcases S.par y (List.mem_of_getElem? hp) with k | k
    · exact .inl ⟨k, bindL_get ndP hp hu k⟩
    · obtain ⟨c, e⟩ := cell_has (n := s.heap.objs.size + 1) k
      refine .inr ⟨.inl k, c, e, ?_⟩
      have q := x.cell y c e
      rw [bindC_get ndP hp hu (by show scope.names.lookup y ≠ _; rw [k]; decide)] at q
      exact q
  · exact e0.hok.fresh (Nat.le_of_lt (x.above y c (PySem.mem_of_lookup h)))
  · unfold start
    show _ = N.length
    rw [List.length_append, List.length_map, List.length_replicate]
    omega
theorem fn_of {CX : CXT} {P : Program} {w : World} {K : PySem.W.Frag} {mg : Str → Option Value} {base : Heap} {k : Nat} {f : Addr} {name qual : Str} {params : Arguments} {body : List Stmt} {scope : Scope} {dV kV doc pm cdv ct oc : Value} {an od : Option Addr}
    {osl : Array (Option Value)} {N ps : List Str} {sp : Sp} (lk : K.lookup f = some ⟨oc, od, .func (PySem.W.fnOf name qual params body scope dV kV doc pm an cdv ct), osl⟩) (hcd : PySem.W.codeIn K cdv qual = true) (S : FnScope N ps scope)
    (len : ∀ vs H Q E, sp vs H Q E → vs.length = ps.length)
    (hbody : ∀ (A : Around) (outer : List Env) (s : Shared) (H : Hp) (vs : List V) (Q : VK) (E : XK), Room k (A.deeper (envOfC qual scope s.heap.objs.size f cdv)) → sp vs H Q E →
      ∃ t, PSs (cxOf CX P w K mg base N qual scope f cdv A outer s H E) body t ∧ t { nx := fun _ H' => Q .non H', rt := Q } (start N vs) H) :
    FnOk P w K mg base CX (k + 1) f (PySem.W.fnOf name qual params body scope dV kV doc pm an cdv ct) ps sp := by
  refine ⟨len, fun A outer s H args us vs Q E hr e0 hb r hsp => ?_⟩
  have hl := len _ _ _ _ hsp
  have KX : K.In s.heap := e0.mod.kin.keeps fun b o e => (e0.bs b o e).1
  have lim : s.heap.NoLimit := e0.mod.nolimit.keeps fun b o e => (e0.bs b o e).1
  have hkind : ∀ y ∈ ps.zip us, scope.names.lookup y.1 = some .local ∨ (scope.names.lookup y.1 = some .cell ∧ ((cellsFrom (s.heap.objs.size + 1) scope.names []).lookup y.1).isSome = true) := fun ⟨n, v⟩ hy => by
    rcases S.par n (List.of_mem_zip hy).1 with q | q
    · exact .inl q
    · exact .inr ⟨q, PySem.W.cellsFrom_some _ _ _ (.inl q)⟩
  refine codeAny_call_function hr.depth (KX _ _ lk) rfl S.co S.gen rfl (PySem.W.codeRec_of KX hcd) (hb _ _ _ _ ?_)
  refine wpAny_newFunctionEnv_cells S.kind hkind fun env he s1 x => ?_
  subst he
  refine ⟨lim.keeps x.toInCall.keep, codeAny_func ?_⟩
  obtain ⟨t, ht, hq⟩ := hbody A outer s H vs Q E (hr.deeper _) hsp
  have I : Inv (cxOf CX P w K mg base N qual scope f cdv A outer s H E) [] (start N vs) H s1 := inv_start S hr.hd e0 hl r x
  refine wpAny_mono (ht [] s1 (start N vs) H _ I hq) (fun fl s' hs => ?_) fun e s' hs => hs
  have fin : ∀ {σ' : St} {H' : Hp} {v : V} {u : Value}, Inv (cxOf CX P w K mg base N qual scope f cdv A outer s H E) [] σ' H' s' → RelV v u → Q v H' → CE outer P w H s Q u s' :=
    fun {σ' H' v u} J rv q => ⟨v, H', J.os, J.bare, J.base, J.hok, rv, q⟩
  cases fl with
  | ret u =>
    obtain ⟨v, σ', H', J, rv, q⟩ := hs
    exact fin J rv q
  | next =>
    obtain ⟨σ', H', J, q⟩ := hs
    exact fin (v := V.non) (u := Value.none) J rfl q
  | brk =>
    obtain ⟨_, _, _, q⟩ := hs
    exact False.elim q
  | cont =>
    obtain ⟨_, _, _, q⟩ := hs
    exact False.elim q
end L2
namespace L2
open PySem PySem.Spec PyProof.Rows
section
variable {X : Cx} {x : Str} {p pos : Pos} {e : Expr} {es : List Expr} {t : TA} {id T : String} {r : List V → Hp → VK → Prop}
def tCB (r : List V → Hp → VK → Prop) (t : TA) : TE := fun σ H Q => t σ H fun vs H1 => r vs H1 Q
theorem pe_callB (hc : CallR X (.builtin id) r) (hg : Gl X x) (hm : X.mg x = none) (hv : bootBuiltins x = some (.builtin id)) (ha : PA X (e :: es) t) (hn : x ≠ "__name__" := by decide) (hdb : (x == ("__debug__" : Str)) = false := by decide)
    (he : starEach (e :: es) X.env = (false, eval e X.env) :: starEach es X.env := by rfl) (hpl : (backTo pos (starEach es X.env)).any (·.1) = false := by rfl) : PE X (.Call (.Name x p) (e :: es) [] pos) (tCB r t) := by
  intro pins s σ H Q I h
  refine wpAny_Call_Name_kw (ld_blt I hg hm hv ?_ hn hdb)
  exact PyProof.Rows.callWith_builtin1 (thn (ha pos pins s σ H _ I h) fun us s1 ⟨vs, H1, I1, r1, q1⟩ => hc pins s1 σ H1 vs us Q I1 r1 q1) he hpl
theorem pe_callTy (hc : CallR X (.type T) r) (hg : Gl X x) (hm : X.mg x = none) (hv : bootBuiltins x = some (.type T)) (ha : PA X (e :: es) t) (hn : x ≠ "__name__" := by decide) (hdb : (x == ("__debug__" : Str)) = false := by decide)
    (he : starEach (e :: es) X.env = (false, eval e X.env) :: starEach es X.env := by rfl) (hpl : (backTo pos (starEach es X.env)).any (·.1) = false := by rfl) : PE X (.Call (.Name x p) (e :: es) [] pos) (tCB r t) := by
  intro pins s σ H Q I h
  refine wpAny_Call_Name_kw (ld_blt I hg hm hv ?_ hn hdb)
  exact PyProof.Rows.callWith_type1 (thn (ha pos pins s σ H _ I h) fun us s1 ⟨vs, H1, I1, r1, q1⟩ => hc pins s1 σ H1 vs us Q I1 r1 q1) he hpl
end
end L2
namespace HT
open PySem PyProof.Rows
section
open PySem.SeqAt
open PySem.AutoSeq1 (wpAny_loadPart')
open PySem.MeetsSeq PySem.MeetsSeq2 PySem.MeetsSeq3
end
section
variable {prog : Program} {w : World} {A : Around} {E : Value → Shared → Prop} {s : Shared}
theorem cat_tup {t b : Addr} {vs ws : List Value} {Q : Value → Shared → Prop} (ht : IsTup s.heap t vs.toArray) (hb : IsTup s.heap b ws.toArray) (hv : vs ≠ [])
    (h1 : ws = [] → Q (.ref t) s) (h2 : ws ≠ [] → Q (.ref s.heap.objs.size) { s with heap := s.heap.push { cls := .type "tuple", data := .seq (vs ++ ws).toArray } })
    (hsz : vs.length + ws.length ≤ sizeLine) : wpAny (model prog w) A (binaryOp .Add (.ref t) (.ref b)) Q E s := by
  obtain ⟨⟨cls, dd, data, sl⟩, ho, hc, n, hd⟩ := id ht
  obtain ⟨⟨cls2, dd2, data2, sl2⟩, ho2, hc2, n2, hd2⟩ := id hb
  simp only at hc hd hc2 hd2
  subst hc hd hc2 hd2
  have e : vs.toArray ++ ws.toArray = (vs ++ ws).toArray := by simp
  by_cases hw : ws = []
  · exact concat_meets ⟨_, ho, rfl⟩ ⟨_, ho2, rfl⟩ noFill_tuple_add seq_tuple_add PySem.F.slot_tuple_add PySem.F.entry_tuple_add (PySem.F.args_tuple_add_2 _ _)
      (tuple_addW1 t b vs.toArray ws.toArray n n2 dd dd2 sl sl2 (by simpa using hv) (by simp [hw])) ⟨ho, ho2, h1 hw⟩
  · refine concat_meets ⟨_, ho, rfl⟩ ⟨_, ho2, rfl⟩ noFill_tuple_add seq_tuple_add PySem.F.slot_tuple_add PySem.F.entry_tuple_add (PySem.F.args_tuple_add_2 _ _)
      (tuple_addW2 t b vs.toArray ws.toArray n n2 dd dd2 sl sl2 (by simpa using hv) (by simpa using hw) (by rw [List.size_toArray, List.size_toArray]; exact hsz)) ⟨ho, ho2, ?_⟩
    rw [e]
    exact h2 hw
def sIx (n d : Nat) : Option Int → Nat
  | none => d
  | some v => if v < 0 then (v + (n : Int)).toNat else min v.toNat n
end
end HT
namespace L2
open PySem PySem.Spec PyProof.Rows
abbrev TO := St → Hp → (Option Int → Hp → Prop) → Prop
def PO (X : Cx) (e : Option Expr) (t : TO) : Prop :=
  ∀ (pins : List (Addr × Obj)) (s : Shared) (σ : St) (H : Hp) (Q : Option Int → Hp → Prop), Inv X pins σ H s → t σ H Q →
    wpAny (model X.prog X.w) X.A (evalPart e X.env) (fun u s' => ∃ o H', Inv X pins σ H' s' ∧ IsPart u o ∧ Q o H') X.xe s
def tNoPart : TO := fun _ H Q => Q none H
def tPart (t : TE) : TO := fun σ H Q => t σ H fun x H1 => ∃ i, x = .int i ∧ Q (some i) H1
section
variable {X : Cx} {e : Expr} {te : TE} {lo hi : Option Expr} {tl th : TO} {pos p2 : Pos}
theorem po_none : PO X none tNoPart := by
  intro pins s σ H Q I h
  rw [evalPart_none]
  exact wpAny_pure ⟨none, H, I, .none, h⟩
theorem po_some (h : PE X e te) : PO X (some e) (tPart te) := by
  intro pins s σ H Q I hw
  rw [evalPart_some]
  refine thn (h pins s σ H _ I hw) fun u s1 ⟨x, H1, I1, r1, q1⟩ => ?_
  obtain ⟨i, rfl, q⟩ := q1
  obtain ⟨t, rfl⟩ := r1
  exact ⟨some i, H1, I1, .int i t, q⟩
def SlR (X : Cx) (r : V → Option Int → Option Int → Hp → VK → Prop) : Prop :=
  ∀ (pins : List (Addr × Obj)) (s : Shared) (σ : St) (H : Hp) (x : V) (v vl vu : Value) (lo hi : Option Int) (sl : Addr) (Q : VK), Inv X pins σ H s → RelV x v → s.heap.IsSliceOf sl vl vu .none → IsPart vl lo → IsPart vu hi → r x lo hi H Q →
    ∃ T id, typeLookup (.type T) "__getitem__" = pure (some (.builtin id)) ∧ s.TypeIs v T ∧ wpAny (model X.prog X.w) X.A (getItem v (.ref sl)) (EP X pins σ Q) X.xe s
def tSl (r : V → Option Int → Option Int → Hp → VK → Prop) (te : TE) (tl th : TO) : TE := fun σ H Q => te σ H fun x H1 => tl σ H1 fun l H2 => th σ H2 fun u H3 => r x l u H3 Q
theorem pe_slice {r : V → Option Int → Option Int → Hp → VK → Prop} (hr : SlR X r) (he : PE X e te) (hl : PO X lo tl) (hu : PO X hi th) : PE X (.Subscript e (.Slice lo hi none p2) pos) (tSl r te tl th) := by
  intro pins s σ H Q I h
  refine Subscript_ (thn (he pins s σ H _ I h) fun v s1 ⟨x, H1, I1, r1, q1⟩ => ?_)
  refine wpAny_Slice (thn (hl pins s1 σ H1 _ I1 q1) fun vl s2 ⟨l, H2, I2, pl, q2⟩ => thn (hu pins s2 σ H2 _ I2 q2) fun vu s3 ⟨u, H3, I3, pu, q3⟩ => ?_)
  rw [evalPart_none]
  refine wpAny_pure ?_
  have I4 : Inv X pins σ H3 { s3 with heap := s3.heap.push { cls := .type "slice", data := .fields #[vl, vu, .none] } } := I3.kept (t' := s3.toks) fun b ob q => Heap.get?_push_of_some _ q
  obtain ⟨T, id, hT, ht, hg⟩ := hr pins { s3 with heap := s3.heap.push { cls := .type "slice", data := .fields #[vl, vu, .none] } } σ H3 x v vl vu l u s3.heap.objs.size Q I4 r1 (Heap.IsSliceOf.new ..) pl pu q3
  show wpAny (model X.prog X.w) X.A (subscriptTail e (.Slice lo hi none p2) v (.ref s3.heap.objs.size)) (EP X pins σ Q) X.xe { s3 with heap := s3.heap.push { cls := .type "slice", data := .fields #[vl, vu, .none] } }
  exact tail_any (ops := [.ref s3.heap.objs.size, v]) ht hT hg (by with_unfolding_all rfl)
def cutV (xs : List V) (lo hi : Option Int) : List V := (xs.drop (HT.sIx xs.length 0 lo)).take (HT.sIx xs.length xs.length hi - HT.sIx xs.length 0 lo)
theorem cutV_length (xs : List V) (lo hi : Option Int) : (cutV xs lo hi).length ≤ xs.length := by
  unfold cutV
  rw [List.length_take, List.length_drop]
  omega
def rCatT (K : PySem.W.Frag) : R2 := fun x y H Q => ∃ a b xs ys, x = .ref a ∧ y = .ref b ∧ SqT K H a xs ∧ SqT K H b ys ∧ xs ≠ [] ∧ xs.length + ys.length ≤ sizeLine ∧
  (ys = [] → Q (.ref a) H) ∧ (ys ≠ [] → ∀ p, H p = none → Q (.ref p) (upd H p (.tup (xs ++ ys))))
theorem Vals.nil_iff {xs : List V} {us : List Value} (r : Vals xs us) : us = [] ↔ xs = [] := by
  cases r with
  | nil => simp
  | cons _ _ => simp
theorem op_catT : OpR X (binaryOp .Add) (rCatT X.K) := by
  intro pins s σ H x y v u Q I rx ry h
  obtain ⟨a, b, xs, ys, rfl, rfl, ha, hb, hx, hz, q1, q2⟩ := h
  cases rx
  cases ry
  obtain ⟨its, r1, p1, _⟩ := I.tuple ha
  obtain ⟨its2, r2, p2, _⟩ := I.tuple hb
  refine HT.cat_tup p1 p2 (fun z => hx (r1.nil_iff.mp z)) (fun z => ⟨.ref a, H, I, rfl, q1 (r2.nil_iff.mp z)⟩) (fun z => ?_) (by rw [← r1.length, ← r2.length]; exact hz)
  refine ⟨.ref s.heap.objs.size, _, I.laid (t' := s.toks) (o := .tup (xs ++ ys)) (fun b ob q => Heap.get?_push_of_some _ q) (Nat.le_refl _) ?_, rfl, q2 (fun w => z (r2.nil_iff.mpr w)) _ (I.hok.fresh (Nat.le_refl _))⟩
  exact ⟨by rw [List.length_append]; exact hz, _, r1.append r2, IsTup.new _ _⟩
end
end L2
namespace L2
open PySem PySem.Spec PyProof.Rows
def ixN (n : Nat) (i : Int) : Option Nat := if 0 ≤ i then (if i < n then some i.toNat else none) else if -(n : Int) ≤ i then some (i + n).toNat else none
def atI {α : Type} (xs : List α) (i : Int) : Option α := (ixN xs.length i).bind fun j => xs[j]?
theorem ixN_seq {n : Nat} {i : Int} {j : Nat} (h : ixN n i = some j) : seqIndex? i n = some j ∧ j < n ∧ -(n : Int) ≤ i ∧ i < n := by
  unfold ixN at h
  by_cases h0 : 0 ≤ i
  · rw [if_pos h0] at h
    by_cases h1 : i < n
    · rw [if_pos h1] at h
      have e : i.toNat = j := Option.some.inj h
      exact ⟨by rw [seqIndex_of h0 h1, e], by omega, by omega, h1⟩
    · rw [if_neg h1] at h; cases h
  · rw [if_neg h0] at h
    by_cases h1 : -(n : Int) ≤ i
    · rw [if_pos h1] at h
      have e : (i + n).toNat = j := Option.some.inj h
      exact ⟨by rw [seqIndex_neg (by omega) h1, e], by omega, h1, by omega⟩
    · rw [if_neg h1] at h; cases h
theorem atI_get {α : Type} {xs : List α} {i : Int} {v : α} (h : atI xs i = some v) : ∃ j, seqIndex? i xs.length = some j ∧ xs[j]? = some v ∧ j < xs.length ∧ -(xs.length : Int) ≤ i ∧ i < xs.length := by
  unfold atI at h
  cases e : ixN xs.length i with
  | none => rw [e] at h; cases h
  | some j =>
    rw [e] at h
    obtain ⟨h1, h2, h3, h4⟩ := ixN_seq e
    exact ⟨j, h1, h, h2, h3, h4⟩
theorem atI_nat {α : Type} {xs : List α} {j : Nat} {v : α} (h : xs[j]? = some v) : atI xs (j : Int) = some v := by
  have hj : j < xs.length := (List.getElem?_eq_some_iff.mp h).1
  have e : ixN xs.length (j : Int) = some j := by
    unfold ixN
    rw [if_pos (by omega), if_pos (by omega)]; simp
  unfold atI; rw [e]; exact h
def PlainIx (b : Expr) : Prop := ∀ o i, subscripted b false o i = operate [o, i] (getItem o i)
def IxR (X : Cx) (r : R2) : Prop :=
  ∀ (value slice : Expr) (pins : List (Addr × Obj)) (s : Shared) (σ : St) (H : Hp) (x y : V) (v u : Value) (Q : VK), Inv X pins σ H s → RelV x v → RelV y u → r x y H Q →
    subscripted slice false v u = operate [v, u] (getItem v u) → wpAny (model X.prog X.w) X.A (subscriptTail value slice v u) (EP X pins σ Q) X.xe s
def MtR (X : Cx) (id : String) (r : V → List V → Hp → VK → Prop) : Prop :=
  ∀ (pins : List (Addr × Obj)) (s : Shared) (σ : St) (H : Hp) (x : V) (xs : List V) (v : Value) (us : List Value) (Q : VK), Inv X pins σ H s → RelV x v → Vals xs us → r x xs H Q →
    wpAny (model X.prog X.w) X.A (call (.builtin id) (v :: us)) (EP X pins σ Q) X.xe s
section
variable {X : Cx} {a b : Expr} {ta tb : TE} {pos : Pos}
theorem pe_ix {r : R2} (hr : IxR X r) (ha : PE X a ta) (hb : PE X b tb) (hs : PlainIx b) : PE X (.Subscript a b pos) (tOp r ta tb) := by
  intro pins s σ H Q I h
  exact Subscript_ (binT ha hb I h fun v u s2 x y H2 I2 rx ry q => hr a b pins s2 σ H2 x y v u Q I2 rx ry q (hs _ _))
def rIxL (K : PySem.W.Frag) : R2 := fun x y H Q => ∃ p xs i v, x = .ref p ∧ y = .int i ∧ SqL K H p xs ∧ atI xs i = some v ∧ Q v H
def rIxT (K : PySem.W.Frag) : R2 := fun x y H Q => ∃ p xs i v, x = .ref p ∧ y = .int i ∧ SqT K H p xs ∧ atI xs i = some v ∧ Q v H
def rIxS : R2 := fun x y H Q => ∃ z i c, x = .str z ∧ y = .int i ∧ z.length ≤ sizeLine ∧ atI z.cps.toList i = some c ∧ Q (.str ⟨#[c]⟩) H
theorem ix_list : IxR X (rIxL X.K) := by
  intro value slice pins s σ H x y v u Q I rx ry h hs
  obtain ⟨p, xs, i, z, rfl, rfl, hq, he, q⟩ := h
  cases rx
  obtain ⟨t, rfl⟩ := ry
  obtain ⟨its, r, pl, hz⟩ := I.list hq
  obtain ⟨j, h1, h2, h3, h4, h5⟩ := atI_get he
  obtain ⟨w, ew, rw'⟩ := r.get h2
  have hl := r.length
  have hn := line63
  have fin : EP X pins σ Q w s := ⟨z, H, I, rw', q⟩
  by_cases h0 : 0 ≤ i
  · have hj : i.toNat = j := by
      rw [seqIndex_of h0 h5] at h1
      exact Option.some.inj h1
    exact item_listR pl.isList h0 (by omega) (by rw [hj]; simpa using ew) fin hs
  · have hj : (i + (its.toArray.size : Int)).toNat = j := by
      rw [seqIndex_neg (by omega) h4] at h1
      rw [List.size_toArray, ← hl]
      exact Option.some.inj h1
    exact subscriptTail_builtinR (x := w) pl.isList.typeIs slot_list_getitem.lookup
      (wpAny_getItem_list_neg (Q := fun r s' => r = w ∧ EP X pins σ Q r s') pl.isList (by omega) (by rw [List.size_toArray] <;> omega) (by omega) (by rw [hj]; simpa using ew) ⟨rfl, fin⟩) hs
theorem ix_tup : IxR X (rIxT X.K) := by
  intro value slice pins s σ H x y v u Q I rx ry h hs
  obtain ⟨p, xs, i, z, rfl, rfl, hq, he, q⟩ := h
  cases rx
  obtain ⟨t, rfl⟩ := ry
  obtain ⟨its, r, pl, hz⟩ := I.tuple hq
  obtain ⟨j, h1, h2, h3, h4, h5⟩ := atI_get he
  obtain ⟨w, ew, rw'⟩ := r.get h2
  have hl := r.length
  have hn := line63
  have fin : EP X pins σ Q w s := ⟨z, H, I, rw', q⟩
  exact subscriptTail_builtinR (x := w) pl.typeIs slot_tuple_getitem.lookup
    (getItem_tuple (j := j) (Q := fun r s' => r = w ∧ EP X pins σ Q r s') pl (by omega) (by omega) (by rw [List.size_toArray, ← hl]; exact h1) (by simpa using ew) ⟨rfl, fin⟩) hs
theorem ix_str : IxR X rIxS := by
  intro value slice pins s σ H x y v u Q I rx ry h hs
  obtain ⟨z, i, c, rfl, rfl, hz, he, q⟩ := h
  obtain ⟨t, rfl⟩ := rx
  obtain ⟨t', rfl⟩ := ry
  obtain ⟨j, h1, h2, h3, h4, h5⟩ := atI_get he
  have hl : z.cps.toList.length = z.length := by simp [Str.length]
  rw [hl] at h1 h4 h5
  have hn := line63
  exact tail_any (typeIs_str s z t) slot_str_getitem.lookup (getItem_str (c := c) (by
    have e1 : decide (i < -(2 ^ 63 : Int)) = false := decide_eq_false (by omega)
    have e2 : decide (i ≥ 2 ^ 63) = false := decide_eq_false (by omega)
    rw [e1, e2, Bool.or_false]) (by rw [h1]; simpa using h2) ⟨.str ⟨#[c]⟩, H, I.tok _, ⟨_, rfl⟩, q⟩) hs
theorem mapSeq_set (its : List Value) (n j : Nat) (u : Value) : Obj.mapSeq (·.setIfInBounds j u) { cls := .type "list", data := .seq its.toArray n } = { cls := .type "list", data := .seq (its.set j u).toArray n } := by
  simp [Obj.mapSeq]
theorem Inv.lst {pins : List (Addr × Obj)} {σ : St} {H : Hp} {s : Shared} {p : Addr} {xs : List V} (I : Inv X pins σ H s) (h : H p = some (.lst xs)) :
    ∃ (its : List Value) (n : Nat), Vals xs its ∧ s.heap.get? p = some { cls := .type "list", data := .seq its.toArray n } ∧ xs.length ≤ sizeLine := by
  obtain ⟨z, its, n, r, e⟩ := I.hok p _ h
  exact ⟨its, n, r, e, z⟩
theorem Inv.lstUpd {pins : List (Addr × Obj)} {σ : St} {H : Hp} {s : Shared} {p : Addr} {xs ys : List V} {its its' : List Value} {n n' : Nat} {f : Obj → Obj} (I : Inv X pins σ H s) (h : H p = some (.lst xs))
    (ho : s.heap.get? p = some { cls := .type "list", data := .seq its.toArray n }) (hf : f { cls := .type "list", data := .seq its.toArray n } = { cls := .type "list", data := .seq its'.toArray n' }) (r : Vals ys its') (hz : ys.length ≤ sizeLine) (t : Nat) :
    Inv X pins σ (upd H p (.lst ys)) { s with heap := s.heap.update p f, toks := t } := by
  have e : (s.heap.update p f).get? p = some { cls := .type "list", data := .seq its'.toArray n' } := by
    rw [Heap.get?_update_self f ho (by rw [hf] <;> rfl), hf]
  refine I.write (x := p) (e := p) (by rw [h]; trivial) (.inl rfl) (fun b u hb q => (Heap.get?_update_other _ _ (Ne.symm hb)).trans q) ⟨_, e⟩ ?_
  exact ⟨hz, its', n', r, e⟩
def rSetL : V → V → V → Hp → (Hp → Prop) → Prop := fun o i v H Q => ∃ p xs k j, o = .ref p ∧ i = .int k ∧ H p = some (.lst xs) ∧ ixN xs.length k = some j ∧ Q (upd H p (.lst (xs.set j v)))
theorem set_list : PSet X rSetL := by
  intro pins s σ H o i v ov iv u Q I ro ri rv h
  obtain ⟨p, xs, k, j, rfl, rfl, hp, hj, q⟩ := h
  cases ro
  obtain ⟨t, rfl⟩ := ri
  obtain ⟨its, n, r, ho, hz⟩ := I.lst hp
  obtain ⟨h1, h2, h3, h4⟩ := ixN_seq hj
  have hl := r.length
  have hn := line63
  have I' : Inv X pins σ (upd H p (.lst (xs.set j v))) { s with heap := s.heap.update p (Obj.mapSeq (·.setIfInBounds j u)) } :=
    I.lstUpd hp ho (mapSeq_set its n j u) (r.set rv j) (by rw [List.length_set]; exact hz) s.toks
  by_cases h0 : 0 ≤ k
  · have hk : k.toNat = j := by
      rw [seqIndex_of h0 h4] at h1
      exact Option.some.inj h1
    exact PySem.W.ki_setAt ho h0 (by omega) (by rw [List.size_toArray, ← hl]; exact h4) (by rw [hk]; exact ⟨_, I', q⟩)
  · have hk : (k + (its.toArray.size : Int)).toNat = j := by
      rw [seqIndex_neg (by omega) h3] at h1
      rw [List.size_toArray, ← hl]
      exact Option.some.inj h1
    exact PySem.W.ki_setBack ho (by omega) (by rw [List.size_toArray, ← hl]; exact h3) (by omega) (by rw [hk]; exact ⟨_, I', q⟩)
theorem slice_bounds (lo hi : Option Int) (n : Nat) : (sliceBounds lo hi none n).1 = ((HT.sIx n 0 lo : Nat) : Int) ∧ (sliceBounds lo hi none n).2.1 = ((HT.sIx n n hi : Nat) : Int) ∧ (sliceBounds lo hi none n).2.2 = 1 := by
  refine ⟨?_, ?_, rfl⟩
  · cases lo with
    | none => simp [sliceBounds, HT.sIx]
    | some i =>
      simp only [sliceBounds, HT.sIx, Option.getD_none, show (1 : Int) > 0 by decide, if_true]
      by_cases h : i < 0
      · simp only [h, if_true] <;> omega
      · simp only [h, if_false] <;> omega
  · cases hi with
    | none => simp [sliceBounds, HT.sIx]
    | some i =>
      simp only [sliceBounds, HT.sIx, Option.getD_none, show (1 : Int) > 0 by decide, if_true]
      by_cases h : i < 0
      · simp only [h, if_true] <;> omega
      · simp only [h, if_false] <;> omega
theorem slicePick_cut (its : List Value) (lo hi : Option Int) : slicePick its.toArray lo hi none = ((its.drop (HT.sIx its.length 0 lo)).take (HT.sIx its.length its.length hi - HT.sIx its.length 0 lo)).toArray := by
  obtain ⟨h1, h2, h3⟩ := slice_bounds lo hi its.toArray.size
  unfold slicePick
  rw [h1, h2, h3]
  simp only [sliceRange_one, pick_run, List.size_toArray] <;> rfl
def rSlL (K : PySem.W.Frag) : V → Option Int → Option Int → Hp → VK → Prop := fun x lo hi H Q => ∃ a xs, x = .ref a ∧ SqL K H a xs ∧ ∀ p, H p = none → Q (.ref p) (upd H p (.lst (cutV xs lo hi)))
theorem sl_list : SlR X (rSlL X.K) := by
  intro pins s σ H x v vl vu lo hi sl Q I rx hs pl pu h
  obtain ⟨a, xs, rfl, hx, q⟩ := h
  cases rx
  obtain ⟨its, r, ht, hz⟩ := I.list hx
  have hlen := r.length
  refine ⟨"list", _, slot_list_getitem.lookup, ht.isList.typeIs, ?_⟩
  refine wpAny_getItem_list_slice ht.isList hs pl pu .none (by simp) ?_ (by rw [List.size_toArray] <;> omega)
  rw [slicePick_cut, ← hlen]
  refine ⟨.ref s.heap.objs.size, _, I.laid (t' := s.toks) (o := .lst (cutV xs lo hi)) (fun b ob q => Heap.get?_push_of_some _ q) (Nat.le_refl _) ?_, rfl, q _ (I.hok.fresh (Nat.le_refl _))⟩
  exact ⟨Nat.le_trans (cutV_length xs lo hi) hz, _, 0, (r.drop (HT.sIx xs.length 0 lo)).take (HT.sIx xs.length xs.length hi - HT.sIx xs.length 0 lo), Heap.get?_push_size _ rfl⟩
def flatV : V → Bool
  | .non => true
  | .bl _ => true
  | .int _ => true
  | .str _ => true
  | _ => false
def eqV : V → V → Bool
  | .non, .non => true
  | .bl a, .bl b => a == b
  | .bl a, .int b => (if a then 1 else 0) == b
  | .int a, .bl b => a == (if b then 1 else 0)
  | .int a, .int b => a == b
  | .str a, .str b => a == b
  | _, _ => false
theorem eqAt_V {A : Around} {s : Shared} {y x : V} {u v : Value} (ry : RelV y u) (rx : RelV x v) (fy : flatV y = true) (fx : flatV x = true) : SeqAt.EqAt A s u v (eqV y x) := by
  cases y with
  | non =>
    cases ry
    cases x with
    | non => cases rx; exact SeqAt.EqAt.same _
    | bl b => cases rx; exact SeqAt.EqAt.none_bool b
    | int b => obtain ⟨t, rfl⟩ := rx; exact SeqAt.EqAt.none_int b t
    | str b => obtain ⟨t, rfl⟩ := rx; exact SeqAt.EqAt.none_str b t
    | _ => exact absurd (show false = true from fx) Bool.false_ne_true
  | bl a =>
    cases ry
    cases x with
    | non => cases rx; exact SeqAt.EqAt.bool_none a
    | bl b => cases rx; exact SeqAt.EqAt.bool_bool a b
    | int b => obtain ⟨t, rfl⟩ := rx; exact SeqAt.EqAt.bool_int a b t
    | str b => obtain ⟨t, rfl⟩ := rx; exact SeqAt.EqAt.bool_str a b t
    | _ => exact absurd (show false = true from fx) Bool.false_ne_true
  | int a =>
    obtain ⟨t', rfl⟩ := ry
    cases x with
    | non => cases rx; exact SeqAt.EqAt.int_none a t'
    | bl b => cases rx; exact SeqAt.EqAt.int_bool a t' b
    | int b => obtain ⟨t, rfl⟩ := rx; exact SeqAt.EqAt.int_int a t' b t
    | str b => obtain ⟨t, rfl⟩ := rx; exact SeqAt.EqAt.int_str a t' b t
    | _ => exact absurd (show false = true from fx) Bool.false_ne_true
  | str a =>
    obtain ⟨t', rfl⟩ := ry
    cases x with
    | non => cases rx; exact SeqAt.EqAt.str_none a t'
    | bl b => cases rx; exact SeqAt.EqAt.str_bool a t' b
    | int b => obtain ⟨t, rfl⟩ := rx; exact SeqAt.EqAt.str_int a t' b t
    | str b => obtain ⟨t, rfl⟩ := rx; exact SeqAt.EqAt.str_str a t' b t
    | _ => exact absurd (show false = true from fx) Bool.false_ne_true
  | _ => exact absurd (show false = true from fy) Bool.false_ne_true
def eqU (x : V) (u : Value) : Bool := match u with
  | .none => eqV .non x
  | .bool b => eqV (.bl b) x
  | .int i _ => eqV (.int i) x
  | .str z _ => eqV (.str z) x
  | _ => false
theorem eqU_of {x y : V} {u : Value} (r : RelV y u) (f : flatV y = true) : eqU x u = eqV y x := by
  cases y with
  | non => cases r; rfl
  | bl b => cases r; rfl
  | int i => obtain ⟨t, rfl⟩ := r; rfl
  | str z => obtain ⟨t, rfl⟩ := r; rfl
  | _ => exact absurd (show false = true from f) Bool.false_ne_true
theorem any_eqU {x : V} : ∀ {xs : List V} {us : List Value}, Vals xs us → xs.all flatV = true → us.any (eqU x) = xs.any fun y => eqV y x
  | _, _, .nil, _ => rfl
  | y :: xs, u :: us, .cons r t, f => by
    rw [List.all_cons, Bool.and_eq_true] at f
    rw [List.any_cons, List.any_cons, eqU_of r f.1, any_eqU t f.2]
theorem mem_eqAt {A : Around} {s : Shared} {x : V} {v : Value} (rx : RelV x v) (fx : flatV x = true) : ∀ {xs : List V} {us : List Value}, Vals xs us → xs.all flatV = true → ∀ u ∈ us, SeqAt.EqAt A s u v (eqU x u)
  | _, _, .nil, _ => fun u hu => by cases hu
  | y :: xs, u :: us, .cons r t, f => fun u' hu => by
    rw [List.all_cons, Bool.and_eq_true] at f
    rcases List.mem_cons.mp hu with rfl | hu
    · rw [eqU_of r f.1]; exact eqAt_V r rx f.1 fx
    · exact mem_eqAt rx fx t f.2 u' hu
def inV (x : V) (xs : List V) : Bool := xs.any fun y => eqV y x
def rIn (K : PySem.W.Frag) (neg : Bool) : R2 := fun x y H Q => ∃ p xs, y = .ref p ∧ (SqL K H p xs ∨ SqT K H p xs) ∧ flatV x = true ∧ xs.all flatV = true ∧ Q (.bl (if neg then !inV x xs else inV x xs)) H
theorem op_in_seq : OpR X (compareOp .In) (rIn X.K false) := by
  intro pins s σ H x y v u Q I rx ry h
  obtain ⟨p, xs, rfl, hq, fx, fs, q⟩ := h
  cases ry
  rcases hq with hq | hq
  · obtain ⟨its, r, pl, hz⟩ := I.list hq
    refine SeqAt.in_listAt (eqU x) pl.isList (fun w hw => mem_eqAt rx fx r fs w (by simpa using hw)) ⟨.bl _, H, I, rfl, ?_⟩
    rw [show its.toArray.any (eqU x) = its.any (eqU x) by simp, any_eqU r fs]
    exact q
  · obtain ⟨its, r, pl, hz⟩ := I.tuple hq
    refine SeqAt.in_tupleAt (eqU x) pl (fun w hw => mem_eqAt rx fx r fs w (by simpa using hw)) ⟨.bl _, H, I, rfl, ?_⟩
    rw [show its.toArray.any (eqU x) = its.any (eqU x) by simp, any_eqU r fs]
    exact q
theorem call_len_seq : CallR X (.builtin "len") (fun xs H Q => ∃ p ys, xs = [.ref p] ∧ (SqL X.K H p ys ∨ SqT X.K H p ys) ∧ Q (.int ys.length) H) := by
  intro pins s σ H xs us Q I r h
  obtain ⟨p, ys, rfl, hq, q⟩ := h
  obtain ⟨u, rfl, rx⟩ := vals1 r
  cases rx
  have hn := line63
  rcases hq with hq | hq
  · obtain ⟨its, r', pl, hz⟩ := I.list hq
    have hlen := r'.length
    exact Calls.call_len_list pl.isList (by simp only [List.size_toArray] <;> omega) ⟨.int ys.length, H, I.tok _, ⟨s.toks + 1, by rw [List.size_toArray, hlen]⟩, q⟩
  · obtain ⟨its, r', pl, hz⟩ := I.tuple hq
    have hlen := r'.length
    exact len_tuple pl (by simp only [List.size_toArray] <;> omega) ⟨.int ys.length, H, I.tok _, ⟨s.toks + 1, by rw [List.size_toArray, hlen]⟩, q⟩
theorem call_len_str : CallR X (.builtin "len") (fun xs H Q => ∃ z, xs = [.str z] ∧ z.length ≤ sizeLine ∧ Q (.int z.length) H) := by
  intro pins s σ H xs us Q I r h
  obtain ⟨z, rfl, hz, q⟩ := h
  obtain ⟨u, rfl, t, rfl⟩ := vals1 r
  have hn := line63
  exact len_str (by omega) ⟨.int z.length, H, I.tok _, ⟨_, rfl⟩, q⟩
theorem call_list_of : CallR X (.type "list") (fun xs H Q => ∃ p ys, xs = [.ref p] ∧ (SqL X.K H p ys ∨ SqT X.K H p ys) ∧ ∀ l, H l = none → Q (.ref l) (upd H l (.lst ys))) := by
  intro pins s σ H xs us Q I r h
  obtain ⟨p, ys, rfl, hq, q⟩ := h
  obtain ⟨u, rfl, rx⟩ := vals1 r
  cases rx
  have fin : ∀ (its : List Value), Vals ys its → ys.length ≤ sizeLine → ∀ (h' : Heap) (c' : Nat), (∀ b o', s.heap.get? b = some o' → h'.get? b = some o') →
      h'.get? s.heap.objs.size = some { cls := .type "list", dict := none, data := .seq its.toArray c', slots := #[] } → EP X pins σ Q (.ref s.heap.objs.size) { s with heap := h' } := fun its r' hz h' c' kp e =>
    ⟨.ref s.heap.objs.size, _, I.laid (t' := s.toks) kp (Nat.le_refl _) (show ObjOk X.prog X.w _ h' _ (.lst ys) from ⟨hz, its, c', r', e⟩), rfl, q _ (I.hok.fresh (Nat.le_refl _))⟩
  rcases hq with hq | hq
  · obtain ⟨its, r', pl, hz⟩ := I.list hq
    have hlen := r'.length
    obtain ⟨o, ho, hc, n, hd⟩ := pl.isList
    exact call_list_seq p (.inl rfl) ho hc hd (fun h' c' kp e => fin its r' hz h' c' kp e) (by simp only [List.size_toArray] <;> omega)
  · obtain ⟨its, r', pl, hz⟩ := I.tuple hq
    have hlen := r'.length
    obtain ⟨o, ho, hc, n, hd⟩ := pl
    exact call_list_seq p (.inr rfl) ho hc hd (fun h' c' kp e => fin its r' hz h' c' kp e) (by simp only [List.size_toArray] <;> omega)
theorem call_tuple_of : CallR X (.type "tuple") (fun xs H Q => ∃ p ys, xs = [.ref p] ∧ ((SqL X.K H p ys ∧ ∀ l, H l = none → Q (.ref l) (upd H l (.tup ys))) ∨ (SqT X.K H p ys ∧ Q (.ref p) H))) := by
  intro pins s σ H xs us Q I r h
  obtain ⟨p, ys, rfl, h⟩ := h
  obtain ⟨u, rfl, rx⟩ := vals1 r
  cases rx
  rcases h with ⟨hq, q⟩ | ⟨hq, q⟩
  · obtain ⟨its, r', pl, hz⟩ := I.list hq
    have hlen := r'.length
    refine call_tuple_list pl.isList (fun h' kp => ?_) (by simp only [List.size_toArray] <;> omega)
    have I1 : Inv X pins σ H { s with heap := h' } := I.kept (t' := s.toks) kp
    have I2 : Inv X pins σ (upd H h'.objs.size (.tup ys)) { s with heap := h'.push { cls := .type "tuple", data := .seq its.toArray } } :=
      I1.laid (t' := s.toks) (fun b o e => Heap.get?_push_of_some _ e) (Nat.le_refl _) (show ObjOk X.prog X.w _ _ _ (.tup ys) from ⟨hz, its, r', IsTup.new _ _⟩)
    exact ⟨.ref h'.objs.size, _, I2, rfl, q _ (I1.hok.fresh (Nat.le_refl _))⟩
  · obtain ⟨its, r', pl, hz⟩ := I.tuple hq
    exact call_tuple_same pl ⟨.ref p, H, I, rfl, q⟩
def tyV (K : PySem.W.Frag) (T : String) (x : V) (H : Hp) : Prop := match x with
  | .str _ => T = "str"
  | .int _ => T = "int"
  | .ref p => (T = "list" ∧ ∃ xs, SqL K H p xs) ∨ (T = "tuple" ∧ ∃ o, K.lookup p = some o ∧ o.cls = .type "tuple" ∧ o.dict = none) ∨
      (T = "dict" ∧ ((∃ kvs, H p = some (.dK kvs)) ∨ ∃ kvs, H p = some (.dT kvs))) ∨ (T = "set" ∧ ∃ S n, H p = some (.set S n))
  | _ => False
theorem tyV_is {pins : List (Addr × Obj)} {σ : St} {H : Hp} {s : Shared} {T : String} {x : V} {v : Value} (I : Inv X pins σ H s) (r : RelV x v) (ty : tyV X.K T x H) :
    s.TypeIs v T ∧ ∀ a, v = .ref a → ∃ ob, s.heap.get? a = some ob ∧ ob.dict = none := by
  cases x with
  | str z =>
    obtain ⟨t, rfl⟩ := r
    cases (show T = "str" from ty)
    exact ⟨typeIs_str s z t, fun _ e => nomatch e⟩
  | int i =>
    obtain ⟨t, rfl⟩ := r
    cases (show T = "int" from ty)
    exact ⟨typeIs_int s i t, fun _ e => nomatch e⟩
  | ref p =>
    cases r
    rcases ty with ⟨rfl, xs, hq⟩ | ⟨rfl, o, hk, hc, hd⟩ | ⟨rfl, hk⟩ | ⟨rfl, S, n, hk⟩
    · obtain ⟨its, _, pl, _⟩ := I.list hq
      refine ⟨pl.isList.typeIs, fun a e => ?_⟩
      cases e
      obtain ⟨o, n, e, c, hd, _⟩ := pl
      exact ⟨o, e, hd⟩
    · refine ⟨⟨o, I.kIn p o hk, hc⟩, fun a e => ?_⟩
      cases e
      exact ⟨o, I.kIn _ o hk, hd⟩
    · have z : ∃ o, s.heap.get? p = some o ∧ o.ExactDict := by
        rcases hk with ⟨kvs, hk⟩ | ⟨kvs, hk⟩
        · obtain ⟨_, _, _, _, o, _, _, e, ex, _⟩ := I.hok p _ hk
          exact ⟨o, e, ex⟩
        · obtain ⟨_, _, _, _, o, _, _, e, ex, _⟩ := I.hok p _ hk
          exact ⟨o, e, ex⟩
      obtain ⟨o, e, ex⟩ := z
      refine ⟨⟨o, e, ex.1⟩, fun a e2 => ?_⟩
      cases e2
      exact ⟨o, e, ex.2.1⟩
    · obtain ⟨o, _, _, _, e, ex, _⟩ := I.hok p _ hk
      refine ⟨⟨o, e, ex.1⟩, fun a e2 => ?_⟩
      cases e2
      exact ⟨o, e, ex.2.1⟩
  | _ => exact False.elim ty
def tBM0 (K : PySem.W.Frag) (T : String) (r : V → List V → Hp → VK → Prop) (to : TE) : TE := fun σ H Q => to σ H fun x H1 => tyV K T x H1 ∧ r x [] H1 Q
def tBM (K : PySem.W.Frag) (T : String) (r : V → List V → Hp → VK → Prop) (to : TE) (t : TA) : TE := fun σ H Q => to σ H fun x H1 => tyV K T x H1 ∧ t σ H1 fun xs H2 => r x xs H2 Q
variable {o e : Expr} {es : List Expr} {to : TE} {t : TA} {name : Str} {apos cpos : Pos} {T id : String} {r : V → List V → Hp → VK → Prop}
theorem pe_bm0 (pa : PlainAttrs T) (slot : Slot T name id) (hty : typeOf (.builtin id) = pure (.type "method_descriptor")) (hm : MtR X id r) (ho : PE X o to)
    (hbase : attributeBase o name X.env (eval o X.env) = eval o X.env := by rfl) (hline : (apos.endLine == cpos.line) = true := by rfl) : PE X (.Call (.Attribute o name apos) [] [] cpos) (tBM0 X.K T r to) := by
  intro pins s σ H Q I h
  refine wpAny_Call_method0_late hbase hline (thn (ho pins s σ H _ I h) fun v s1 ⟨x, H1, I1, r1, ty, q1⟩ => ?_)
  obtain ⟨h1, h2⟩ := tyV_is I1 r1 ty
  exact ⟨T, id, pa, slot, hty, h1, h2, Calls.callWith_builtin rfl (PySem.evalArgs_none (hm pins s1 σ H1 x [] v [] Q I1 r1 .nil q1))⟩
theorem pe_bm (pa : PlainAttrs T) (slot : Slot T name id) (hty : typeOf (.builtin id) = pure (.type "method_descriptor")) (hm : MtR X id r) (ho : PE X o to) (ha : PA X (e :: es) t)
    (hbase : attributeBase o name X.env (eval o X.env) = eval o X.env := by rfl)
    (hfew : ((backTo cpos (starEach (e :: es) X.env)).all (fun x => !x.1) && (backToKw cpos (keywordEach [] X.env)).all (fun x => x.1.isSome)
      && decide ((e :: es).length + ([] : List Keyword).length + (if ([] : List Keyword).isEmpty then 0 else 1) < 30)) = true := by rfl)
    (hline : (apos.endLine == cpos.line) = true := by rfl) (hs : starEach (e :: es) X.env = (false, eval e X.env) :: starEach es X.env := by rfl) (hplain : (backTo cpos (starEach es X.env)).any (·.1) = false := by rfl) :
    PE X (.Call (.Attribute o name apos) (e :: es) [] cpos) (tBM X.K T r to t) := by
  intro pins s σ H Q I h
  refine wpAny_Call_method_late hbase hfew hline rfl (thn (ho pins s σ H _ I h) fun v s1 ⟨x, H1, I1, r1, ty, q1⟩ => ?_)
  obtain ⟨h1, h2⟩ := tyV_is I1 r1 ty
  refine ⟨T, id, pa, slot, hty, h1, h2, ?_⟩
  have hA := ha cpos pins s1 σ H1 _ I1 q1
  rw [hs] at hA ⊢
  refine Calls.callWith_builtin (by show (false || (backTo cpos (starEach es X.env)).any (·.1)) = false; rw [hplain] <;> rfl) (Calls.evalArgs_plain ?_)
  exact thn hA fun us s2 ⟨vs, H2, I2, r2, q2⟩ => hm pins s2 σ H2 x vs v us Q I2 r1 r2 q2
/- xs.append(e), list.index on a module's tuple .. are MtR facts of 06m -/
end
end L2
namespace L2
open PySem PySem.Spec PyProof.Rows
def MtM (X : Cx) (id : String) (r : V → List V → Hp → VK → Prop) : Prop :=
  ∀ (pins : List (Addr × Obj)) (s : Shared) (σ : St) (H : Hp) (x : V) (xs : List V) (v : Value) (us : List Value) (Q : VK), Inv X pins σ H s → RelV x v → Vals xs us → r x xs H Q →
    wpAny (model X.prog X.w) X.A (call (.builtin id) (v :: us)) (EP X pins σ Q) X.xe s
theorem Vals.one : ∀ {x : V} {us : List Value}, Vals [x] us → ∃ u, us = [u] ∧ RelV x u
  | _, _, .cons r .nil => ⟨_, rfl, r⟩
theorem Vals.zero : ∀ {us : List Value}, Vals [] us → us = []
  | _, .nil => rfl
theorem Vals.dropLast {xs : List V} {us : List Value} (h : Vals xs us) : Vals xs.dropLast us.dropLast := by
  induction h with
  | nil => exact .nil
  | cons r t ih =>
    cases t with
    | nil => exact .nil
    | cons q t' => exact .cons r ih
theorem erase_last {α : Type} (l : List α) : l.eraseIdx (l.length - 1) = l.dropLast := by
  induction l with
  | nil => rfl
  | cons a r ih =>
    cases r with
    | nil => rfl
    | cons b r =>
      have e : (a :: b :: r).length - 1 = ((b :: r).length - 1) + 1 := by
        have h1 : (a :: b :: r).length = r.length + 2 := rfl
        have h2 : (b :: r).length = r.length + 1 := rfl
        omega
      rw [e, List.eraseIdx_cons_succ, ih]
      all_goals rfl
section
variable {X : Cx} {pins : List (Addr × Obj)} {σ : St} {H : Hp} {s : Shared} {l b : Addr} {xs ys zs : List V}
theorem Inv.lset {its its' : List Value} {n : Nat} {f : Array Value → Array Value} {t' : Nat} (I : Inv X pins σ H s) (hH : H l = some (.lst xs))
    (e : s.heap.get? l = some { cls := .type "list", data := .seq its.toArray n }) (hf : f its.toArray = its'.toArray) (hv : Vals ys its') (hz : ys.length ≤ sizeLine) :
    Inv X pins σ (upd H l (.lst ys)) { s with heap := s.heap.update l (Obj.mapSeq f), toks := t' } := by
  have q := PySem.IsL.update e f
  rw [hf] at q
  refine I.write (x := l) (e := l) (by rw [hH]; exact trivial) (.inl rfl) (fun b' u hb hu => (Heap.get?_update_other s.heap (Obj.mapSeq f) (Ne.symm hb)).trans hu) ⟨_, q⟩ ?_
  exact ⟨hz, its', _, hv, q⟩
theorem Inv.lnew {its : List Value} {t' : Nat} (I : Inv X pins σ H s) (hv : Vals ys its) (hz : ys.length ≤ sizeLine) :
    Inv X pins σ (upd H s.heap.objs.size (.lst ys)) { s with heap := s.heap.push { cls := .type "list", data := .seq its.toArray }, toks := t' } :=
  I.laid (fun _ _ q => Heap.get?_push_of_some _ q) (Nat.le_refl _) ⟨hz, its, 0, hv, Heap.get?_push_size _ rfl⟩
theorem Inv.fresh (I : Inv X pins σ H s) : H s.heap.objs.size = none := I.hok.fresh (Nat.le_refl _)
theorem Inv.lstM (I : Inv X pins σ H s) (hH : H l = some (.lst xs)) : xs.length ≤ sizeLine ∧ ∃ (its : List Value) (n : Nat), Vals xs its ∧ xs.length = its.length ∧ s.heap.get? l = some { cls := .type "list", data := .seq its.toArray n } := by
  obtain ⟨z, its, n, r, e⟩ := I.hok l _ hH
  exact ⟨z, its, n, r, r.length, e⟩
theorem notLongL {n : Nat} (h : n ≤ sizeLine) : Builtin.List.listTooLong n = false := by
  unfold Builtin.List.listTooLong
  exact decide_eq_false (by omega)
end
section
variable {X : Cx}
def rAppend : V → List V → Hp → VK → Prop := fun x vs H Q => ∃ l xs y, x = .ref l ∧ vs = [y] ∧ H l = some (.lst xs) ∧ xs.length < sizeLine ∧ Q .non (upd H l (.lst (xs ++ [y])))
theorem mt_append : MtM X "list.append" rAppend := by
  intro pins s σ H x vs v us Q I rx rv h
  obtain ⟨l, xs, y, rfl, rfl, hH, hz, q⟩ := h
  cases rx
  obtain ⟨u, rfl, ru⟩ := rv.one
  obtain ⟨z, its, n, r, hl, e⟩ := I.lstM hH
  refine call_meets F.slot_list_append ⟨_, e, rfl⟩ F.entry_list_append (F.args_list_append_2 _ _) (PySem.list_append l its.toArray n u (by rw [List.size_toArray]; omega)) ⟨e, ?_⟩
  refine ⟨.non, _, I.lset (its' := its ++ [u]) hH e (by simp) (r.append (.cons ru .nil)) ?_, rfl, q⟩
  rw [List.length_append, List.length_singleton]
  omega
def rExtend : V → List V → Hp → VK → Prop := fun x vs H Q => ∃ l b xs zs, x = .ref l ∧ vs = [.ref b] ∧ H l = some (.lst xs) ∧ H b = some (.lst zs) ∧ xs.length + zs.length ≤ sizeLine ∧ Q .non (upd H l (.lst (xs ++ zs)))
theorem mt_extend : MtM X "list.extend" rExtend := by
  intro pins s σ H x vs v us Q I rx rv h
  obtain ⟨l, b, xs, zs, rfl, rfl, hH, hB, hz, q⟩ := h
  cases rx
  obtain ⟨u, rfl, ru⟩ := rv.one
  cases ru
  obtain ⟨z, its, n, r, hl, e⟩ := I.lstM hH
  obtain ⟨z2, its2, n2, r2, hl2, e2⟩ := I.lstM hB
  have hsz : its.toArray.size + its2.toArray.size ≤ sizeLine := by rw [List.size_toArray, List.size_toArray]; omega
  have hlong : ¬ (!its.toArray.isEmpty && Builtin.List.listTooLong (its.toArray.size + its2.toArray.size)) = true := by
    rw [notLongL hsz, Bool.and_false]
    exact Bool.false_ne_true
  refine call_meets F.slot_list_extend ⟨_, e, rfl⟩ F.entry_list_extend (F.args_list_extend_2 _ _)
    (AutoSeq1.list_extend_list_list_0 l its.toArray n b its2.toArray n2 hlong (by rw [List.size_toArray]; omega) (by omega)) ⟨e, e2, ?_⟩
  refine ⟨.non, _, I.lset (its' := its ++ its2) hH e (by simp) (r.append r2) ?_, rfl, q⟩
  rw [List.length_append]
  omega
def rPop : V → List V → Hp → VK → Prop := fun x vs H Q => ∃ l xs y, x = .ref l ∧ vs = [] ∧ H l = some (.lst xs) ∧ xs[xs.length - 1]? = some y ∧ Q y (upd H l (.lst xs.dropLast))
theorem mt_pop : MtM X "list.pop" rPop := by
  intro pins s σ H x vs v us Q I rx rv h
  obtain ⟨l, xs, y, rfl, rfl, hH, hy, q⟩ := h
  cases rx
  have hus := rv.zero
  subst hus
  obtain ⟨z, its, n, r, hl, e⟩ := I.lstM hH
  obtain ⟨u, hu, ru⟩ := r.get hy
  have hy' : its.toArray[its.toArray.size - 1]? = some u := by
    show its.toArray[its.length - 1]? = some u
    rw [← Array.getElem?_toList, ← hl]
    exact hu
  refine call_meets F.slot_list_pop ⟨_, e, rfl⟩ F.entry_list_pop (F.args_list_pop_1 _) (MeetsSeq.list_pop_last l its.toArray n u hy' (by rw [List.size_toArray]; omega)) ⟨e, ?_⟩
  refine ⟨y, _, I.lset (its' := its.dropLast) hH e ?_ r.dropLast ?_, ru, q⟩
  · show its.toArray.eraseIdxIfInBounds (its.toArray.size - 1) = its.dropLast.toArray
    rw [List.size_toArray, List.eraseIdxIfInBounds_toArray, erase_last]
  · rw [List.length_dropLast]
    omega
def rCat : R2 := fun x y H Q => ∃ l b xs zs, x = .ref l ∧ y = .ref b ∧ H l = some (.lst xs) ∧ H b = some (.lst zs) ∧ xs.length + zs.length ≤ sizeLine ∧ ∀ p, H p = none → Q (.ref p) (upd H p (.lst (xs ++ zs)))
theorem op_cat : OpR X (binaryOp .Add) rCat := by
  intro pins s σ H x y v u Q I rx ry h
  obtain ⟨l, b, xs, zs, rfl, rfl, hH, hB, hz, q⟩ := h
  cases rx
  cases ry
  obtain ⟨z, its, n, r, hl, e⟩ := I.lstM hH
  obtain ⟨z2, its2, n2, r2, hl2, e2⟩ := I.lstM hB
  refine PySem.P.add_list e e2 ?_ (by rw [List.size_toArray, List.size_toArray]; omega)
  have ea : its.toArray ++ its2.toArray = (its ++ its2).toArray := by simp
  rw [ea]
  exact ⟨.ref _, _, I.lnew (t' := s.toks) (r.append r2) (by rw [List.length_append]; omega), rfl, q _ I.fresh⟩
end
section
variable {prog : Program} {w : World} {A : Around} {E : Value → Shared → Prop} {s : Shared}
end
section
variable {X : Cx}
end
end L2
namespace Att
open PySem PySem.W PySem.Calls PyProof.Rows
theorem ints_of_wellAll {P : Params} {h : Heap} : ∀ (ns : List Int) (vs : List Value), WellAll P h vs (ns.map WData.int) → IntsAre vs ns := by
  intro ns
  induction ns with
  | nil =>
    intro vs w
    rw [List.map_nil] at w
    cases w
    exact .nil
  | cons n ns ih =>
    intro vs w
    rw [List.map_cons] at w
    cases w with
    | cons a b =>
      cases a
      exact .cons _ _ (ih _ b)
theorem script_of {l : OpenLaw} {n : Nat} (hn : l.most = some n) {P : Params} {h : Heap} {args : List WData} {vals : List Value}
    (hpre : l.row.toRowW.claim.pre args = true) (hwl : WellAll P h vals args) :
    ∃ a vs ns, vals = [Value.ref a] ∧ args = [WData.list (ns.map WData.int)] ∧ h.get? a = some { cls := .type "list", data := .seq vs.toArray } ∧ IntsAre vs ns ∧ ns.length ≤ n := by
  have hsh : WShape.hasAll [] args [.list .int] = true := (pre_splitW hpre).1
  have hc : l.pre.holds [] { args := args } = true := (pre_splitW hpre).2
  obtain ⟨d, r, rfl, h1, h2⟩ := hasAllW_cons hsh
  obtain rfl := hasAllW_nil h2
  obtain ⟨xs, rfl, h3⟩ := hasW_list h1
  obtain ⟨ns, rfl⟩ := items_int h3
  have hlen : ns.length ≤ n := by
    unfold OpenLaw.pre at hc
    have h4 : (WTm.not (.lt (.lit (.int (n : Int))) (.len (.arg 0)))).holds [] { args := [.list (ns.map .int)] } = true := by
      have h4 := (holds_andW hc).1
      rw [hn] at h4
      exact h4
    have h5 := condW_of h4 (w_not (w_lt w_lit (w_len_list (w_arg rfl))))
    rw [List.length_map] at h5
    refine Nat.le_of_not_lt fun q => ?_
    have q' : (n : Int) < ((ns.length : Nat) : Int) := by omega
    first
      | (rw [decide_eq_true q'] at h5; exact absurd h5 (by decide))
      | (simp at h5; omega)
  cases hwl with
  | cons w1 w2 =>
    cases w2
    cases w1 with
    | list ho hall => exact ⟨_, _, ns, rfl, rfl, ho, ints_of_wellAll ns _ hall, hlen⟩
theorem post_true (l : OpenLaw) (args : List WData) : l.row.toRowW.claim.post args (.bool true) args = true :=
  postW_of (r := l.row.toRowW) (X := (true == true))
    (show WShape.has [] (.bool true) .bool = true by first | rfl | decide | simp [WShape.has, WShape.arms, WShape.armsAll])
    (show (WTm.eq .res (.lit (.bool true))).value [] { args := args, res := some (.bool true), after := args } = some (.bool (true == true)) from w_eq_bool (w_res rfl) w_lit) rfl
theorem attach_call {l : OpenLaw} {n : Nat} {q : Program} {loose : List Str} {XP : (Str → Option Value) → Heap → Prop} {YP : World → Heap → Prop} {d : DefRec}
    (hn : l.most = some n) (hdf : d.params.defaults = [])
    (call : ∀ (w : World) (s₀ s₁ : Shared) (mg mb : Str → Option Value) (fa : Addr) (o : Obj) (pm cd doc : Value) (a : Addr) (vs : List Value) (ns : List Int),
      Ground q loose [] XP w s₀ mg mb s₁.heap → YP w s₁.heap →
      s₁.heap.get? fa = some o → o.data = .func (docDef d.name d.params d.body d.scope pm cd doc) → s₁.heap.CodeRec cd d.name → mg d.name = some (.ref fa) →
      s₁.heap.get? a = some { cls := .type "list", data := .seq vs.toArray } → IntsAre vs ns → ns.length ≤ n → s₁.gens = #[] →
      codeAny (model l.prog w) callerA (.call (.ref fa) ⟨[.ref a], []⟩) (fun r s' => r = .ok (.ret (.bool true)) ∧ OldK s₁.heap s'.heap ∧ s'.os = s₁.os ∧ AllBare s'.gens) s₁) :
    WalkO q loose XP YP l.row.toRowW d [] (fun f vs => PySem.call f vs) := by
  intro w s₀ s₁ mg mb G Y fa o pm cd doc dV kV ho hd hcd hD hmg hg args vals as hpre hlay hrd hwl hlo
  obtain rfl : dV = .none := Dflts.none hD hdf
  obtain rfl : kV = .none := Dflts.noKw hD
  obtain ⟨a, vs, ns, rfl, rfl, hobj, hints, hlen⟩ := script_of hn hpre hwl
  refine enter_call (codeAny_mono (call w s₀ s₁ mg mb fa o pm cd doc a vs ns G Y ho (fd_plain hd) hcd hmg hobj hints hlen hg) fun r s' hq => ?_)
  obtain ⟨rfl, h2, h3, h4⟩ := hq
  exact ⟨.inl ⟨.bool true, .bool true, [], rfl, fun _ => rfl, .bool true, post_true l _, fun _ => ⟨List.Pairwise.nil, fun _ hm => (nomatch hm)⟩⟩, h2, h3, h4⟩
section
variable {prog : Program} {w : World} {A : Around} {E : Value → Shared → Prop} {s : Shared} {K : Frag}
end
end Att
namespace L2
open PySem PySem.Spec PyProof.Rows
theorem vals_ints : ∀ {vs : List Value} {ns : List Int}, IntsAre vs ns → Vals (ns.map V.int) vs
  | _, _, .nil => .nil
  | _, _, .cons n t h => .cons ⟨t, rfl⟩ (vals_ints h)
def Only (H : Hp) : Prop := ∀ b, H b = none ∨ ∃ o xs, H b = some (.frz o (.lst xs))
theorem law_call {P : Program} {w : World} {K : PySem.W.Frag} {mg mb : Str → Option Value} {CX : CXT} {k : Nat} {fa a : Addr} {fd : FuncData} {x : Str} {sp : Sp} {s₁ : Shared} {vs : List Value} {ns : List Int}
    (KX : K.In s₁.heap) (hns : s₁.heap.Ns mainGlobals mg) (hb : s₁.heap.Ns builtinsNs mb) (hbb : ∀ x : Str, x ≠ "__name__" → mb x = bootBuiltins x) (hlim : s₁.heap.NoLimit) (hg : s₁.gens = #[])
    (ha : s₁.heap.get? a = some { cls := .type "list", data := .seq vs.toArray }) (hi : IntsAre vs ns) (hl : ns.length ≤ sizeLine) (hr : Room k callerA)
    (F : ∀ base : Heap, K.In base → base.Ns mainGlobals mg → FnOk P w K mg base CX k fa fd [x] sp) (hbind : ∀ (s : Shared) (u : Value), BindsTo s fd ⟨[u], []⟩ [(x, u)])
    (hsp : ∀ H : Hp, Only H → SqL K H a (ns.map V.int) → sp [.ref a] H (fun v _ => v = .bl true) fun _ _ _ => False)
    (hCX : ∀ H e s', CX [] H s₁ (fun _ _ _ => False) e s' → False) :
    codeAny (model P w) callerA (.call (.ref fa) ⟨[.ref a], []⟩) (fun r s' => r = .ok (.ret (.bool true)) ∧ OldK s₁.heap s'.heap ∧ s'.os = s₁.os ∧ AllBare s'.gens) s₁ := by
  have rv := vals_ints hi
  have lenV := hi.length
  -- from an abstract heap in which nothing but the script may be tracked
  have core : ∀ H : Hp, Only H → SqL K H a (ns.map V.int) → HOk P w H s₁.heap → (∀ b, H b ≠ none → b = a) → (H a ≠ none → K.lookup a = none) →
      codeAny (model P w) callerA (.call (.ref fa) ⟨[.ref a], []⟩) (fun r s' => r = .ok (.ret (.bool true)) ∧ OldK s₁.heap s'.heap ∧ s'.os = s₁.os ∧ AllBare s'.gens) s₁ := by
    intro H hO hS hok hA hK
    have base_of : ∀ {b : Addr} {o : Obj}, s₁.heap.get? b = some o → H b = none → (hidT s₁.heap H).get? b = some o := fun e n => hidT_get e n
    have noA : ∀ {b : Addr} {o : Obj} {es : Array DictEntry} {ep : Nat}, s₁.heap.get? b = some o → o.data = .dict es ep → H b = none := fun {b o es ep} e d => by
      cases q : H b with
      | none => rfl
      | some u =>
        have e' : b = a := hA b (by rw [q]; simp)
        subst e'
        rw [ha] at e; cases e
        have d' : Data.seq vs.toArray _ = Data.dict es ep := d
        cases d'
    have nsK : ∀ {b : Addr} {m : Str → Option Value}, s₁.heap.Ns b m → (hidT s₁.heap H).Ns b m := fun {b m} ⟨o, es, ep, e, d, r⟩ => ⟨o, es, ep, base_of e (noA e d), d, r⟩
    have hKb : K.In (hidT s₁.heap H) := fun b o e => base_of (KX b o e) (by
      cases q : H b with
      | none => rfl
      | some u =>
        have e' : b = a := hA b (by rw [q]; simp)
        subst e'
        rw [hK (by rw [q]; simp)] at e; cases e)
    have hM : Mod K mg (hidT s₁.heap H) := ⟨hKb, nsK hns, ⟨mb, nsK hb, hbb⟩, let ⟨mc, h1, h2⟩ := hlim; ⟨mc, nsK h1, h2⟩⟩
    have e0 : Env0 P w K mg (hidT s₁.heap H) callerA [] s₁ H := ⟨rfl, hM, fun b o e => of_hidT e, Nat.le_of_eq (hidT_size _ _), trivial, fun b hb => absurd (show b ∈ ([] : List Addr) from hb) (by simp), hok, .of_eq hg⟩
    refine codeAny_mono ((F _ hKb (nsK hns)).run callerA [] s₁ H ⟨[.ref a], []⟩ [.ref a] [.ref a] _ _ hr e0 (hbind s₁ (.ref a)) (.cons rfl .nil) (hsp H hO hS)) fun r s' h => ?_
    cases r with
    | error e => exact (hCX H e s' h).elim
    | ok fl =>
      cases fl with
      | next => exact False.elim h
      | brk => exact False.elim h
      | cont => exact False.elim h
      | ret u =>
        obtain ⟨v, H', os, bare, un, hok', r', q⟩ := h
        have q' : v = .bl true := q
        subst q'
        obtain rfl : u = Value.bool true := r'
        refine ⟨rfl, OldK.of_keep fun b o e => ?_, os, bare⟩
        cases q : H b with
        | none => exact un.keep b o e q (by intro z; exact absurd (show b ∈ ([] : List Addr) from z) (by simp)) (by simp)
        | some u =>
          rcases hO b with z | ⟨ob, xs, z⟩
          · rw [q] at z; cases z
          · have z2 := un.frzs b ob _ z
            obtain ⟨e1, _⟩ := hok b _ z
            obtain ⟨e2, _⟩ := hok' b _ z2
            rw [e] at e1; cases e1
            exact e2
  cases hk : K.lookup a with
  | some o =>
    -- the script is one of the module's own objects
    have e := KX a o hk
    rw [ha] at e
    cases e
    refine core (fun _ => none) (fun _ => .inl rfl) (.inr ⟨_, vs.toArray, _, hk, rfl, rfl, rfl, by rw [List.size_toArray, lenV]; exact hl, by simpa using rv⟩) (fun b u z => by have z' : (none : Option HO) = some u := z; cases z') (fun b z => absurd rfl z) fun z => absurd rfl z
  | none =>
    refine core (fun b => if b = a then some (.frz { cls := .type "list", data := .seq vs.toArray } (.lst (ns.map V.int))) else none) (fun b => ?_) (.inl (.inr ⟨{ cls := .type "list", data := .seq vs.toArray }, if_pos rfl⟩)) (fun b u z => ?_) (fun b z => ?_) fun _ => hk
    · by_cases hb : b = a
      · exact .inr ⟨_, _, if_pos hb⟩
      · exact .inl (if_neg hb)
    · by_cases hb : b = a
      · have z' := (if_pos hb).symm.trans z
        cases z'
        subst hb
        exact ⟨ha, by rw [List.length_map]; exact hl, vs, _, rv, ha⟩
      · have z' := (if_neg hb).symm.trans z
        cases z'
    · by_cases hb : b = a
      · exact hb
      · exact absurd (if_neg hb) z
end L2
namespace L2
open PySem PySem.Spec PyProof.Rows
theorem walk_of {l : PySem.W.OpenLaw} {n k : Nat} {q : Program} {loose : List Str} {XP : (Str → Option Value) → Heap → Prop} {YP : World → Heap → Prop} {d : DefRec} {K : Params → PySem.W.Frag} {CX : World → CXT} {sp : World → Sp} {x : Str}
    (hn : l.most = some n) (hn2 : n ≤ sizeLine) (hdf : d.params.defaults = []) (hr : Room k callerA)
    (hY : ∀ (w : World) (h : Heap), YP w h → (K w.params).In h)
    (F : ∀ (w : World) (mg : Str → Option Value) (fa : Addr) (h : Heap), (K w.params).In h → h.Ns mainGlobals mg → mg d.name = some (.ref fa) →
      ∃ fd : FuncData, (∀ (s : Shared) (u : Value), BindsTo s fd ⟨[u], []⟩ [(x, u)]) ∧
        ∀ base : Heap, (K w.params).In base → base.Ns mainGlobals mg → FnOk l.prog w (K w.params) mg base (CX w) k fa fd [x] (sp w))
    (hsp : ∀ (w : World) (H : Hp) (a : Addr) (ns : List Int), ns.length ≤ n → Only H → SqL (K w.params) H a (ns.map V.int) → sp w [.ref a] H (fun v _ => v = .bl true) fun _ _ _ => False)
    (hCX : ∀ (w : World) (H : Hp) (s : Shared) (e : Value) (s' : Shared), CX w [] H s (fun _ _ _ => False) e s' → False) :
    PySem.W.WalkO q loose XP YP l.row.toRowW d [] (fun f vs => PySem.call f vs) := by
  refine Att.attach_call hn hdf fun w s₀ s₁ mg mb fa o pm cd doc a vs ns G Y ho hd hcd hmg hobj hints hlen hg => ?_
  have KX := hY w _ Y
  obtain ⟨fd, hb, hF⟩ := F w mg fa _ KX G.T.g hmg
  exact law_call KX G.T.g G.T.b G.T.builtins G.T.nolimit hg hobj hints (Nat.le_trans hlen hn2) hr hF hb (fun H hO hS => hsp w H a ns hlen hO hS) fun H e s' => hCX w H s₁ e s'
end L2
/- THE LAST THEOREM (shape; LID, My.* are yours):
   My.Adr: a structure of the addresses that your layer names (classes, functions); My.Txt K t: a structure (Prop) of the equations over K;
   My.txt_mk : {K} {implicit addresses ..} (e1 : nsIn K mainGlobals "law" = some (some (.ref f))) (e2 : K.lookup f = some ⟨oc, od, .func (fnOf "law" "law" params body scope dV kV doc pm an cdv ct), sl⟩) (e3 : codeIn K cdv "law" = true) .. : ∃ t, My.Txt K t
set_option maxRecDepth 100000 in
set_option maxHeartbeats 0 in
theorem PySem.Challenge.cw_LID_holds : PySem.Challenge.rw_LID.Holds := by
  w_on; o_law; k_head; (case hw => w_witness2)
  k_fill
  refine L2.walk_of (l := PySem.Challenge.rw_LID) (n := 63) (k := 40) (x := "script") (CX := fun w => ..) (sp := fun _ => My.sp_law) rfl (by decide) rfl ⟨rfl, by decide, by decide⟩ (fun w h Y => PySem.W.kIn_of Y) ?F ?S ?C
  case F =>
    intro w mg fa h KX G hmg
    have T : ∃ t, My.Txt (L2.KOf KX) t := by
      dsimp only [L2.KOf]                          -- K must stand as «<heap const> w.params» for k_is
      refine' My.txt_mk ?e1 ?e2 ?e3 ..
      (case e1 => PySem.W.k_is)                    -- in the order: a name -> its address -> its object -> its parts
      (case e2 => PySem.W.k_is)
      ..
    obtain ⟨t, T⟩ := T
    have e0 := hmg.symm.trans (PySem.W.mg_of KX G T.law)
    cases e0                                       -- fa is the law's own address
    exact ⟨_, fun s u => .of_eq rfl, fun base kb nb => My.law_fn T kb nb⟩     -- if «.of_eq rfl» comes too early: refine' ⟨_, ?b, fun base kb nb => My.law_fn T kb nb⟩; exact fun s u => .of_eq rfl
  case S => exact fun w H a ns hl hO hS => ..
  case C => exact ..
(the tactic k_is has no namespace: write k_is) -/
namespace L2
open PySem PySem.Spec PyProof.Rows
def defArgs (s : Stmt) : Arguments := match s with
  | .FunctionDef _ a _ _ _ _ _ _ _ _ => a
  | _ => { posonlyargs := [], args := [], vararg := none, kwonlyargs := [], kw_defaults := [], kwarg := none, defaults := [] }
def defBody (s : Stmt) : List Stmt := match s with
  | .FunctionDef _ _ b _ _ _ _ _ _ _ => b
  | _ => []
def defScope (s : Stmt) : Scope := match s with
  | .FunctionDef _ _ _ _ _ _ sc _ _ _ => sc
  | _ => { kind := .function, names := [], isGenerator := false, isCoroutine := false }
abbrev CX0 : CXT := fun _ _ _ _ _ _ => False
abbrev E0 : XK := fun _ _ _ => False
theorem pass0 {X : Cx} : Passes CX0 X E0 := fun _ _ _ _ _ _ _ h => h.elim
structure Fun (K : PySem.W.Frag) (x qual : Str) (st : Stmt) (f : Addr) (fd : FuncData) : Prop where
  ex : ∃ (oc : Value) (od : Option Addr) (kV doc pm : Value) (an : Option Addr) (cdv ct : Value) (osl : Array (Option Value)),
    fd = PySem.W.fnOf x qual (defArgs st) (defBody st) (defScope st) .none kV doc pm an cdv ct ∧ K.lookup f = some ⟨oc, od, .func fd, osl⟩ ∧ PySem.W.codeIn K cdv qual = true
  kp : PySem.W.keepIn K (.ref f) = true
section
variable {P : Program} {w : World} {K : PySem.W.Frag} {mg : Str → Option Value} {base : Heap}
theorem Fun.ok {x qual : Str} {st : Stmt} {f : Addr} {fd : FuncData} {N ps : List Str} {k : Nat} {sp : Sp} (F : Fun K x qual st f fd) (S : FnScope N ps (defScope st)) (len : ∀ vs H Q E, sp vs H Q E → vs.length = ps.length)
    (hbody : ∀ (cdv : Value) (A : Around) (outer : List Env) (s : Shared) (H : Hp) (vs : List V) (Q : VK) (E : XK), Room k (A.deeper (envOfC qual (defScope st) s.heap.objs.size f cdv)) → sp vs H Q E →
      ∃ t, PSs (cxOf CX0 P w K mg base N qual (defScope st) f cdv A outer s H E).nox (defBody st) t ∧ t { nx := fun _ H' => Q .non H', rt := Q } (start N vs) H) : FnOk P w K mg base CX0 (k + 1) f fd ps sp := by
  obtain ⟨oc, od, kV, doc, pm, an, cdv, ct, osl, rfl, lk, hcd⟩ := F.ex
  refine fn_of lk hcd S len fun A outer s H vs Q E hr hsp => ?_
  obtain ⟨t, h, q⟩ := hbody cdv A outer s H vs Q E hr hsp
  exact ⟨t, h.nox, q⟩
theorem Fun.binds {x qual : Str} {st : Stmt} {f : Addr} {fd : FuncData} {ps : List Str} (F : Fun K x qual st f fd)
    (h : ∀ (kV doc pm : Value) (an : Option Addr) (cdv ct : Value) (us : List Value), us.length = ps.length → bindArgs (PySem.W.fnOf x qual (defArgs st) (defBody st) (defScope st) .none kV doc pm an cdv ct) ⟨us, []⟩ = pure (ps.zip us)) : Binds K fd ps [] := by
  obtain ⟨oc, od, kV, doc, pm, an, cdv, ct, osl, rfl, lk, hcd⟩ := F.ex
  exact .all (h kV doc pm an cdv ct)
theorem fun_mk {x qual : Str} {st : Stmt} {f : Addr} {oc : Value} {od an : Option Addr} {osl : Array (Option Value)} {kV doc pm cdv ct : Value} (l : K.lookup f = some ⟨oc, od, .func (PySem.W.fnOf x qual (defArgs st) (defBody st) (defScope st) .none kV doc pm an cdv ct), osl⟩)
    (c : PySem.W.codeIn K cdv qual = true) (k : PySem.W.keepIn K (.ref f) = true) : Fun K x qual st f (PySem.W.fnOf x qual (defArgs st) (defBody st) (defScope st) .none kV doc pm an cdv ct) := ⟨⟨oc, od, kV, doc, pm, an, cdv, ct, osl, rfl, l, c⟩, k⟩
end
section
variable {X : Cx}
theorem pv (i : Nat) {x : Str} {pos : Pos} (hN : X.N[i]? = some x := by rfl) (hv : Vis X.env.scope x := by first | exact Or.inl rfl | exact Or.inr (Or.inl rfl) | exact Or.inr (Or.inr rfl)) (hd : (x == ("__debug__" : Str)) = false := by decide)
    (hcd : (x == ("__classdict__" : Str)) = false := by decide) : PE X (.Name x pos) (tVar i) := pe_var hN hv hd hcd
end
theorem iteF {A B : Prop} (h : B) : if false = true then A else B := by
  rw [if_neg Bool.false_ne_true]
  exact h
theorem iteT {A B : Prop} (h : A) : if true = true then A else B := by
  rw [if_pos rfl]
  exact h
theorem ite2 {c A B : Prop} [Decidable c] (h1 : c → A) (h2 : ¬ c → B) : if c then A else B := by
  by_cases h : c
  · rw [if_pos h]
    exact h1 h
  · rw [if_neg h]
    exact h2 h
def Same (H H' : Hp) : Prop := ∀ b o, H b = some o → H' b = some o
theorem Same.refl (H : Hp) : Same H H := fun _ _ h => h
theorem Same.trans {H H1 H2 : Hp} (a : Same H H1) (b : Same H1 H2) : Same H H2 := fun c o h => b c o (a c o h)
theorem Same.free {H H' : Hp} (e : Same H H') {l : Addr} (h : H' l = Option.none) : H l = Option.none := by
  cases q : H l with
  | none => rfl
  | some o =>
    rw [e l o q] at h
    cases h
theorem Same.seq {K : PySem.W.Frag} {H H' : Hp} {a : Addr} {xs : List V} (e : Same H H') (h : SqL K H a xs) : SqL K H' a xs := by
  rcases h with (h | ⟨o, h⟩) | h
  · exact .inl (.inl (e _ _ h))
  · exact .inl (.inr ⟨o, e _ _ h⟩)
  · exact .inr h
end L2
namespace L2
open PySem PySem.Spec PyProof.Rows
theorem rel_look {env : Env} {y : Str} {k : NameKind} : ∀ {names : List (Str × NameKind)},
    (names.map fun (n, k) => if (k == NameKind.free && env.scope.kind == .function && env.kindOf n == some .cell) then (n, NameKind.cell) else (n, k)).lookup y = some k →
      ∃ k0, names.lookup y = some k0 ∧ (k = k0 ∨ (k0 = .free ∧ k = .cell))
  | [], h => by simp at h
  | (n, q) :: r, h => by
    have ih := @rel_look env y k r
    rw [List.map_cons] at h
    dsimp only at h
    cases hx : y == n with
    | true =>
      refine ⟨q, by simp [List.lookup_cons, hx], ?_⟩
      by_cases hc : (q == NameKind.free && env.scope.kind == .function && env.kindOf n == some .cell) = true
      · rw [if_pos hc] at h
        simp only [List.lookup_cons, hx] at h
        cases h
        have hq : (q == NameKind.free) = true := by
          cases e : q == NameKind.free with
          | true => rfl
          | false => rw [e] at hc; simp at hc
        exact .inr ⟨by simpa using hq, rfl⟩
      · rw [if_neg hc] at h
        simp only [List.lookup_cons, hx] at h
        cases h
        exact .inl rfl
    | false =>
      have h2 : (r.map fun (n, k) => if (k == NameKind.free && env.scope.kind == .function && env.kindOf n == some .cell) then (n, NameKind.cell) else (n, k)).lookup y = some k := by
        by_cases hc : (q == NameKind.free && env.scope.kind == .function && env.kindOf n == some .cell) = true
        · rw [if_pos hc] at h
          simpa only [List.lookup_cons, hx] using h
        · rw [if_neg hc] at h
          simpa only [List.lookup_cons, hx] using h
      obtain ⟨k0, e, r'⟩ := ih h2
      exact ⟨k0, by simpa only [List.lookup_cons, hx] using e, r'⟩
theorem clos_go {env : Env} : ∀ (names : List (Str × NameKind)) (acc : List (Str × Addr)), (∀ y ∈ names, y.2 = .free → ∃ c, env.cells.lookup y.1 = some c) → (∀ y c, acc.lookup y = some c → env.cells.lookup y = some c) →
    ∃ cl, (forIn names acc fun (x : Str × NameKind) (r : List (Str × Addr)) => (if (x.2 == NameKind.free) = true then (do let c ← cellOf env x.1; pure (ForInStep.yield ((x.1, c) :: r))) else pure (ForInStep.yield r) : Sem (ForInStep (List (Str × Addr))))) = (pure cl : Sem (List (Str × Addr))) ∧
      (∀ y c, cl.lookup y = some c → env.cells.lookup y = some c) ∧ (∀ y ∈ names, y.2 = .free → ∃ c, cl.lookup y.1 = some c) ∧ ∀ y c, acc.lookup y = some c → ∃ c', cl.lookup y = some c'
  | [], acc, _, ha => ⟨acc, rfl, ha, (fun y hy => absurd hy (by simp)), fun y c h => ⟨c, h⟩⟩
  | (n, k) :: r, acc, hn, ha => by
    by_cases hk : k = NameKind.free
    · obtain ⟨c, hc⟩ := hn (n, k) List.mem_cons_self hk
      have hacc : ∀ y d, ((n, c) :: acc).lookup y = some d → env.cells.lookup y = some d := fun y d e => by
        cases hx : y == n with
        | true =>
          simp only [List.lookup_cons, hx] at e
          cases e
          have : y = n := by simpa using hx
          rw [this]
          exact hc
        | false =>
          simp only [List.lookup_cons, hx] at e
          exact ha y d e
      obtain ⟨cl, e, h1, h2, h3⟩ := clos_go r ((n, c) :: acc) (fun y hy => hn y (List.mem_cons_of_mem _ hy)) hacc
      have hn3 : ∃ c', cl.lookup n = some c' := h3 n c (by simp)
      refine ⟨cl, ?_, h1, fun y hy hf => ?_, fun y d hd => ?_⟩
      · rw [List.forIn_cons]
        dsimp only
        rw [if_pos (by simp [hk])]
        have ec : cellOf env n = pure c := by
          unfold cellOf
          rw [hc]
        rw [ec]
        simp only [pure_bind]
        exact e
      · rcases List.mem_cons.mp hy with z | z
        · subst z
          exact hn3
        · exact h2 y z hf
      · cases hx : y == n with
        | true =>
          have : y = n := by simpa using hx
          rw [this]
          exact hn3
        | false => exact h3 y d (by simpa only [List.lookup_cons, hx] using hd)
    · obtain ⟨cl, e, h1, h2, h3⟩ := clos_go r acc (fun y hy => hn y (List.mem_cons_of_mem _ hy)) ha
      refine ⟨cl, ?_, h1, fun y hy hf => ?_, h3⟩
      · rw [List.forIn_cons]
        dsimp only
        rw [if_neg (by simpa using hk), pure_bind]
        exact e
      · rcases List.mem_cons.mp hy with z | z
        · subst z
          exact absurd hf hk
        · exact h2 y z hf
theorem clos_ok {env : Env} {scope : Scope} (hn : ∀ y ∈ scope.names, y.2 = .free → ∃ c, env.cells.lookup y.1 = some c) :
    ∃ cl, closureFor scope env = pure cl ∧ (∀ y c, cl.lookup y = some c → env.cells.lookup y = some c) ∧ ∀ y ∈ scope.names, y.2 = .free → ∃ c, cl.lookup y.1 = some c := by
  obtain ⟨cl, e, h1, h2, _⟩ := clos_go (env := env) scope.names [] hn (fun y c h => by simp at h)
  refine ⟨cl, ?_, h1, h2⟩
  unfold closureFor
  dsimp only
  have e2 : ∀ (f g : Str × NameKind → List (Str × Addr) → Sem (ForInStep (List (Str × Addr)))), (∀ x r, f x r = g x r) → (forIn scope.names [] f : Sem (List (Str × Addr))) = forIn scope.names [] g := fun f g h => by
    have : f = g := by funext x r; exact h x r
    rw [this]
  rw [e2 _ _ (fun x r => ?_), e]
  · rfl
  · obtain ⟨n, k⟩ := x
    dsimp only
theorem comp_loop_go {prog : Program} {w : World} {A : Around} {R : Result → Shared → Prop} {s : Shared} {elt target iter : Expr} {ifs : List Expr} {scope : Scope} {pos : Pos} {it acc : Value} {env : Env} (J : Nat → Shared → Prop)
    (turn : ∀ n s, J n s → wpAny (model prog w) A (pyNext it) (fun r s1 => match r with
      | none => R (.ok .next) s1
      | some v => wpAny (model prog w) A (letOwnedTupleGo target it v) (fun _ s1' => wpAny (model prog w) A (assign target env v) (fun _ s2 =>
          wpAny (model prog w) A (forIn ifs true fun c r => if r = true then do let ok ← isTrue c env (eval c env); pure (ForInStep.yield ok) else pure (ForInStep.yield r)) (fun ok s3 =>
            if ok = true then wpAny (model prog w) A (eval elt env) (fun x s4 =>
              wpAny (model prog w) A (call (.builtin "list.append") [acc, x]) (fun _ s5 => ∃ m, m < n ∧ J m s5) (fun _ _ => False) s4) (fun _ _ => False) s3
            else ∃ m, m < n ∧ J m s3) (fun _ _ => False) s2) (fun _ _ => False) s1') (fun _ _ => False) s1) (fun _ _ => False) s)
    (n : Nat) (h : J n s) : codeAny (model prog w) A (.compLoop (.ListComp elt [⟨target, iter, ifs, 0⟩] scope pos) 0 it acc env) R s := by
  have no : ∀ {E : Value → Shared → Prop} (e : Value) (s : Shared), (fun (_ : Value) (_ : Shared) => False) e s → E e s := fun _ _ f => f.elim
  refine codeAny_loop rfl J (fun n s hJ => ?_) n h
  show wpAny _ A ((compTurn (.ListComp elt [⟨target, iter, ifs, 0⟩] scope pos) 0 it acc env).onRaise _) _ _ s
  refine wpAny_noted ?_
  rw [compTurn_list]
  refine wpAny_bind (wpAny_standAt (wpAny_bind (wpAny_mono (turn n s hJ) (fun r s1 h1 => ?_) no)))
  cases r with
  | none => exact wpAny_pure h1
  | some v =>
    refine wpAny_bind (wpAny_mono h1 (fun _ s1' h1' => wpAny_bind (wpAny_mono h1' (fun _ s2 h2 => wpAny_bind (wpAny_mono h2 (fun ok s3 h3 => ?_) no)) no)) no)
    cases ok with
    | false => exact wpAny_pure ⟨rfl, h3⟩
    | true => exact wpAny_bind (wpAny_bind (wpAny_mono h3 (fun x s4 h4 => wpAny_bind (wpAny_mono h4 (fun _ s5 h5 => wpAny_pure (wpAny_pure ⟨rfl, h5⟩)) no)) no))
abbrev Cx.comp (X : Cx) (x : Str) (scope : Scope) (cl : List (Str × Addr)) (C : Addr) (fp : List Addr) (s : Shared) (H : Hp) : Cx :=
  { X with N := x :: X.N, s₀ := s, H₀ := H, env := compEnvC scope cl C X.env, outer := X.stack, ex := fp, fn := fun _ => false, pn := [], xe := fun _ _ => False }
def capOk (scope : Scope) (env : Env) (y : Str) : Bool := match scope.names.lookup y with
  | none => true
  | some .free => env.kindOf y == some .cell || env.kindOf y == some .free
  | some _ => false
structure CompSc (X : Cx) (x : Str) (scope : Scope) : Prop where
  kind : scope.kind = .function
  cell : ∀ y ∈ scope.names, y.2 ≠ .cell
  names : ∀ y ∈ scope.names, y.2 = .local → scope.names.lookup y.1 = some .local
  hx : scope.names.lookup x = some .local
  free : ∀ y ∈ scope.names, y.2 = .free → X.env.kindOf y.1 = some .cell ∨ X.env.kindOf y.1 = some .free
  cap : ∀ y ∈ X.N, capOk scope X.env y = true
  nd : (x :: X.N).Nodup
theorem free_mem {scope : Scope} {y : Str} (h : scope.names.lookup y = some .free) : (y, NameKind.free) ∈ scope.names := PySem.mem_of_lookup h
theorem comp_inv {X : Cx} {x : Str} {scope : Scope} {cl : List (Str × Addr)} {fp : List Addr} {pins : List (Addr × Obj)} {σ : St} {H : Hp} {s : Shared} {h' : Heap} {tk : Nat} {m : Str → Option Value} (S : CompSc X x scope) (I : Inv X pins σ H s)
    (hns : h'.Ns s.heap.objs.size m) (hk : ∀ b o, s.heap.get? b = some o → h'.get? b = some o) (hf : ∀ b ∈ fp, FpOk X pins H b) (ho : ∀ b ∈ fp, ∃ o, s.heap.get? b = some o)
    (hsub : ∀ y c, cl.lookup y = some c → X.env.cells.lookup y = some c) (hall : ∀ y ∈ scope.names, y.2 = .free → ∃ c, cl.lookup y.1 = some c) :
    Inv (X.comp x scope cl s.heap.objs.size fp s H) (X.pn ++ pins) (none :: σ) H { s with heap := h', toks := tk } := by
  refine ⟨⟨I.ok.mod, S.kind, I.ok.glob, I.ok.blt, Nat.le_refl _, fun y z c h1 h2 => I.ok.inj y z c (hsub y c h1) (hsub z c h2), fun y hy => ?_, fun y c hfn => absurd hfn Bool.false_ne_true, I.ok.hd, I.ok.frames, .inl rfl, fun b hb => ⟨?_, fun y c e => (hf b hb).2.2.2.2.1 y c (hsub y c e)⟩,
    I.bs, Nat.le_trans I.ok.bsz I.sz, fun b o e hb => ?_, fun b hb hs => ?_, I.stack, I.stkFree⟩, rfl, I.bare, Un.kept hk, ⟨m, hns, fun i y v e1 e2 e3 => ?_⟩, fun y c e => ?_, I.fresh, fun y c e => I.freeC y c (hsub y c e), fun p hp => ?_, I.hok.kept hk, ?_⟩
  · have hy' : ∃ k, (k = NameKind.cell ∨ k = NameKind.free) ∧ (relabel scope X.env).names.lookup y = some k := by
      rcases hy with z | z
      · exact ⟨_, .inl rfl, z⟩
      · exact ⟨_, .inr rfl, z⟩
    obtain ⟨k, hk', e⟩ := hy'
    obtain ⟨k0, e0, r⟩ := rel_look e
    have kf : k0 = .free := by
      rcases r with r | r
      · subst r
        rcases hk' with z | z
        · subst z
          exact absurd rfl (S.cell _ (PySem.mem_of_lookup e0))
        · exact z
      · exact r.1
    subst kf
    exact hall (y, .free) (free_mem e0) rfl
  · obtain ⟨o, e⟩ := ho b hb
    exact Nat.ne_of_lt (Heap.lt_size e)
  · rcases (hf b hb).2.2.2.1 with z | z
    · exact I.ok.noex b o e z
    · exact absurd (Nat.lt_of_lt_of_le (Heap.lt_size e) (Nat.le_trans I.ok.bsz z)) (Nat.lt_irrefl _)
  · rcases List.mem_cons.mp (I.stkSub b hs) with z | z
    · exact (hf b hb).2.1 z
    · exact (hf b hb).2.2.1 z
  · cases i with
    | zero => simp at e2
    | succ i =>
      have e1' : X.N[i]? = some y := by simpa using e1
      have e2' : σ[i]? = some (some v) := by simpa using e2
      have hc := S.cap y (List.mem_of_getElem? e1')
      have hvis : ∃ k, (relabel scope X.env).names.lookup y = some k := by
        rcases e3 with z | z | z
        · exact ⟨_, z⟩
        · exact ⟨_, z⟩
        · exact ⟨_, z⟩
      obtain ⟨k, ek⟩ := hvis
      obtain ⟨k0, e0, r⟩ := rel_look ek
      unfold capOk at hc
      rw [e0] at hc
      have kf : k0 = .free := by cases k0 <;> simp_all
      subst kf
      have hkk : X.env.kindOf y = some .cell ∨ X.env.kindOf y = some .free := by simpa using hc
      obtain ⟨m0, hn0, hl0⟩ := I.loc
      obtain ⟨u, ru, l⟩ := hl0 i y v e1' e2' (.inr hkk)
      refine ⟨u, ru, .inr ?_⟩
      obtain ⟨c', hc'⟩ := hall (y, .free) (free_mem e0) rfl
      rcases l with ⟨z, _⟩ | ⟨_, c, ec, ⟨o, ho', hd'⟩⟩
      · rcases hkk with q | q <;> rw [z] at q <;> cases q
      · have e4 := hsub y c' hc'
        rw [ec] at e4
        have e5 : c = c' := Option.some.inj e4
        subst e5
        refine ⟨?_, c, hc', o, hk _ _ ho', hd'⟩
        rcases r with r | r
        · subst r
          exact .inr ek
        · obtain ⟨_, r⟩ := r
          subst r
          exact .inl ek
  · obtain ⟨v, o, ho', hd'⟩ := I.cell y c (hsub y c e)
    exact ⟨v, o, hk _ _ ho', hd'⟩
  · have hp' : p ∈ X.pn ++ pins := by simpa using hp
    obtain ⟨e, n, ne, nf, d⟩ := I.pin p hp'
    refine ⟨hk _ _ e, n, Nat.ne_of_lt (Heap.lt_size e), fun z => ?_, d⟩
    rcases List.mem_cons.mp (I.stkSub p.1 z) with q | q
    · exact ne q
    · exact nf q
  · show σ.length + 1 = X.N.length + 1
    rw [I.len]
def PTs (X : Cx) (ifs : List Expr) (t : TT) : Prop :=
  ∀ (pins : List (Addr × Obj)) (s : Shared) (σ : St) (H : Hp) (Q : Bool → Hp → Prop), Inv X pins σ H s → t σ H Q →
    wpAny (model X.prog X.w) X.A (forIn ifs true fun c r => if r = true then do let ok ← isTrue c X.env (eval c X.env); pure (ForInStep.yield ok) else pure (ForInStep.yield r)) (TP X pins σ Q) X.xe s
def ttAll : TT := fun _ H Q => Q true H
theorem pts_nil {X : Cx} : PTs X [] ttAll := fun pins s σ H Q I h => by
  rw [List.forIn_nil]
  exact wpAny_pure ⟨H, I, h⟩
def CompGo (J : It) (H1 : Hp) (σ : St) (tt : TT) (te : TE) (Q : VK) : Prop := ∀ D, H1 D = none → ∃ W : Nat → Nat → Hp → Prop, (∃ m, W 0 m (upd H1 D (.lst []))) ∧ ∀ i m H, W i m H →
  (J.stop i H ∧ Q (.ref D) H) ∨ (J.go i H ∧ ∀ x H', J.yld i H x H' → tt (some x :: σ) H' fun b H2 => if b = true then te (some x :: σ) H2 fun y H3 => ∃ ys, H3 D = some (.lst ys) ∧ ys.length < sizeLine ∧ ∃ m', m' < m ∧ W (i + 1) m' (upd H3 D (.lst (ys ++ [y])))
    else ∃ m', m' < m ∧ W (i + 1) m' H2)
def tComp (wi : TI) (tt : TT) (te : TE) : TE := fun σ H Q => wi σ H fun J H1 => CompGo J H1 σ tt te Q
section
variable {X : Cx} {x : Str} {px pos : Pos} {elt iter : Expr} {ifs : List Expr} {scope : Scope} {wi : TI} {tt : TT} {te : TE}
theorem comp_core {pins : List (Addr × Obj)} {σ : St} {H2 : Hp} {s2 : Shared} {it : Addr} {fp : List Addr} {tn : Nat → Heap → Prop} {J : It} {Q : VK} {cl : List (Str × Addr)} {E : Value → Shared → Prop} {RR : Value → Addr → Result → Shared → Prop}
    (S : CompSc X x scope) (hcal : X.calm = true) (hclos : (∀ y c, cl.lookup y = some c → X.env.cells.lookup y = some c) ∧ ∀ y ∈ scope.names, y.2 = .free → ∃ c, cl.lookup y.1 = some c)
    (ht : ∀ cl C fp s H, PTs (X.comp x scope cl C fp s H) ifs tt) (he : ∀ cl C fp s H, PE (X.comp x scope cl C fp s H) elt te)
    (I2 : Inv X pins σ H2 s2) (T : Turn X.prog X.w X.K (.Name x px) J fp it tn) (st2 : tn 0 s2.heap) (f2 : ∀ b ∈ fp, FpOk X pins H2 b)
    (q : CompGo J H2 σ tt te Q)
    (hRR : ∀ D C s' H' m', Inv X pins σ H' s' → s'.heap.Ns C m' → FpOk X pins H' C → Q (.ref D) H' → RR (.ref D) C (.ok .next) s') :
    wpAny (model X.prog X.w) X.A (newList []) (fun acc s3 => wpAny (model X.prog X.w) X.A (newFunctionEnv scope X.env.globals cl [] X.env.qual none .none (some X.env)) (fun cenv s4 =>
      codeAny (model X.prog X.w) X.A (.compStart (.ListComp elt [⟨.Name x px, iter, ifs, 0⟩] scope pos) 0 (.ref it) acc { cenv with scope := relabel scope X.env }) (RR acc cenv.locals) s4) E s3) E s2 := by
  obtain ⟨hsub, hall⟩ := hclos
  refine wpAny_newObj_type (wpAny_newFunctionEnv S.cell (by intro y hy; simp at hy) (fun h1 hns hsb => ?_) S.kind)
  have I3 : Inv X pins σ (upd H2 s2.heap.objs.size (.lst [])) { s2 with heap := s2.heap.push { cls := .type "list", data := .seq ([] : List Value).toArray } } := I2.lnew (t' := s2.toks) .nil (by simp)
  have hD : H2 s2.heap.objs.size = none := I2.fresh
  obtain ⟨W, ⟨m0, w0⟩, turn⟩ := q _ hD
  generalize hs3 : ({ s2 with heap := s2.heap.push { cls := .type "list", data := .seq ([] : List Value).toArray } } : Shared) = s3 at I3
  have hs3' : ({ s2 with heap := s2.heap.push { cls := .type "list", dict := none, data := .seq ([] : List Value).toArray } } : Shared) = s3 := hs3
  dsimp only at hns hsb ⊢
  generalize hDD : s2.heap.objs.size = D at *
  have eh : s2.heap.push { cls := .type "list", dict := none, data := .seq ([] : List Value).toArray } = s3.heap := by rw [← hs3]
  rw [eh] at hns hsb
  have keep : ∀ b o, s3.heap.get? b = some o → h1.get? b = some o := fun b o e => hsb.extBut b o (Nat.ne_of_lt (Heap.lt_size e)) (Heap.get?_push_of_some _ e)
  have objs : ∀ b ∈ fp, ∃ o, s3.heap.get? b = some o := fun b hb => by
    obtain ⟨o, e, _⟩ := T.obj _ _ st2 b hb
    rw [← eh]
    exact ⟨o, Heap.get?_push_of_some _ e⟩
  have f3 : ∀ b ∈ fp, FpOk X pins (upd H2 D (.lst [])) b := fun b hb => by
    obtain ⟨o, e, _⟩ := T.obj _ _ st2 b hb
    have ne : b ≠ D := by rw [← hDD]; exact Nat.ne_of_lt (Heap.lt_size e)
    exact ⟨by rw [upd_ne ne]; exact (f2 b hb).1, (f2 b hb).2⟩
  have I4 : Inv (X.comp x scope cl s3.heap.objs.size fp s3 (upd H2 D (.lst []))) (X.pn ++ pins) (none :: σ) (upd H2 D (.lst [])) { s3 with heap := h1, toks := s3.toks + ([] : List (Str × Value)).length } := comp_inv S I3 hns keep f3 objs hsub hall
  have st4 : tn 0 h1 := T.keep _ _ _ st2 fun b hb o e => keep b o (by rw [← eh]; exact Heap.get?_push_of_some _ e)
  -- what stays true of the iterator's objects
  have stat : ∀ {H' : Hp}, (∀ b ∈ fp, H' b = none) → ∀ b ∈ fp, FpOk (X.comp x scope cl s3.heap.objs.size fp s3 (upd H2 D (.lst []))) (X.pn ++ pins) H' b := fun hn b hb => by
    refine ⟨hn b hb, (I4.ok.exf b hb).1, I4.ok.exfs b hb, .inl hb, (I4.ok.exf b hb).2, fun p hp => (f3 b hb).2.2.2.2.2 p (by simpa using hp)⟩
  have loop : codeAny (model X.prog X.w) X.A (.compLoop (.ListComp elt [⟨.Name x px, iter, ifs, 0⟩] scope pos) 0 (.ref it) (.ref D) (compEnvC scope cl s3.heap.objs.size X.env)) (RR (.ref D) s3.heap.objs.size) { s3 with heap := h1, toks := s3.toks + ([] : List (Str × Value)).length } := by
    refine comp_loop_go (fun n s' => ∃ i o H', Inv (X.comp x scope cl s3.heap.objs.size fp s3 (upd H2 D (.lst []))) (X.pn ++ pins) (o :: σ) H' s' ∧ tn i s'.heap ∧ (∀ b ∈ fp, H' b = none) ∧ W i n H') ?_ m0
      ⟨0, none, _, I4, st4, fun b hb => (f3 b hb).1, w0⟩
    rintro n s5 ⟨i, o, H5, I5, st5, fr5, w5⟩
    rcases turn i n H5 w5 with ⟨stop, qn⟩ | ⟨go, step⟩
    · refine thn (T.done (X.comp x scope cl s3.heap.objs.size fp s3 (upd H2 D (.lst []))) rfl rfl rfl hcal i _ s5 _ H5 _ I5 (stat fr5) st5 stop) fun r s6 ⟨hr, I6⟩ => ?_
      subst hr
      obtain ⟨m6, hn6, _⟩ := I6.loc
      have I7 : Inv X pins σ H5 s6 := I3.call' (ch := fp) I6.os I6.base I6.hok I6.bare fun b hb => ⟨(f3 b hb).2.2.2.1, (f3 b hb).2.1, (f3 b hb).2.2.2.2.1, (f3 b hb).2.2.2.2.2⟩
      exact hRR D s3.heap.objs.size s6 H5 m6 I7 hn6 (I3.fpOk (Nat.le_refl _) I6.free) qn
    · refine thn (T.item (X.comp x scope cl s3.heap.objs.size fp s3 (upd H2 D (.lst []))) rfl rfl rfl hcal i _ s5 _ H5 _ I5 (stat fr5) st5 go) fun r s6 ⟨u, hr, h6⟩ => ?_
      subst hr
      refine thn h6 fun _ s7 ⟨y, H7, I7, r7, y7, st7, fr7⟩ => ?_
      have I7' := I7.pinned (stat fr7) (T.obj _ _ st7)
      have hxl : (relabel scope X.env).names.lookup x = some .local := lookup_relabel_local S.hx
      refine thn (pg_name (X := X.comp x scope cl s3.heap.objs.size fp s3 (upd H2 D (.lst []))) (i := 0) S.nd rfl (.inl hxl) (.inr hxl) _ s7 (o :: σ) H7 y u (fun σ' H' => σ' = some y :: σ ∧ H' = H7) I7' r7 ⟨rfl, rfl⟩) fun _ s8 ⟨σ8, H8, I8, e8, e8'⟩ => ?_
      subst e8 e8'
      refine thn (ht _ _ _ _ _ _ s8 _ H8 _ I8 (step y H8 y7)) fun ok s9 ⟨H9, I9, q9⟩ => ?_
      have back : ∀ {H' : Hp} {s' : Shared} {m' : Nat}, Inv (X.comp x scope cl s3.heap.objs.size fp s3 (upd H2 D (.lst []))) (X.pn ++ pins ++ pinsAt fp s7.heap) (some y :: σ) H' s' → m' < n → W (i + 1) m' H' →
          ∃ m, m < n ∧ ∃ i o H', Inv (X.comp x scope cl s3.heap.objs.size fp s3 (upd H2 D (.lst []))) (X.pn ++ pins) (o :: σ) H' s' ∧ tn i s'.heap ∧ (∀ b ∈ fp, H' b = none) ∧ W i m H' := fun {H' s' m'} I' hm w' => by
        have pin : ∀ b o, b ∈ fp → s7.heap.get? b = some o → s'.heap.get? b = some o ∧ H' b = none := fun b o hb e => by
          have z := I'.pin (b, o) (List.mem_append_right _ (List.mem_append_right _ (mem_pinsAt hb e)))
          exact ⟨z.1, z.2.1⟩
        refine ⟨m', hm, i + 1, some y, H', I'.unpinned, T.keep _ _ _ st7 fun b hb o e => (pin b o hb e).1, fun b hb => ?_, w'⟩
        obtain ⟨o', e, _⟩ := T.obj _ _ st7 b hb
        exact (pin b o' hb e).2
      cases ok with
      | false =>
        rw [if_neg Bool.false_ne_true] at q9 ⊢
        obtain ⟨m', hm, w'⟩ := q9
        exact back I9 hm w'
      | true =>
        rw [if_pos rfl] at q9 ⊢
        refine thn (he _ _ _ _ _ _ s9 _ H9 _ I9 q9) fun v s10 ⟨z, H10, I10, r10, q10⟩ => ?_
        obtain ⟨ys, e10, l10, m', hm, w'⟩ := q10
        refine thn (mt_append _ s10 _ H10 (.ref D) [z] (.ref D) [v] (fun _ H' => H' = upd H10 D (.lst (ys ++ [z]))) I10 rfl (.cons r10 .nil) ⟨D, ys, z, rfl, rfl, e10, l10, rfl⟩) fun _ s11 ⟨_, H11, I11, _, e11⟩ => ?_
        subst e11
        exact back I11 hm w'
  exact codeAny_compStart_list loop (T.self _ 0 _ _ _ st4 loop)
theorem pe_comp (S : CompSc X x scope) (hcal : X.calm = true) (hi : PI X (.Name x px) iter wi) (ht : ∀ cl C fp s H, PTs (X.comp x scope cl C fp s H) ifs tt) (he : ∀ cl C fp s H, PE (X.comp x scope cl C fp s H) elt te)
    (hs : ∀ x, foldedSetIterable iter X.env x = pure x := by intro _; rfl) : PE X (.ListComp elt [⟨.Name x px, iter, ifs, 0⟩] scope pos) (tComp wi tt te) := by
  intro pins s σ H Q I h
  obtain ⟨cl, hcl, hc⟩ := clos_ok (env := X.env) (scope := scope) fun y hy hf => I.ok.has y.1 (S.free y hy hf)
  rw [eval_ListComp]
  refine wpAny_comprehension_free (use := none) rfl hs hcl S.kind S.names (thn (hi pins s σ H _ I h) fun xv s1 h1 => thn h1 fun itv s2 h2 => ?_)
  obtain ⟨it, fp, tn, J, H2, e, I2, T, st2, f2, q⟩ := h2
  subst e
  refine comp_core (RR := fun acc C => compPost (model X.prog X.w) X.A X.xe none (EP X pins σ Q) acc C) S hcal hc ht he I2 T st2 f2 q ?_
  intro D C s' H' m' I' hn F' hq
  exact ⟨m', hn, fun h' sb => ⟨.ref D, H', I'.turned (t' := s'.toks) (fun b o hb e => (sb.2 b hb).trans e) F'.1 F'.2.1 F'.2.2.2.1 F'.2.2.2.2.1 F'.2.2.2.2.2, rfl, hq⟩⟩
theorem ps_setComp {i : Nat} {y : Str} {py spos : Pos} (S : CompSc X x scope) (hcal : X.calm = true) (hN : X.N.Nodup) (hiN : X.N[i]? = some y) (hy : Loc X.env.scope y) (hi : PI X (.Name x px) iter wi) (ht : ∀ cl C fp s H, PTs (X.comp x scope cl C fp s H) ifs tt)
    (he : ∀ cl C fp s H, PE (X.comp x scope cl C fp s H) elt te) (hsw : swapsWith (.ListComp elt [⟨.Name x px, iter, ifs, 0⟩] scope pos) (some (.Name y py)) spos.line X.env = pure true)
    (hs : ∀ x, foldedSetIterable iter X.env x = pure x := by intro _; rfl) (hf : X.fn y = true ∨ X.env.scope.names.lookup y = some .local := by first | exact .inl rfl | exact .inr rfl | assumption) :
    PS X (.Assign [.Name y py] (.ListComp elt [⟨.Name x px, iter, ifs, 0⟩] scope pos) spos) (tAsg (tComp wi tt te) (gName i)) := by
  intro pins s σ H D0 I h
  obtain ⟨cl, hcl, hc⟩ := clos_ok (env := X.env) (scope := scope) fun y hy hf => I.ok.has y.1 (S.free y hy hf)
  rw [exec_Assign_Name_used _ _ _ _ hsw]
  refine wpAny_bind (wpAny_standAt (wpAny_bind ?_))
  show wpAny _ _ (do let _ ← comprehension (.ListComp elt [⟨.Name x px, iter, ifs, 0⟩] scope pos) scope X.env _ (newList []) false (eval iter X.env) (some (assign (.Name y py) X.env))) _ _ s
  refine wpAny_bind (thn (wpAny_comprehension_free (use := some (assign (.Name y py) X.env)) (Q := fun _ s' => SP X pins D0 .next s') rfl hs hcl S.kind S.names (thn (hi pins s σ H _ I h) fun xv s1 h1 => thn h1 fun itv s2 h2 => ?_)) fun _ s' hq => wpAny_pure (wpAny_pure hq))
  obtain ⟨it, fp, tn, J, H2, e, I2, T, st2, f2, q⟩ := h2
  subst e
  refine comp_core (Q := fun v H => D0.nx (σ.set i (some v)) H) (RR := fun acc C => compPost (model X.prog X.w) X.A X.xe (some (assign (.Name y py) X.env)) (fun _ s' => SP X pins D0 .next s') acc C) S hcal hc ht he I2 T st2 f2 q ?_
  intro D C s' H' m' I' hn F' hq
  show wpAny _ _ (assign (.Name y py) X.env (.ref D)) _ _ s'
  refine wpAny_assign_Name (store_ok2 (v := .ref D) I' hN hiN hy rfl (fun s'' I'' ch => ?_) hf)
  obtain ⟨a, sb, ha⟩ := ch
  have ne : C ≠ a := by
    rcases ha with z | z
    · rw [z]; exact F'.2.1
    · exact Ne.symm (F'.2.2.2.2.1 y a z)
  refine ⟨m', hn.sameBut sb ne, fun h' sb' => ⟨_, H', I''.turned (t' := s''.toks) (fun b o hb e => (sb'.2 b hb).trans e) F'.1 F'.2.1 F'.2.2.2.1 F'.2.2.2.2.1 F'.2.2.2.2.2, hq⟩⟩
end
end L2
namespace L2
open PySem PySem.Spec PyProof.Rows
open AutoSeq1 (wpAny_loadPart')
section
variable {prog : Program} {w : World} {A : Around} {E : Value → Shared → Prop} {s : Shared}
theorem nx_tup {it t : Addr} {i : Nat} {its : Array Value} {x : Value} {Q : Value → Shared → Prop} (hit : s.heap.IsTupleIter it t i) (ht : s.heap.IsTuple t its) (hx : its[i]? = some x)
    (hQ : ∀ h', h'.IsTupleIter it t (i + 1) → Heap.SameBut it s.heap h' → Q x { s with heap := h' }) : wpAny (model prog w) A (Builtin.SmallTypes.nextOf (.ref it)) Q E s := by
  obtain ⟨o, ho, hc, hd⟩ := id hit
  obtain ⟨ol, hol, _, nl, hdl⟩ := ht
  unfold Builtin.SmallTypes.nextOf
  refine wpAny_bind (wpAny_callSpecial?_slot (name := Str.ofString "__next__") hit.typeIs F.slot_tuple_iterator_next (wpAny_call_entry F.slot_tuple_iterator_next hit.typeIs F.entry_tuple_iterator_next ?_ (F.args_tuple_iterator_next_1 _)))
  (show wpAny _ _ (field (.ref it) 0 >>= _) _ _ s); refine wpAny_bind (wpAny_field ho hd (x := .ref t) rfl ?_)
  (show wpAny _ _ (if (Value.ref t == Value.none) = true then _ else _) _ _ s); rw [if_neg (show ¬ ((Value.ref t == Value.none) = true) from Bool.false_ne_true)]
  (show wpAny _ _ (field (.ref it) 1 >>= _) _ _ s); refine wpAny_bind (wpAny_field ho hd (x := .int i 0) rfl ?_)
  (show wpAny _ _ (seqItems? (.ref t) >>= _) _ _ s); refine wpAny_bind (wpAny_seqItems hol hdl ?_)
  simp only [Int.toNat_natCast, hx]
  refine wpAny_bind (wpAny_setField ho hd (by simp) (wpAny_pure ⟨x, rfl, wpAny_pure (hQ _ ⟨_, Heap.get?_update_self _ ho (Obj.isFreed_of_fields (Obj.data_mapFields hd _)), (Obj.cls_mapFields ..).trans hc, by rw [Obj.data_mapFields hd]; simp [rawInt]⟩ (Heap.SameBut.update ..))⟩))
theorem nx_tup_end {it t : Addr} {i : Nat} {its : Array Value} {Q : Value → Shared → Prop} (hh : A.handled = none) (hit : s.heap.IsTupleIter it t i) (ht : s.heap.IsTuple t its) (hx : its[i]? = none)
    (hE : ∀ h' e, Heap.ExtBut it s.heap h' → (∃ o, h'.get? e = some o ∧ o.cls = .type "StopIteration") → E (.ref e) { s with heap := h' }) : wpAny (model prog w) A (Builtin.SmallTypes.nextOf (.ref it)) Q E s := by
  obtain ⟨o, ho, hc, hd⟩ := id hit
  obtain ⟨ol, hol, _, nl, hdl⟩ := ht
  unfold Builtin.SmallTypes.nextOf
  refine wpAny_bind (wpAny_callSpecial?_slot (name := Str.ofString "__next__") hit.typeIs F.slot_tuple_iterator_next (wpAny_call_entry F.slot_tuple_iterator_next hit.typeIs F.entry_tuple_iterator_next ?_ (F.args_tuple_iterator_next_1 _)))
  (show wpAny _ _ (field (.ref it) 0 >>= _) _ _ s); refine wpAny_bind (wpAny_field ho hd (x := .ref t) rfl ?_)
  (show wpAny _ _ (if (Value.ref t == Value.none) = true then _ else _) _ _ s); rw [if_neg (show ¬ ((Value.ref t == Value.none) = true) from Bool.false_ne_true)]
  (show wpAny _ _ (field (.ref it) 1 >>= _) _ _ s); refine wpAny_bind (wpAny_field ho hd (x := .int i 0) rfl ?_)
  (show wpAny _ _ (seqItems? (.ref t) >>= _) _ _ s); refine wpAny_bind (wpAny_seqItems hol hdl ?_)
  simp only [Int.toNat_natCast, hx]
  refine wpAny_bind (wpAny_rule (wpAny_bind (wpAny_setField ho hd (by simp) ?_)))
  (show wpAny _ _ (newExc (.type "StopIteration") [] >>= _) _ _ _); refine wpAny_bind ?_
  simp only [newExc, newTuple]
  refine wpAny_bind (wpAny_newObj_type ?_ (by size_fits))
  refine wpAny_bind (m := firstArgMember _ _) (wpAny_of_eq (a := Value.none) (by first | rfl | (simp only [firstArgMember]; rfl)) (wpAny_newObj_type ?_ (by size_fits)))
  simp only [raiseNew]
  refine wpAny_bind (wpAny_handled ?_)
  first | rw [show A.in1.handled = none from hh] | rw [hh]
  exact wpAny_bind (wpAny_pure (wpAny_throw (hE _ _ (((Heap.SameBut.update ..).extBut.push _).push _) ⟨_, Heap.get?_push_size _ rfl, rfl⟩)))
end
theorem draws_tup {prog : Program} {w : World} {A : Around} (hh : A.handled = none) (it l : Addr) (hne : l ≠ it) (its : Array Value) :
    Draws prog w A it [it, l] its.size (fun i v => its[i]? = some v) (fun i h => h.IsTupleIter it l i ∧ h.IsTuple l its) where
  live := fun _ _ st => let ⟨o, ho, _⟩ := st.1; ⟨o, ho⟩
  frame := fun _ _ _ st hk => by
    obtain ⟨⟨o, e, r⟩, ⟨o', e', r'⟩⟩ := st
    exact ⟨⟨o, hk it (by simp) o e, r⟩, ⟨o', hk l (by simp) o' e', r'⟩⟩
  item := fun i s Q E hi st hQ => nx_tup st.1 st.2 (x := its[i]) (by simp [hi]) fun h' hit' hs' => by
    obtain ⟨o', e', r'⟩ := st.2
    exact hQ _ h' s.toks (by simp [hi]) ⟨hit', ⟨o', hs'.extBut l o' hne e', r'⟩⟩ hs'
  done := fun s Q E st hE => nx_tup_end hh st.1 st.2 (by simp) hE
section
variable {prog : Program} {w : World} {A : Around} {E : Value → Shared → Prop} {s : Shared}
theorem en_item {e it : Addr} {fp : List Addr} {n i : Nat} {k : Int} {P : Nat → Value → Prop} {St : Nat → Heap → Prop} {old : Value} {Q : Value → Shared → Prop}
    (D : Draws prog w A it fp n P St) (he : IsEnum s.heap e it k old) (hst : St i s.heap) (hlt : i < n) (hne : e ≠ it) (hef : e ∉ fp)
    (hQ : ∀ x h' tk, P i x → IsEnumOut h' e it (k + 1) x s.heap.objs.size → St (i + 1) h' → h'.get? s.heap.objs.size = some { cls := .type "tuple", data := .seq #[.int k tk, x] } →
      (∀ b o, b ≠ e → b ≠ it → s.heap.get? b = some o → h'.get? b = some o) → Q (.ref s.heap.objs.size) { s with heap := h', toks := tk + 1 }) :
    wpAny (model prog w) A (Builtin.«enumerate.__next__» ⟨[.ref e], []⟩) (fun fin s' => ∃ v, fin = .done (.ret v) ∧ Q v s') E s := by
  obtain ⟨hp, g, d, t0, os⟩ := s
  (show wpAny _ _ (field (.ref e) 2 >>= _) _ _ _); refine wpAny_bind (wpAny_field he rfl (x := .ref it) rfl ?_)
  refine wpAny_bind (D.item i _ _ _ hlt hst fun x g1 tk px c1 b1 => ?_)
  have b1 : Heap.SameBut it hp g1 := b1
  have e1 : IsEnum g1 e it k old := (b1.2 e hne).trans he
  (show wpAny _ _ (field (.ref e) 3 >>= _) _ _ ⟨g1, g, d, tk, os⟩); refine wpAny_bind (wpAny_field e1 rfl (x := rawInt k) rfl ?_)
  (show wpAny _ _ (field (.ref e) 4 >>= _) _ _ ⟨g1, g, d, tk, os⟩); refine wpAny_bind (wpAny_field e1 rfl (x := .none) rfl ?_)
  (show wpAny _ _ (mkInt k >>= _) _ _ ⟨g1, g, d, tk, os⟩); refine wpAny_bind (wpAny_mkInt ?_)
  (show wpAny _ _ (setField (.ref e) 3 (rawInt (k + 1)) >>= _) _ _ ⟨g1, g, d, tk + 1, os⟩); refine wpAny_bind (wpAny_setField_rec e1 (by simp) fun g2 e2 b2 => ?_)
  have b2 : Heap.SameBut e g1 g2 := b2
  have e2 : IsEnum g2 e it (k + 1) old := e2
  (show wpAny _ _ (setField (.ref e) 4 .none >>= _) _ _ ⟨g2, g, d, tk + 1, os⟩); refine wpAny_bind (wpAny_setField_rec e2 (by simp) fun g3 e3 b3 => ?_)
  have b3 : Heap.SameBut e g2 g3 := b3
  have e3 : IsEnum g3 e it (k + 1) old := e3
  (show wpAny _ _ (newTuple [.int k tk, x] >>= _) _ _ ⟨g3, g, d, tk + 1, os⟩); refine wpAny_bind (wpAny_newTuple ?_)
  have e4 : IsEnum (g3.push { cls := .type "tuple", data := .seq #[.int k tk, x] }) e it (k + 1) old := Heap.get?_push_of_some _ e3
  generalize hg4 : g3.push { cls := .type "tuple", data := .seq #[.int k tk, x] } = g4 at e4
  have z3 : g3.objs.size = hp.objs.size := by rw [b3.1, b2.1, b1.1]
  have le : e < hp.objs.size := Heap.lt_size he
  have t4 : g4.get? hp.objs.size = some { cls := .type "tuple", data := .seq #[.int k tk, x] } := by rw [← hg4, ← z3]; exact Heap.get?_push_size _ rfl
  have k4 : ∀ b o, b ≠ e → b ≠ it → hp.get? b = some o → g4.get? b = some o := fun b o hbe hbi hb => by
    rw [← hg4]
    exact Heap.get?_push_of_some _ (b3.extBut b o hbe (b2.extBut b o hbe (b1.extBut b o hbi hb)))
  have c4 : St (i + 1) g4 := D.frame _ _ _ c1 fun b hb o y => by
    have hbe : b ≠ e := fun q => hef (q ▸ hb)
    rw [← hg4]
    exact Heap.get?_push_of_some _ (b3.extBut b o hbe (b2.extBut b o hbe y))
  show wpAny _ _ (Builtin.SmallTypes.ownedTupleIsFree (.ref e) >>= _) _ _ ⟨g4, g, d, tk + 1, os⟩
  rw [z3]
  refine wpAny_bind ?_
  unfold Builtin.SmallTypes.ownedTupleIsFree
  refine wpAny_bind (wpAny_field e4 rfl (x := .none) rfl (wpAny_pure ?_))
  simp only [if_true]
  refine wpAny_bind (wpAny_rule (wpAny_bind (wpAny_field e4 rfl (x := old) rfl (wpAny_bind (wpAny_setField_rec e4 (by simp) fun g5 e5 b5 => ?_)))))
  have b5 : Heap.SameBut e g4 g5 := b5
  have e5 : IsEnum g5 e it (k + 1) x := e5
  (show wpAny _ _ (Builtin.SmallTypes.ownedTupleHandOut (.ref e) (.ref hp.objs.size) >>= _) _ _ ⟨g5, g, d, tk + 1, os⟩); refine wpAny_bind ?_
  unfold Builtin.SmallTypes.ownedTupleHandOut
  refine wpAny_bind (wpAny_setField_rec e5 (by simp) fun g6 e6 b6 => ?_)
  have b6 : Heap.SameBut e g5 g6 := b6
  have e6 : IsEnumOut g6 e it (k + 1) x hp.objs.size := e6
  refine wpAny_setField_rec e6 (by simp) fun g7 e7 b7 => ?_
  have b7 : Heap.SameBut e g6 g7 := b7
  have e7 : IsEnumOut g7 e it (k + 1) x hp.objs.size := e7
  have k7 : ∀ b o, b ≠ e → g4.get? b = some o → g7.get? b = some o := fun b o hb y => b7.extBut b o hb (b6.extBut b o hb (b5.extBut b o hb y))
  refine wpAny_bind (wpAny_letGo (wpAny_pure ⟨_, rfl, hQ x g7 tk px e7 (D.frame _ _ _ c4 fun b hb o y => k7 b o (fun q => hef (q ▸ hb)) y) (k7 _ _ (Nat.ne_of_gt le) t4) fun b o hbe hbi hb => k7 b o hbe (k4 b o hbe hbi hb)⟩))
theorem en_next {e it : Addr} {fp : List Addr} {n i : Nat} {k : Int} {P : Nat → Value → Prop} {St : Nat → Heap → Prop} {old : Value} {Q : Option Value → Shared → Prop}
    (D : Draws prog w A.in1 it fp n P St) (he : IsEnum s.heap e it k old) (hst : St i s.heap) (hlt : i < n) (hne : e ≠ it) (hef : e ∉ fp)
    (hQ : ∀ x h' tk, P i x → IsEnumOut h' e it (k + 1) x s.heap.objs.size → St (i + 1) h' → h'.get? s.heap.objs.size = some { cls := .type "tuple", data := .seq #[.int k tk, x] } →
      (∀ b o, b ≠ e → b ≠ it → s.heap.get? b = some o → h'.get? b = some o) → Q (some (.ref s.heap.objs.size)) { s with heap := h', toks := tk + 1 }) :
    wpAny (model prog w) A (pyNext (.ref e)) Q E s := by
  have hT : s.TypeIs (.ref e) "enumerate" := ⟨_, he, rfl⟩
  unfold pyNext
  exact wpAny_bind (wpAny_attempt (wpAny_callSpecial?_slot (name := Str.ofString "__next__") hT F.slot_enumerate_next (wpAny_call_entry F.slot_enumerate_next hT F.entry_enumerate_next
    (en_item D he hst hlt hne hef fun x h' tk a b c d k => wpAny_pure (hQ x h' tk a b c d k)) (F.args_enumerate_next_1 _))))
theorem en_newT (l : Addr) (its : Array Value) (n : Nat) (dct : Option Addr) (sl : Array (Option Value)) :
    Meets (Builtin.«enumerate.__new__» ⟨[.type "enumerate", .ref l], []⟩) (fun _ R s => s.heap.get? l = some { cls := .type "tuple", dict := dct, data := .seq its n, slots := sl } ∧
      R (.ok (.ret (.ref (s.heap.push { cls := .type "tuple_iterator", data := .fields #[.ref l, .int 0 0] }).objs.size)))
        { s with heap := (s.heap.push { cls := .type "tuple_iterator", data := .fields #[.ref l, .int 0 0] }).push { cls := .type "enumerate", data := .fields #[.none, .bool false, .ref s.heap.objs.size, rawInt 0, .none, .none] } }) :=
  .of_wp fun prog w A R s h => by
    obtain ⟨hp, g, d, tk, os⟩ := s
    obtain ⟨hl, h⟩ := h
    have hsub := sub_enumerate
    have hL : Heap.IsTuple (Shared.heap ⟨hp, g, d, tk, os⟩) l its := ⟨_, hl, rfl, n, rfl⟩
    wp_walk using wpAny_loadPart' hl
    refine wpAny_stack_any fun st => wpAny_pure ?_
    split
    · rename_i c _ _ _ _ _
      cases (c == Value.type "enumerate")
      all_goals
        wp_walk using wpAny_loadPart' hl, wpAny_pyIter_tuple hL
        exact ⟨_, rfl, h⟩
    · wp_walk using wpAny_loadPart' hl, wpAny_pyIter_tuple hL
      exact ⟨_, rfl, h⟩
end
end L2
namespace L2
open PySem PySem.Spec PyProof.Rows
section
variable {prog : Program} {w : World} {A : Around} {E : Value → Shared → Prop} {s : Shared}
theorem en_callT {l : Addr} {its : Array Value} {Q : Value → Shared → Prop} (hL : s.heap.IsTuple l its)
    (h : ∀ h', IsEnum h' (s.heap.objs.size + 1) s.heap.objs.size 0 .none → h'.IsTupleIter s.heap.objs.size l 0 → (∀ b o, s.heap.get? b = some o → h'.get? b = some o) → Q (.ref (s.heap.objs.size + 1)) { s with heap := h' }) :
    wpAny (model prog w) A (call (.type "enumerate") [.ref l]) Q E s := by
  obtain ⟨⟨c, dct, dt, sl⟩, hl, hc, n, hd⟩ := hL
  have hc2 : c = .type "tuple" := hc
  have hd2 : dt = .seq its n := hd
  subst hc2 hd2
  refine callType_new F.called_enumerate (by decide) (F.typeCall_enumerate_1 _) (F.newCall_enumerate_1 _) (fun obj => F.args_object_init_2 obj _) F.entry_enumerate_new (en_newT l its n dct sl) ⟨hl, ?_⟩
  have hz : (s.heap.push { cls := .type "tuple_iterator", data := .fields #[.ref l, .int 0 0] }).objs.size = s.heap.objs.size + 1 := Heap.size_push ..
  have he : IsEnum ((s.heap.push { cls := .type "tuple_iterator", data := .fields #[.ref l, .int 0 0] }).push { cls := .type "enumerate", data := .fields #[.none, .bool false, .ref s.heap.objs.size, rawInt 0, .none, .none] }) (s.heap.objs.size + 1) s.heap.objs.size 0 .none := by
    have q := Heap.get?_push_size (s.heap.push { cls := .type "tuple_iterator", data := .fields #[.ref l, .int 0 0] }) (o := { cls := .type "enumerate", data := .fields #[.none, .bool false, .ref s.heap.objs.size, rawInt 0, .none, .none] }) rfl
    rw [hz] at q
    exact q
  (show _ ∧ _); rw [hz]
  exact ⟨⟨_, he, rfl⟩, h _ he ⟨_, Heap.get?_push_of_some _ (Heap.get?_push_size _ rfl), rfl, rfl⟩ fun b o x => Heap.get?_push_of_some _ (Heap.get?_push_of_some _ x)⟩
end
end L2
namespace L2
open PySem PySem.Spec PyProof.Rows
section
variable {X : Cx} {pins : List (Addr × Obj)} {σ : St} {H : Hp} {s : Shared} {h' : Heap}
theorem Inv.turnedNew {t' : Nat} {ch : List Addr} {a : Addr} {o : HO} (I : Inv X pins σ H s) (k : ∀ b u, b ∉ ch → s.heap.get? b = some u → h'.get? b = some u) (hch : ∀ b ∈ ch, FpOk X pins H b)
    (hp : s.heap.objs.size ≤ a) (new : ObjOk X.prog X.w (upd H a o) h' a o) : Inv X pins σ (upd H a o) { s with heap := h', toks := t' } := by
  have hn : H a = none := I.hok.fresh hp
  have nch : ∀ b u, H b = some u → b ∉ ch := fun b u e z => by rw [(hch b z).1] at e; cases e
  refine I.step (g' := s.gens) (d' := s.drawn) (ch := ch) (fun b hb => ⟨(hch b hb).2.2.2.1, (hch b hb).2.1, (hch b hb).2.2.2.2.1, (hch b hb).2.2.2.2.2⟩) (fun b o _ _ hc e _ => k b o hc e) (fun b o _ _ hc e _ => ⟨o.slots, k b o hc e⟩)
    (fun b u hc e n => by rw [upd_ne (Nat.ne_of_lt (Nat.lt_of_lt_of_le (Heap.lt_size e) hp))]; exact n) (fun b o hc e => ⟨o, k b o hc e⟩) (fun b xs e => by rw [upd_ne (ne_of_none e hn)]; exact e) (fun b u xs e => by rw [upd_ne (ne_of_none e hn)]; exact e)
    (fun b ps e => ⟨#[], by rw [upd_ne (ne_of_none e hn), e]; simp⟩) (fun m hm => ?_) (fun b u e => ?_) I.bare
  · obtain ⟨ob, es, ep, ho, r⟩ := hm
    exact ⟨ob, es, ep, k _ ob (fun z => (hch _ z).2.1 rfl) ho, r⟩
  · by_cases hb : b = a
    · subst hb
      rw [upd_same] at e
      cases e
      exact new
    · rw [upd_ne hb] at e
      refine (I.hok b u e).stay (fun c v hc q => k c v ?_ q) (fun c q => by rw [upd_ne (ne_of_none q hn)]; exact q) fun c xs q => by rw [upd_ne (ne_of_none q hn)]; exact q
      rcases hc with z | z
      · rw [z]
        exact nch b u e
      · exact nch c _ z
end
def Ite (Sq : Hp → List V → Prop) (k : Int) : It :=
  ⟨fun i H => ∃ xs x, Sq H xs ∧ xs[i]? = some x, fun i H x H' => ∃ p y, x = .ref p ∧ H p = none ∧ H' = upd H p (.tup [.int (k + i), y]) ∧ ∀ xs, Sq H xs → xs[i]? = some y, fun i H => ∃ xs, Sq H xs ∧ xs.length = i⟩
theorem turn_enT {P : Program} {w : World} {K : PySem.W.Frag} {es : List Expr} {kk : Nat} {pt : Pos} (a e it : Addr) (k : Int) (hei : e ≠ it) :
    Turn P w K (.Tuple es kk pt) (Ite (fun H xs => SqT K H a xs) k) [e, it] e (fun i h => (∃ old, IsEnum h e it (k + (i : Int)) old) ∧ h.IsTupleIter it a i) where
  mem := by simp
  obj := fun i h st b hb => by
    obtain ⟨⟨old, he⟩, o, ho, hc, hd⟩ := st
    rcases List.mem_cons.mp hb with z | z
    · subst z
      exact ⟨_, he, fun v q => by cases q⟩
    · have z : b = it := by simpa using z
      subst z
      exact ⟨o, ho, fun v q => by rw [hd] at q; cases q⟩
  keep := fun i h h' st kk => by
    obtain ⟨⟨old, he⟩, o, ho, r⟩ := st
    exact ⟨⟨old, kk e (by simp) _ he⟩, o, kk it (by simp) o ho, r⟩
  item := by
    intro X hP hw hK hc i pins s σ H E I hf st hg
    subst hP hw hK
    obtain ⟨xs, x, hq, hx⟩ := hg
    obtain ⟨its, rv, p, hz⟩ := I.tuple hq
    obtain ⟨u, hu, ru⟩ := rv.get hx
    obtain ⟨⟨old, he⟩, hit⟩ := st
    have pl : s.heap.IsTuple a its.toArray := p
    have nai : a ≠ it := fun z => by
      obtain ⟨o, ho, hc, _⟩ := pl
      obtain ⟨o', ho', hc', _⟩ := hit
      rw [z, ho'] at ho
      cases ho
      rw [hc'] at hc
      injection hc with q
      exact absurd q (by decide)
    have nae : e ≠ a := fun z => by
      obtain ⟨o, ho, hc, _⟩ := pl
      rw [← z, he] at ho
      cases ho
      injection hc with q
      exact absurd q (by decide)
    have D := draws_tup (prog := X.prog) (w := X.w) (A := X.A.in1) (I.ok.hd hc) it a nai its.toArray
    have lt : i < its.toArray.size := by
      rw [List.size_toArray]
      exact (List.getElem?_eq_some_iff.mp hu).1
    refine en_next D he ⟨hit, pl⟩ lt hei (fun z => ?_) fun y g tk py eo st' tt kp => ?_
    · rcases List.mem_cons.mp z with z | z
      · exact hei z
      · exact nae (by simpa using z)
    · have ey : y = u := by
        have q : its.toArray[i]? = some y := py
        have q2 : its.toArray[i]? = some u := by simpa using hu
        rw [q2] at q
        exact (Option.some.inj q).symm
      subst ey
      refine ⟨_, rfl, wpAny_letOwnedTupleGo_enum eo fun g2 eo2 sb => ?_⟩
      have le : e < s.heap.objs.size := Heap.lt_size he
      have li : it < s.heap.objs.size := by
        obtain ⟨o, ho, _⟩ := hit
        exact Heap.lt_size ho
      have tt2 : g2.get? s.heap.objs.size = some { cls := .type "tuple", data := .seq #[.int (k + i) tk, y] } := (sb.2 _ (Nat.ne_of_gt le)).trans tt
      have nT : H s.heap.objs.size = none := I.fresh
      have I1 : Inv X pins σ (upd H s.heap.objs.size (.tup [.int (k + i), x])) { s with heap := g2, toks := tk + 1 } := by
        refine I.turnedNew (t' := tk + 1) (ch := [e, it]) (fun b o hb q => ?_) hf (Nat.le_refl _) ⟨?_, [.int (k + i) tk, y], .cons ⟨tk, rfl⟩ (.cons ru .nil), ⟨_, tt2, rfl, 0, rfl⟩⟩
        · have hbe : b ≠ e := fun z => hb (by simp [z])
          have hbi : b ≠ it := fun z => hb (by simp [z])
          exact (sb.2 b hbe).trans (kp b o hbe hbi q)
        · show 2 ≤ sizeLine
          decide
      have e1 : k + ((i + 1 : Nat) : Int) = k + (i : Int) + 1 := by omega
      refine ⟨.ref s.heap.objs.size, _, I1, rfl, ⟨_, x, rfl, nT, rfl, fun ys hy => ?_⟩, ⟨⟨y, by rw [e1]; exact eo2⟩, ?_⟩, fun b hb => ?_⟩
      · rw [I.tuple_inj hy hq]
        exact hx
      · obtain ⟨⟨o, ho, r⟩, _⟩ := st'
        exact ⟨o, (sb.2 it hei.symm).trans ho, r⟩
      · rcases List.mem_cons.mp hb with z | z
        · subst z
          rw [upd_ne (Nat.ne_of_lt le)]
          exact (hf b (by simp)).1
        · have z : b = it := by simpa using z
          subst z
          rw [upd_ne (Nat.ne_of_lt li)]
          exact (hf b (by simp)).1
  done := by
    intro X hP hw hK hc i pins s σ H E I hf st hg
    subst hP hw hK
    obtain ⟨xs, hq, hx⟩ := hg
    obtain ⟨its, rv, p, hz⟩ := I.tuple hq
    obtain ⟨⟨old, he⟩, hit⟩ := st
    have pl : s.heap.IsTuple a its.toArray := p
    have nai : a ≠ it := fun z => by
      obtain ⟨o, ho, hc, _⟩ := pl
      obtain ⟨o', ho', hc', _⟩ := hit
      rw [z, ho'] at ho
      cases ho
      rw [hc'] at hc
      injection hc with q
      exact absurd q (by decide)
    have D := draws_tup (prog := X.prog) (w := X.w) (A := X.A.in1) (I.ok.hd hc) it a nai its.toArray
    have ei : its.toArray.size = i := by
      rw [List.size_toArray, ← rv.length]
      exact hx
    obtain ⟨f0, f1, f2, f3, f4, f5⟩ := hf it (by simp)
    refine wpAny_pyNext_enum_endD D he (by rw [ei]; exact ⟨hit, pl⟩) fun h' eb => ⟨rfl, I.turned (t' := s.toks) (fun b o hb q => eb b o hb q) f0 f1 f3 f4 f5⟩
  self := fun _ _ _ _ _ st h => by
    obtain ⟨⟨old, he⟩, _⟩ := st
    exact wpAny_pyIter_enum he h
section
variable {M : Model} {A : Around} {E : Value → Shared → Prop} {s : Shared} {env : Env}
end
section
variable {X : Cx} {es : List Expr} {kk : Nat} {pt : Pos}
def iEnT (K : PySem.W.Frag) (ta : TA) : TI := fun σ H R => ta σ H fun vs H1 => ∃ a, vs = [.ref a] ∧ (∃ xs, SqT K H1 a xs) ∧ R (Ite (fun H xs => SqT K H a xs) 0) H1
theorem pi_enT {l : Expr} {ta : TA} {p pos : Pos} (hg : Gl X "enumerate") (hm : X.mg "enumerate" = none) (ha : PA X [l] ta) (hs : starEach [l] X.env = [(false, eval l X.env)] := by rfl) :
    PI X (.Tuple es kk pt) (.Call (.Name "enumerate" p) [l] [] pos) (iEnT X.K ta) := by
  intro pins s σ H R I h
  refine Call_ (ld_blt I hg hm boot_enumerate (PyProof.Rows.callWith_type1 (thn (ha pos pins s σ H _ I h) fun us s1 ⟨vs, H1, I1, r1, q1⟩ => ?_) hs rfl))
  obtain ⟨a, e1, ⟨xs, hq⟩, q⟩ := q1
  subst e1
  obtain ⟨u, e1, r3⟩ := vals1 r1
  subst e1
  obtain rfl : u = Value.ref a := r3
  obtain ⟨its, rv, pl, hz⟩ := I1.tuple hq
  refine en_callT (show s1.heap.IsTuple a its.toArray from pl) fun h' he hit kp => ?_
  have I3 : Inv X pins σ H1 { s1 with heap := h' } := I1.kept (t' := s1.toks) kp
  refine wpAny_pyIter_enum he ⟨s1.heap.objs.size + 1, [s1.heap.objs.size + 1, s1.heap.objs.size], _, _, H1, rfl, I3, turn_enT a _ _ 0 (Nat.succ_ne_self _), ⟨⟨.none, by rw [show (0 : Int) + ((0 : Nat) : Int) = 0 by omega]; exact he⟩, hit⟩, fun b hb => ?_, q⟩
  rcases List.mem_cons.mp hb with z | z
  · subst z
    exact I1.fpOk (Nat.le_succ _) (I1.hok.fresh (Nat.le_succ _))
  · have z : b = s1.heap.objs.size := by simpa using z
    subst z
    exact I1.fpOk (Nat.le_refl _) (I1.hok.fresh (Nat.le_refl _))
end
theorem for_en {Sq : Hp → List V → Prop} {k : Int} {xs : List V} {g : TG} {tb : TS} {D : Ends} {σ : St} {H : Hp} (Pv : Nat → St → Hp → Prop) (h0 : Pv 0 σ H) (hl : ∀ i σ H, i ≤ xs.length → Pv i σ H → Sq H xs)
    (hs : ∀ i x p σ H, xs[i]? = some x → H p = none → Pv i σ H → g (.ref p) σ (upd H p (.tup [.int (k + i), x])) fun σ2 H2 => tb { D with nx := Pv (i + 1), ct := Pv (i + 1), bk := D.nx } σ2 H2) (hd : ∀ σ H, Pv xs.length σ H → D.nx σ H) :
    ∃ W : Nat → Nat → St → Hp → Prop, (∃ m, W 0 m σ H) ∧ ∀ i m σ H, W i m σ H →
      ((Ite Sq k).stop i H ∧ D.nx σ H) ∨ ((Ite Sq k).go i H ∧ ∃ N : St → Hp → Prop, (∀ σ' H', N σ' H' → ∃ m', m' < m ∧ W (i + 1) m' σ' H') ∧ ∀ x H', (Ite Sq k).yld i H x H' → g x σ H' fun σ2 H2 => tb { D with nx := N, ct := N, bk := D.nx } σ2 H2) := by
  refine ⟨fun i m σ H => m = xs.length - i ∧ i ≤ xs.length ∧ Pv i σ H, ⟨xs.length, by simp, Nat.zero_le _, h0⟩, ?_⟩
  rintro i m σ H ⟨rfl, hi, p⟩
  have q := hl i σ H hi p
  by_cases hlt : i < xs.length
  · refine .inr ⟨⟨xs, xs[i], q, by simp [hlt]⟩, Pv (i + 1), fun σ' H' p' => ⟨xs.length - (i + 1), by omega, rfl, hlt, p'⟩, fun x H' y => ?_⟩
    obtain ⟨a, z, e1, hn, e2, y⟩ := y
    subst e1 e2
    exact hs i z a σ H (y xs q) hn p
  · have e : i = xs.length := by omega
    subst e
    exact .inl ⟨⟨xs, q, rfl⟩, hd σ H p⟩
end L2
namespace L2
open PySem PySem.Spec PyProof.Rows
open AutoSeq1 (wpAny_loadPart')
section
variable {X : Cx}
theorem strs_of : ∀ {ys : List Str} {us : List Value}, Vals (ys.map V.str) us → StrsAre us ys
  | [], _, .nil => .nil
  | y :: ys, _, .cons r t => by
    obtain ⟨t', e⟩ := (show ∃ t', _ = Value.str y t' from r)
    subst e
    exact .cons _ _ (strs_of t)
def rJoin (K : PySem.W.Frag) : V → List V → Hp → VK → Prop := fun x vs H Q => ∃ z b ys, x = .str z ∧ vs = [.ref b] ∧ SqL K H b (ys.map V.str) ∧ (ys.map (·.length)).sum + ys.length * z.length ≤ 16777216 ∧ Q (.str (Txt.join z ys)) H
theorem mt_join : MtM X "str.join" (rJoin X.K) := by
  intro pins s σ H x vs v us Q I rx rv h
  obtain ⟨z, b, ys, e1, e2, hB, hz, q⟩ := h
  subst e1 e2
  obtain ⟨t, e4⟩ := (show ∃ t, v = Value.str z t from rx)
  subst e4
  obtain ⟨u, e3, ru⟩ := rv.one
  subst e3
  obtain rfl : u = Value.ref b := ru
  obtain ⟨its, r, pl, hz2⟩ := I.list hB
  exact join_list pl.isList (by simpa using strs_of r) hz fun t' k => ⟨.str (Txt.join z ys), H, I.tok k, ⟨t', rfl⟩, q⟩
def rInst (K : PySem.W.Frag) : List V → Hp → VK → Prop := fun xs H Q => ∃ x n t b, xs = [x, .ty n] ∧ TyOf K H x t ∧ PySem.W.kitOne K t (.type n) = some b ∧ Q (.bl b) H
theorem call_isinst : CallR X (.builtin "isinstance") (rInst X.K) := by
  intro pins s σ H xs us Q I r h
  obtain ⟨x, n, t, b, e1, ty, e2, q⟩ := h
  subst e1
  obtain ⟨u, v, e3, r1, r2⟩ := vals2 r
  subst e3
  obtain rfl : v = Value.type n := r2
  exact isinst_ok I r1 ty e2 fun tk => ⟨.bl b, H, I.tok tk, rfl, q⟩
end
end L2
namespace L2
open PySem PySem.Spec PyProof.Rows
def compChk (fs : Scope) (N : List Str) (x : Str) (scope : Scope) : Bool :=
  decide (scope.kind = .function) && scope.names.all (fun y => decide (y.2 ≠ .cell)) && scope.names.all (fun y => decide (y.2 = .local → scope.names.lookup y.1 = some .local)) && decide (scope.names.lookup x = some .local) &&
  scope.names.all (fun y => decide (y.2 = .free → fs.names.lookup y.1 = some .cell ∨ fs.names.lookup y.1 = some .free)) &&
  N.all (fun y => match scope.names.lookup y with
    | none => true
    | some .free => decide (fs.names.lookup y = some .cell ∨ fs.names.lookup y = some .free)
    | some _ => false) && decide ((x :: N).Nodup)
theorem compSc_mk {X : Cx} {x : Str} {scope fs : Scope} {N : List Str} (hs : X.env.scope = fs) (hN : X.N = N) (c : compChk fs N x scope = true) : CompSc X x scope := by
  subst hs hN
  unfold compChk at c
  simp only [Bool.and_eq_true, List.all_eq_true, decide_eq_true_eq] at c
  obtain ⟨⟨⟨⟨⟨⟨c1, c2⟩, c3⟩, c4⟩, c5⟩, c6⟩, c7⟩ := c
  refine ⟨c1, c2, c3, c4, c5, fun y hy => ?_, c7⟩
  have q := c6 y hy
  unfold capOk
  cases e : scope.names.lookup y with
  | none => rfl
  | some k =>
    rw [e] at q
    cases k with
    | free =>
      have q2 : X.env.scope.names.lookup y = some .cell ∨ X.env.scope.names.lookup y = some .free := by simpa using q
      show (X.env.kindOf y == some .cell || X.env.kindOf y == some .free) = true
      have e2 : X.env.kindOf y = X.env.scope.names.lookup y := rfl
      rw [e2]
      rcases q2 with z | z <;> rw [z] <;> rfl
    | _ => simp at q
end L2
namespace L2
open PySem PySem.Spec PyProof.Rows
section
variable {X : Cx}
def rSlS : V → Option Int → Option Int → Hp → VK → Prop := fun x lo hi H Q => ∃ z, x = .str z ∧ z.length ≤ sizeLine ∧ ∀ y : Str, y.length ≤ z.length → Q (.str y) H
theorem sl_str : SlR X rSlS := by
  intro pins s σ H x v vl vu lo hi sl Q I rx hs pl pu h
  obtain ⟨z, e1, hz, q⟩ := h
  subst e1
  obtain ⟨t, e2⟩ := (show ∃ t, v = Value.str z t from rx)
  subst e2
  refine ⟨"str", _, F.slot_str_getitem.lookup, typeIs_str s z t, ?_⟩
  have parts : ∀ {v : Value} {o : Option Int}, IsPart v o → ∃ l : Option (Int × Tok), v = partValue l ∧ l.map (·.1) = o := fun {v o} p => by
    cases p with
    | none => exact ⟨none, rfl, rfl⟩
    | int i t => exact ⟨some (i, t), rfl, rfl⟩
  obtain ⟨l, el, ml⟩ := parts pl
  obtain ⟨u, eu, mu⟩ := parts pu
  subst el eu
  refine wpAny_getItem_str_slice (l := l) (u := u) (st := none) hs rfl ?_
  unfold sliceMade
  split
  · exact ⟨.str z, H, I, ⟨t, rfl⟩, q z (Nat.le_refl _)⟩
  · have le : (⟨((slicePicked z l u none).filterMap (z.cps[·]?)).toArray⟩ : Str).length ≤ z.length := by
      show ((slicePicked z l u none).filterMap (z.cps[·]?)).toArray.size ≤ _
      rw [List.size_toArray]
      exact Nat.le_trans (List.length_filterMap_le _ _) (sliceIndices_le _ _ _)
    exact ⟨Nat.le_trans le hz, .str _, H, I.tok _, ⟨_, rfl⟩, q _ le⟩
end
theorem comp_rangeG {lo : Int} {n : Nat} {tt : TT} {te : TE} {σ : St} {H : Hp} {Q : VK} (Pv : Addr → Nat → List V → Hp → Prop) (hn : n < sizeLine) (h0 : ∀ D, H D = none → Pv D 0 [] (upd H D (.lst [])))
    (hl : ∀ D i l H', Pv D i l H' → l.length ≤ i)
    (he : ∀ (D : Addr) (i : Nat) (l : List V) (H' : Hp) (Q1 : Bool → Hp → Prop), i < n → Pv D i l H' → (∀ b H2, (b = false → Pv D (i + 1) l H2) → (b = true → ∀ Q' : VK, (∀ y H3, H3 D = some (.lst l) → Pv D (i + 1) (l ++ [y]) (upd H3 D (.lst (l ++ [y]))) → Q' y H3) → te (some (.int (lo + i)) :: σ) H2 Q') → Q1 b H2) → tt (some (.int (lo + i)) :: σ) H' Q1)
    (hd : ∀ D l H', Pv D n l H' → Q (.ref D) H') : CompGo (Itr lo n) H σ tt te Q := by
  intro D hD
  refine ⟨fun i m H' => m = n - i ∧ i ≤ n ∧ ∃ l, Pv D i l H', ⟨n, by omega, Nat.zero_le _, [], h0 D hD⟩, ?_⟩
  rintro i m H' ⟨rfl, hi, l, hp⟩
  by_cases hlt : i < n
  · refine .inr ⟨hlt, fun x H2 y => ?_⟩
    obtain ⟨e, y⟩ := y
    subst e y
    refine he D i l H2 _ hlt hp fun b H3 hf ht => ?_
    cases b with
    | false =>
      refine iteF ?_
      exact ⟨n - (i + 1), by omega, rfl, hlt, l, hf rfl⟩
    | true =>
      refine iteT (ht rfl _ fun v H4 z1 z2 => ?_)
      have hl2 := hl D i l H2 hp
      exact ⟨l, z1, Nat.lt_of_le_of_lt hl2 (by omega), n - (i + 1), by omega, rfl, hlt, l ++ [v], z2⟩
  · have e : i = n := by omega
    subst e
    exact .inl ⟨Nat.le_refl _, hd D l H' hp⟩
section
variable {X : Cx} {K : PySem.W.Frag}
end
end L2
namespace L2
open PySem
section
variable {prog : Program} {w : World} {A : Around} {R : Result → Shared → Prop} {I Z : Addr} {fp wr : List Addr} {n : Nat} {P : Nat → Value → Prop} {St : Nat → Heap → Prop} {Ok : Heap → Prop}
end
section
variable {prog : Program} {w : World} {A : Around} {E : Value → Shared → Prop} {s : Shared}
end
end L2
namespace L2
open PySem PySem.Spec PyProof.Rows
section
variable {X : Cx}
def rEqN (K : PySem.W.Frag) (neg : Bool) : R2 := fun x y H Q => ∃ a b xs, x = .ref a ∧ y = .ref b ∧ SqL K H a xs ∧ SqL K H b [] ∧ Q (.bl (if neg then !xs.isEmpty else xs.isEmpty)) H
theorem op_neN (hu : X.A.units < cLine) : OpR X (compareOp .NotEq) (rEqN X.K true) := by
  intro pins s σ H x y v u Q I rx ry h
  obtain ⟨a, b, xs, e1, e2, hA, hB, q⟩ := h
  subst e1 e2
  obtain rfl : v = Value.ref a := rx
  obtain rfl : u = Value.ref b := ry
  obtain ⟨its, r, pl, hz⟩ := I.list hA
  obtain ⟨its2, r2, pl2, hz2⟩ := I.list hB
  have l1 := r.length
  have l2 := r2.length
  rw [List.length_nil] at l2
  cases xs with
  | nil =>
    rw [List.length_nil] at l1
    refine SeqAt.RcNeAt.lists (e := fun _ => true) pl.isList pl2.isList (by rw [List.size_toArray, List.size_toArray]; omega) hu (fun j h1 h2 => by rw [List.size_toArray] at h1; omega) _ _ _ _ ⟨.bl false, H, I, ?_, q⟩
    show Value.bool _ = Value.bool false
    congr 1
    rw [show ((List.range its.toArray.size).all fun _ => true) = true from List.all_eq_true.mpr fun _ _ => rfl]
    rfl
  | cons x0 xs0 =>
    rw [List.length_cons] at l1
    refine SeqAt.RcNeAt.lists_lengths pl.isList pl2.isList ?_ hu _ _ _ _ ⟨.bl true, H, I, rfl, q⟩
    rw [List.size_toArray, List.size_toArray]
    simp
    omega
end
section
variable {X : Cx}
end
end L2
namespace DW
open PySem
def nS (i : Int) : Str := Str.ofString (toString i)
theorem ofString_cps (s : String) : (Str.ofString s).cps.toList = s.toList.map Char.toNat := by
  rw [Str.ofString_eq_byList]
  rfl
theorem str_ext {x y : Str} (h : x.cps.toList = y.cps.toList) : x = y := by
  cases x; cases y
  simp only [Str.mk.injEq]
  exact Array.toList_inj.mp h
theorem ofString_inj {a b : String} (h : Str.ofString a = Str.ofString b) : a = b := by
  have e := congrArg (fun s : Str => s.cps.toList) h
  rw [ofString_cps, ofString_cps] at e
  have e2 : a.toList = b.toList := by
    exact (List.map_inj_right fun c d hcd => Char.toNat_inj.mp hcd).mp e
  exact String.toList_inj.mp e2
theorem nS_inj {a b : Int} (h : nS a = nS b) : a = b := Int.repr_injective (ofString_inj h)
theorem nat_dig (n : Nat) : ∀ c ∈ (Nat.repr n).toList, 48 ≤ c.toNat ∧ c.toNat ≤ 57 := fun c hc => by
  have e : (Nat.repr n).toList = Nat.toDigits 10 n := by unfold Nat.repr; exact String.toList_ofList
  rw [e] at hc
  have := Nat.isDigit_of_mem_toDigits (by decide) (by decide) hc
  simp only [Char.isDigit, Bool.and_eq_true, decide_eq_true_eq] at this
  exact ⟨this.1, this.2⟩
theorem nS_dig (i : Int) : ∀ c ∈ (nS i).cps.toList, c = 45 ∨ 48 ≤ c ∧ c ≤ 57 := fun c hc => by
  unfold nS at hc
  rw [ofString_cps] at hc
  obtain ⟨d, hd, rfl⟩ := List.mem_map.mp hc
  cases i with
  | ofNat n => exact .inr (nat_dig n d hd)
  | negSucc n =>
    have e : (toString (Int.negSucc n)).toList = '-' :: (Nat.repr (n + 1)).toList := by
      show ("-" ++ Nat.repr (n + 1)).toList = _
      rw [String.toList_append]
      rfl
    rw [e] at hd
    rcases List.mem_cons.mp hd with z | z
    · rw [z]; exact .inl rfl
    · exact .inr (nat_dig (n + 1) d z)
theorem app_cps (x y : Str) : (x ++ y).cps.toList = x.cps.toList ++ y.cps.toList := by
  show (x.cps ++ y.cps).toList = _
  rw [Array.toList_append]
theorem cut_at {α : Type} {c : α} : ∀ {x y r r' : List α}, c ∉ x → c ∉ y → x ++ c :: r = y ++ c :: r' → x = y ∧ r = r'
  | [], [], r, r', _, _, e => by injection e with _ e; exact ⟨rfl, e⟩
  | [], b :: y, r, r', _, hy, e => by injection e with e _; exact absurd (by rw [← e]; exact List.mem_cons_self) hy
  | a :: x, [], r, r', hx, _, e => by injection e with e _; exact absurd (by rw [e]; exact List.mem_cons_self) hx
  | a :: x, b :: y, r, r', hx, hy, e => by
    injection e with e1 e2
    obtain ⟨z1, z2⟩ := cut_at (fun h => hx (List.mem_cons_of_mem _ h)) (fun h => hy (List.mem_cons_of_mem _ h)) e2
    exact ⟨by rw [e1, z1], z2⟩
theorem cut_str {c : Nat} {x y r r' : Str} (hx : c ∉ x.cps.toList) (hy : c ∉ y.cps.toList) {s : Str} {t : List Nat} (hs : s.cps.toList = c :: t) (e : x ++ (s ++ r) = y ++ (s ++ r')) : x = y ∧ r = r' := by
  have e' := congrArg (fun s : Str => s.cps.toList) e
  rw [app_cps, app_cps, app_cps, app_cps, hs, List.cons_append, List.cons_append] at e'
  obtain ⟨z1, z2⟩ := cut_at hx hy e'
  exact ⟨str_ext z1, str_ext (List.append_cancel_left z2)⟩
theorem nS_no {c : Nat} (h : c < 45 ∨ (45 < c ∧ c < 48) ∨ 57 < c) (i : Int) : c ∉ (nS i).cps.toList := fun hc => by
  have := nS_dig i c hc
  omega
theorem str_assoc (x y z : Str) : (x ++ y) ++ z = x ++ (y ++ z) := by
  show (⟨(x.cps ++ y.cps) ++ z.cps⟩ : Str) = ⟨x.cps ++ (y.cps ++ z.cps)⟩
  rw [Array.append_assoc]
theorem two_inj {s : Str} {c : Nat} {t : List Nat} (hs : s.cps.toList = c :: t) (hc : c < 45 ∨ (45 < c ∧ c < 48) ∨ 57 < c) {a b a' b' : Int} (e : nS a ++ (s ++ nS b) = nS a' ++ (s ++ nS b')) : a = a' ∧ b = b' := by
  obtain ⟨h1, h2⟩ := cut_str (nS_no hc a) (nS_no hc a') hs e
  exact ⟨nS_inj h1, nS_inj h2⟩
theorem glue1 (s x : Str) : Txt.join s [x] = x := rfl
theorem glue2 (s x y : Str) : Txt.join s [x, y] = x ++ (s ++ y) := by
  show (⟨x.cps ++ s.cps ++ y.cps⟩ : Str) = ⟨x.cps ++ (s.cps ++ y.cps)⟩
  rw [Array.append_assoc]
theorem glueN (s x y : Str) (r : List Str) : Txt.join s (x :: y :: r) = x ++ (s ++ Txt.join s (y :: r)) := by
  have key : ∀ (r : List Str) (a b : Array Nat), r.foldl (fun acc p => acc ++ s.cps ++ p.cps) (a ++ b) = a ++ r.foldl (fun acc p => acc ++ s.cps ++ p.cps) b := fun r => by
    induction r with
    | nil => intro a b; rfl
    | cons z r ih =>
      intro a b
      rw [List.foldl_cons, List.foldl_cons, Array.append_assoc (xs := a), Array.append_assoc (xs := a), ih]
  show (⟨r.foldl (fun acc p => acc ++ s.cps ++ p.cps) (x.cps ++ s.cps ++ y.cps)⟩ : Str) = ⟨x.cps ++ (s.cps ++ r.foldl (fun acc p => acc ++ s.cps ++ p.cps) y.cps)⟩
  rw [key, Array.append_assoc]
theorem len_cps (x : Str) : x.length = x.cps.toList.length := by
  show x.cps.size = _
  exact Array.length_toList.symm
theorem glue_len (s : Str) {B : Nat} : ∀ (ys : List Str), (∀ y ∈ ys, y.length ≤ B) → (Txt.join s ys).length ≤ ys.length * (B + s.length)
  | [], _ => Nat.zero_le _
  | [x], h => by
    rw [glue1]
    have := h x List.mem_cons_self
    show _ ≤ 1 * _
    omega
  | x :: y :: r, h => by
    rw [glueN, Str.length_append, Str.length_append]
    have h1 := h x List.mem_cons_self
    have h2 := glue_len s (y :: r) fun z hz => h z (List.mem_cons_of_mem _ hz)
    rw [List.length_cons, Nat.succ_mul]
    omega
theorem sum_le {B : Nat} : ∀ (ys : List Str), (∀ y ∈ ys, y.length ≤ B) → (ys.map (·.length)).sum ≤ ys.length * B
  | [], _ => Nat.zero_le _
  | y :: r, h => by
    have h1 := h y List.mem_cons_self
    have h2 := sum_le r fun z hz => h z (List.mem_cons_of_mem _ hz)
    rw [List.map_cons, List.sum_cons, List.length_cons, Nat.succ_mul]
    omega
theorem nS_len {i : Int} (h : i.natAbs < 1000000000) : (nS i).length ≤ 10 := by
  have k : ∀ n : Nat, n < 1000000000 → (Nat.repr n).toList.length ≤ 9 := fun n hn => by
    have e : (Nat.repr n).toList = Nat.toDigits 10 n := by unfold Nat.repr; exact String.toList_ofList
    rw [e]
    exact (Nat.length_toDigits_le_iff (by decide) (by decide)).mpr (by omega)
  rw [len_cps]
  unfold nS
  rw [ofString_cps, List.length_map]
  cases i with
  | ofNat n =>
    have := k n h
    show (Nat.repr n).toList.length ≤ 10
    omega
  | negSucc n =>
    have e : (toString (Int.negSucc n)).toList = '-' :: (Nat.repr (n + 1)).toList := by
      show ("-" ++ Nat.repr (n + 1)).toList = _
      rw [String.toList_append]
      rfl
    rw [e, List.length_cons]
    have := k (n + 1) h
    omega
theorem small_log {i : Int} (h : i.natAbs < 1000000000) : i.natAbs.log2 < 1920 := by
  have : i.natAbs.log2 ≤ i.natAbs := Nat.log2_le_self _
  by_cases z : i.natAbs = 0
  · rw [z]; decide
  · have h2 := (Nat.log2_lt z (k := 30)).mpr (by omega)
    omega
end DW
namespace L2
open PySem PySem.Spec PyProof.Rows
def tS : V → Str
  | .int i => DW.nS i
  | .str x => x
  | _ => ""
def SmallV : V → Prop
  | .int i => i.natAbs < 1000000000
  | .str x => x.length ≤ 60
  | _ => False
section
variable {X : Cx}
theorem call_strX : CallR X (.type "str") (fun xs H Q => ∃ x, xs = [x] ∧ SmallV x ∧ Q (.str (tS x)) H) := by
  intro pins s σ H xs us Q I r h
  obtain ⟨x, rfl, hx, q⟩ := h
  obtain ⟨u, rfl, rx⟩ := vals1 r
  cases x with
  | int i =>
    obtain ⟨t, rfl⟩ := rx
    exact PySem.P.str_of_int (DW.small_log hx) ⟨.str _, H, I.tok _, ⟨_, rfl⟩, q⟩
  | str x =>
    obtain ⟨t, rfl⟩ := rx
    exact PySem.P.str_of_str ⟨.str _, H, I, ⟨_, rfl⟩, q⟩
  | _ => exact hx.elim
def rJoinT (K : PySem.W.Frag) : V → List V → Hp → VK → Prop := fun x vs H Q => ∃ z b ys, x = .str z ∧ vs = [.ref b] ∧ SqT K H b (ys.map V.str) ∧ (ys.map (·.length)).sum + ys.length * z.length ≤ 16777216 ∧ Q (.str (Txt.join z ys)) H
theorem mt_joinT : MtM X "str.join" (rJoinT X.K) := by
  intro pins s σ H x vs v us Q I rx rv h
  obtain ⟨z, b, ys, e1, e2, hB, hz, q⟩ := h
  subst e1 e2
  obtain ⟨t, e4⟩ := (show ∃ t, v = Value.str z t from rx)
  subst e4
  obtain ⟨u, e3, ru⟩ := rv.one
  subst e3
  obtain rfl : u = Value.ref b := ru
  obtain ⟨its, r, pl, hz2⟩ := I.tuple hB
  exact join_tuple pl (by simpa using strs_of r) hz fun t' k => ⟨.str (Txt.join z ys), H, I.tok k, ⟨t', rfl⟩, q⟩
variable {o e : Expr} {es : List Expr} {to : TE} {t : TA} {name : Str} {apos cpos : Pos} {T id : String} {r : V → List V → Hp → VK → Prop}
theorem pe_bmK {K : PySem.W.Frag} (pa : PlainAttrs T) (slot : Slot T name id) (hty : typeOf (.builtin id) = pure (.type "method_descriptor")) (hm : X.K = K → MtR X id r) (ho : PE X o to) (ha : PA X (e :: es) t) (hK : X.K = K := by rfl)
    (hbase : attributeBase o name X.env (eval o X.env) = eval o X.env := by rfl)
    (hfew : ((backTo cpos (starEach (e :: es) X.env)).all (fun x => !x.1) && (backToKw cpos (keywordEach [] X.env)).all (fun x => x.1.isSome)
      && decide ((e :: es).length + ([] : List Keyword).length + (if ([] : List Keyword).isEmpty then 0 else 1) < 30)) = true := by rfl)
    (hline : (apos.endLine == cpos.line) = true := by rfl) (hs : starEach (e :: es) X.env = (false, eval e X.env) :: starEach es X.env := by rfl) (hplain : (backTo cpos (starEach es X.env)).any (·.1) = false := by rfl) :
    PE X (.Call (.Attribute o name apos) (e :: es) [] cpos) (tBM K T r to t) := by
  have hm' := hm hK
  subst hK
  exact pe_bm pa slot hty hm' ho ha hbase hfew hline hs hplain
theorem mtr_joinK {K : PySem.W.Frag} (h : X.K = K) : MtR X "str.join" (rJoinT K) := by subst h; exact mt_joinT
end
end L2
namespace L2
open PySem PySem.Spec PyProof.Rows
section
variable {κ : Type} [DecidableEq κ]
def valV (kvs : List (κ × V)) (k : κ) : Option V := (kvs.find? fun kv => decide (kv.1 = k)).map (·.2)
def putK (kvs : List (κ × V)) (k : κ) (v : V) : List (κ × V) :=
  if (kvs.any fun kv => decide (kv.1 = k)) = true then kvs.map (fun kv => if kv.1 = k then (kv.1, v) else kv) else kvs ++ [(k, v)]
theorem valV_pos {p : κ × V} {r : List (κ × V)} {k : κ} (e : p.1 = k) : valV (p :: r) k = some p.2 := by simp [valV, List.find?_cons, e]
theorem valV_neg {p : κ × V} {r : List (κ × V)} {k : κ} (e : ¬ p.1 = k) : valV (p :: r) k = valV r k := by simp [valV, List.find?_cons, e]
theorem valV_any (k : κ) : ∀ kvs : List (κ × V), (kvs.any fun kv => decide (kv.1 = k)) = (valV kvs k).isSome
  | [] => rfl
  | p :: r => by
    rw [List.any_cons]
    by_cases e : p.1 = k
    · simp only [valV_pos e, decide_eq_true e, Bool.true_or, Option.isSome_some]
    · rw [valV_neg e, decide_eq_false e, Bool.false_or]; exact valV_any k r
theorem length_putK (kvs : List (κ × V)) (k : κ) (v : V) : (putK kvs k v).length ≤ kvs.length + 1 := by
  unfold putK
  split
  · rw [List.length_map]; omega
  · rw [List.length_append, List.length_cons, List.length_nil]; omega
theorem putK_new {kvs : List (κ × V)} {k : κ} (v : V) (h : valV kvs k = none) : putK kvs k v = kvs ++ [(k, v)] := by
  unfold putK
  rw [valV_any, h]
  exact if_neg (by decide)
theorem RelO.getD {o : Option V} {u : Option Value} {d : V} {d' : Value} (r : RelO o u) (rd : RelV d d') : RelV (o.getD d) (u.getD d') := by
  cases o with
  | none => cases u with
    | none => exact rd
    | some _ => exact (show False from r).elim
  | some _ => cases u with
    | none => exact (show False from r).elim
    | some _ => exact r
theorem KV.val {kvs : List (κ × V)} {vs : List (κ × Value)} (r : KV kvs vs) (k : κ) : RelO (valV kvs k) (valueAt vs k) := by
  unfold KV at r
  induction r with
  | nil => exact True.intro
  | @cons p q ps qs h t ih =>
    obtain ⟨h1, h2⟩ := h
    by_cases e : p.1 = k
    · have e' : q.1 = k := h1.symm.trans e
      have b : valueAt (q :: qs) k = some q.2 := by simp [valueAt, List.find?_cons, e']
      rw [valV_pos e, b]; exact h2
    · have e' : ¬ q.1 = k := fun z => e (h1.trans z)
      have b : valueAt (q :: qs) k = valueAt qs k := by simp [valueAt, List.find?_cons, e']
      rw [valV_neg e, b]; exact ih
theorem KV.any {kvs : List (κ × V)} {vs : List (κ × Value)} (r : KV kvs vs) (k : κ) : (kvs.any fun kv => decide (kv.1 = k)) = vs.any fun kv => decide (kv.1 = k) := by
  unfold KV at r
  induction r with
  | nil => rfl
  | cons h t ih => rw [List.any_cons, List.any_cons, ih, h.1]
theorem KV.repl {kvs : List (κ × V)} {vs : List (κ × Value)} (r : KV kvs vs) (k : κ) {y : V} {u : Value} (ry : RelV y u) :
    KV (kvs.map fun kv => if kv.1 = k then (kv.1, y) else kv) (vs.map fun kv => if kv.1 = k then (kv.1, u) else kv) := by
  unfold KV at r ⊢
  induction r with
  | nil => exact .nil
  | @cons p q ps qs h t ih =>
    rw [List.map_cons, List.map_cons]
    refine .cons ?_ ih
    obtain ⟨h1, h2⟩ := h
    by_cases e : p.1 = k
    · rw [if_pos e, if_pos (h1.symm.trans e)]; exact ⟨h1, ry⟩
    · rw [if_neg e, if_neg (fun z => e (h1.trans z))]; exact ⟨h1, h2⟩
theorem KV.put {kvs : List (κ × V)} {vs : List (κ × Value)} (r : KV kvs vs) (k : κ) {y : V} {u : Value} (ry : RelV y u) : KV (putK kvs k y) (stored vs k u) := by
  unfold putK stored
  rw [r.any k]
  by_cases e : (vs.any fun kv => decide (kv.1 = k)) = true
  · rw [if_pos e, if_pos e]; exact r.repl k ry
  · rw [if_neg e, if_neg e]; exact Paired.snoc r ⟨rfl, ry⟩
theorem KV.length {kvs : List (κ × V)} {vs : List (κ × Value)} (r : KV kvs vs) : kvs.length = vs.length := Paired.length r
end
theorem kV_is {P : Program} {w : World} {k : Key} {u : Value} (r : RelV (kV k) u) : (mixKind P w).is k u = true := by
  cases k with
  | inl i => obtain ⟨t, e⟩ := (show ∃ t, u = Value.int i t from r); subst e; exact mixKind_int P w i t
  | inr x => obtain ⟨t, e⟩ := (show ∃ t, u = Value.str x t from r); subst e; exact mixKind_str P w x t
theorem items_are {P : Program} {w : World} : ∀ {ks : List Key} {us : List Value}, Vals (ks.map kV) us → ItemsAre (mixKind P w) ks us
  | [], _, r => by rw [List.map_nil] at r; cases r; exact .nil
  | k :: ks, _, r => by
    rw [List.map_cons] at r
    cases r with
    | cons h t => exact .cons (kV_is h) (items_are t)
abbrev KT (H : Hp) : List (List Key × V) → List (List Key × Addr × Value) → Prop := Paired fun p q => p.1 = q.1 ∧ H q.2.1 = some (.tup (p.1.map kV)) ∧ RelV p.2 q.2.2
theorem KT.val {H : Hp} {kvs : List (List Key × V)} {xs : List (List Key × Addr × Value)} (r : KT H kvs xs) (k : List Key) : RelO (valV kvs k) ((atKey xs k).map (·.2)) := by
  induction r with
  | nil => exact True.intro
  | @cons p q ps qs h t ih =>
    obtain ⟨h1, _, h2⟩ := h
    by_cases e : p.1 = k
    · have e' : q.1 = k := h1.symm.trans e
      have b : atKey (q :: qs) k = some q.2 := by simp [atKey, List.find?_cons, e']
      rw [valV_pos e, b]; exact h2
    · have e' : ¬ q.1 = k := fun z => e (h1.trans z)
      have b : atKey (q :: qs) k = atKey qs k := by simp [atKey, List.find?_cons, e']
      rw [valV_neg e, b]; exact ih
section
variable {P : Program} {w : World} {H : Hp} {h : Heap} {a : Addr}
theorem rd_of {u : HO} (ok : HOk P w H h) (e : Rd H a u) : ObjOk P w H h a u := e.ok ok
theorem dk_rd {kvs : List (Key × V)} (ok : HOk P w H h) (e : Rd H a (.dK kvs)) : kvs.length ≤ sizeLine ∧ (a == sysModules) = false ∧ ∃ vs, KV kvs vs ∧ h.DictOf (mixKind P w) a vs :=
  show ObjOk P w H h a (.dK kvs) from rd_of ok e
theorem dk_of {kvs : List (Key × V)} (ok : HOk P w H h) (e : H a = some (.dK kvs)) : kvs.length ≤ sizeLine ∧ (a == sysModules) = false ∧ ∃ vs, KV kvs vs ∧ h.DictOf (mixKind P w) a vs := dk_rd ok (.inl e)
theorem key_of {ks : List Key} (ok : HOk P w H h) (e : H a = some (.tup (ks.map kV))) : (tupleKind (mixKind P w)).is h ks a := by
  obtain ⟨_, its, r, o, h1, h2, n, h3⟩ := (show ObjOk P w H h a (.tup (ks.map kV)) from ok a _ e)
  exact ⟨o, its.toArray, n, h1, h2, h3, by simpa using items_are r⟩
theorem dt_rd {kvs : List (List Key × V)} (ok : HOk P w H h) (e : Rd H a (.dT kvs)) : kvs.length ≤ sizeLine ∧ (a == sysModules) = false ∧
    ∃ xs, KT H kvs xs ∧ h.DictOfH (tupleKind (mixKind P w)) a xs := by
  obtain ⟨z, y, xs, r, o, es, ep, h1, h2, h3, h4, h5⟩ := (show ObjOk P w H h a (.dT kvs) from rd_of ok e)
  refine ⟨z, y, xs, r, o, es, ep, h1, h2, h3, h4, fun x hx => ?_, h5⟩
  have all : ∀ {l : List (List Key × V)} {m : List (List Key × Addr × Value)}, KT H l m → ∀ x ∈ m, (tupleKind (mixKind P w)).is h x.1 x.2.1 := by
    intro l m q
    induction q with
    | nil => intro x hx; exact nomatch hx
    | @cons p q ps qs hq t ih =>
      intro x hx
      rcases List.mem_cons.mp hx with e | hx
      · subst e
        exact key_of ok (by rw [← hq.1]; exact hq.2.1)
      · exact ih x hx
  exact all r x hx
end
def DGet (H : Hp) (a : Addr) (y : V) (r : Option V) : Prop :=
  (∃ kvs k, Rd H a (.dK kvs) ∧ y = kV k ∧ r = valV kvs k) ∨ ∃ kvs k b, Rd H a (.dT kvs) ∧ y = .ref b ∧ H b = some (.tup (k.map kV)) ∧ r = valV kvs k
theorem DGet.k {H : Hp} {a : Addr} {kvs : List (Key × V)} {k : Key} (e : H a = some (.dK kvs)) : DGet H a (kV k) (valV kvs k) := .inl ⟨kvs, k, .inl e, rfl, rfl⟩
section
variable {X : Cx} {pins : List (Addr × Obj)} {σ : St} {H : Hp} {s : Shared} {a : Addr} {y v : V} {u r : Value} {o : Option V} {A : Around} {E : Value → Shared → Prop}
theorem Inv.big (I : Inv X pins σ H s) : sysModules < s.heap.objs.size := by
  have h : mainGlobals < s.heap.objs.size := (I.mod.glob.keeps I.bk).lt
  exact Nat.lt_trans (by decide) h
theorem d_getItem {Q : Value → Shared → Prop} (hu : A.units + 1 < cLine) (I : Inv X pins σ H s) (g : DGet H a y (some v)) (ry : RelV y u) (h : ∀ w' s', Inv X pins σ H s' → RelV v w' → Q w' s') :
    wpAny (model X.prog X.w) A (getItem (.ref a) u) Q E s := by
  rcases g with ⟨kvs, k, e, ey, l⟩ | ⟨kvs, k, b, e, ey, eb, l⟩
  · subst ey
    obtain ⟨z, hd, vs, rel, dd⟩ := dk_rd I.hok e
    obtain ⟨w', hw, rw'⟩ := RelO.some_of (v := v) (o := valueAt vs k) (by rw [l]; exact rel.val k)
    exact wpAny_getItem_of (kV_is ry) dd.mapOf hw (h w' _ (I.tok _) rw')
  · subst ey
    cases (show u = Value.ref b from ry)
    obtain ⟨z, hd, xs, rel, dd⟩ := dt_rd I.hok e
    obtain ⟨w', hw, rw'⟩ := RelO.some_of (v := v) (o := (atKey xs k).map (·.2)) (by rw [l]; exact rel.val k)
    obtain ⟨p, hp, hp2⟩ := Option.map_eq_some_iff.mp hw
    refine wpAny_getItem_heap (tupleKind_room_in1 hu) (key_of I.hok eb) dd hp ?_
    rw [hp2]
    exact h w' _ (I.tok _) rw'
theorem d_write {h' : Heap} {t' : Nat} {ob : HO} (I : Inv X pins σ H s) (mu : Mut (H a)) (hs : Heap.SameBut a s.heap h') (he : ∃ q, h'.get? a = some q) (new : ObjOk X.prog X.w (upd H a ob) h' a ob) :
    Inv X pins σ (upd H a ob) { s with heap := h', toks := t' } :=
  I.write (x := a) (e := a) mu (.inl rfl) (fun b q hb z => (hs.2 b hb).trans z) he new
theorem dk_new {P : Program} {w : World} {H' : Hp} {h' : Heap} {kvs : List (Key × V)} {vs : List (Key × Value)} (z : kvs.length ≤ sizeLine) (hd : (a == sysModules) = false) (rel : KV kvs vs) (dd : h'.DictOf (mixKind P w) a vs) :
    ObjOk P w H' h' a (.dK kvs) := ⟨z, hd, vs, rel, dd⟩
end
section
variable {X : Cx} {pins : List (Addr × Obj)} {σ : St} {H : Hp} {s : Shared} {a : Addr} {kvs : List (Key × V)} {k : Key} {u : Value} {A : Around} {E : Value → Shared → Prop}
end
def NoSl (i : Expr) : Prop := ∀ ov iv, subscripted i false ov iv = operate [ov, iv] (getItem ov iv)
theorem subD_of {prog : Program} {w : World} {A : Around} {E : Value → Shared → Prop} {s : Shared} {env : Env} {value slice : Expr} {pos : Pos} {T id : String} {Q : Value → Shared → Prop}
    (hl : typeLookup (.type T) "__getitem__" = pure (some (.builtin id))) (hs : NoSl slice)
    (h : wpAny (model prog w) A (eval value env) (fun o s₁ => wpAny (model prog w) A (eval slice env) (fun i s₂ => s₂.TypeIs o T ∧ wpAny (model prog w) A (getItem o i) Q E s₂) E s₁) E s) :
    wpAny (model prog w) A (eval (.Subscript value slice pos) env) Q E s := by
  refine Subscript_ (wpAny_mono h (fun o s₁ h₁ => wpAny_mono h₁ (fun i s₂ h₂ => ?_) fun _ _ x => x) fun _ _ x => x)
  obtain ⟨hT, h₂⟩ := h₂
  unfold subscriptTail
  refine wpAny_bind ?_
  rw [getitemInPython_of_ne hT.not_modules]
  refine wpAny_bind (wpAny_specialOf hT hl ?_)
  have fin : wpAny (model prog w) A (subscripted slice false o i) (fun r s₃ => wpAny (model prog w) A (letTemporaryGo value o r >>= fun _ => pure r) Q E s₃) E s₂ := by
    rw [hs o i]
    exact wpAny_operating (wpAny_mono h₂ (fun r s₃ h₃ => wpAny_bind (wpAny_letTemporaryGo (wpAny_pure h₃))) fun _ _ x => x)
  first
    | exact wpAny_pure (wpAny_bind fin)
    | exact wpAny_bind (wpAny_pure (wpAny_bind fin))
    | exact wpAny_bind fin
theorem dict_typeIs {X : Cx} {pins : List (Addr × Obj)} {σ : St} {H : Hp} {s : Shared} {a : Addr} {y : V} {o : Option V} (I : Inv X pins σ H s) (g : DGet H a y o) : s.TypeIs (.ref a) "dict" := by
  rcases g with ⟨kvs, k, e, _, _⟩ | ⟨kvs, k, b, e, _, _, _⟩
  · obtain ⟨_, _, vs, _, dd⟩ := dk_rd I.hok e
    exact dd.typeIs
  · obtain ⟨_, _, xs, _, dd⟩ := dt_rd I.hok e
    exact dd.typeIs
def tDGet (td ty : TE) : TE := fun σ H Q => td σ H fun x H1 => ty σ H1 fun y H2 => ∃ a v, x = .ref a ∧ DGet H2 a y (some v) ∧ Q v H2
section
variable {X : Cx} {o i e value : Expr} {pos pos' tpos : Pos} {td ty tv : TE}
theorem pe_dget (hu : X.A.units + 1 < cLine) (ho : PE X o td) (hi : PE X i ty) (hs : NoSl i) : PE X (.Subscript o i pos) (tDGet td ty) := by
  intro pins s σ H Q I h
  refine subD_of PySem.F.slot_dict_getitem.lookup hs (thn (ho pins s σ H _ I h) fun u s1 ⟨x, H1, I1, rx, q1⟩ => thn (hi pins s1 σ H1 _ I1 q1) fun iv s2 ⟨y, H2, I2, ry, a, v, ex, g, q2⟩ => ?_)
  subst ex
  obtain rfl : u = Value.ref a := rx
  exact ⟨dict_typeIs I2 g, d_getItem hu I2 g ry fun w' s3 I3 rw' => ⟨v, H2, I3, rw', q2⟩⟩
end
theorem dk_empty {P : Program} {w : World} {H : Hp} (h : Heap) (hb : sysModules < h.objs.size) : ObjOk P w H (h.push { cls := .type "dict", data := .dict #[] }) h.objs.size (.dK []) :=
  ⟨Nat.zero_le _, beq_eq_false_iff_ne.mpr (Ne.symm (Nat.ne_of_lt hb)), [], .nil, Heap.DictOf.new h⟩
def tDNewK : TE := fun _ H Q => ∀ p, H p = none → Q (.ref p) (upd H p (.dK []))
section
variable {X : Cx} {pos : Pos}
theorem pe_dnewK : PE X (.Dict [] [] pos) tDNewK := fun pins s σ H Q I h =>
  wpAny_Dict_empty ⟨.ref s.heap.objs.size, _, I.laid (a := s.heap.objs.size) (o := .dK []) (t' := s.toks) (fun _ _ q => Heap.get?_push_of_some _ q) (Nat.le_refl _) (dk_empty s.heap I.big), rfl, h _ (I.hok.fresh (Nat.le_refl _))⟩
end
def tPairs : List (TE × TE) → St → Hp → (List (V × V) → Hp → Prop) → Prop
  | [], _, H, Q => Q [] H
  | (tk, tv) :: r, σ, H, Q => tk σ H fun x H1 => tv σ H1 fun y H2 => tPairs r σ H2 fun ps H3 => Q ((x, y) :: ps) H3
abbrev VV : List (V × V) → List (Value × Value) → Prop := Paired fun p q => RelV p.1 q.1 ∧ RelV p.2 q.2
def PPs (X : Cx) (pos : Pos) (keys : List (Option Expr)) (values : List Expr) (trs : List (TE × TE)) : Prop :=
  ∀ (pins : List (Addr × Obj)) (s : Shared) (σ : St) (H : Hp) (Q : List (V × V) → Hp → Prop), Inv X pins σ H s → tPairs trs σ H Q →
    wpAny (model X.prog X.w) X.A (evalPairs (pairTrees keys values X.env pos)) (fun vs s' => ∃ ps H', Inv X pins σ H' s' ∧ VV ps vs ∧ Q ps H') X.xe s
theorem pps_nil {X : Cx} {pos : Pos} : PPs X pos [] [] [] := fun pins s σ H Q I h => pairTrees_nil_walk ⟨[], H, I, .nil, h⟩
theorem pps_cons {X : Cx} {pos : Pos} {k v : Expr} {ks : List (Option Expr)} {vs : List Expr} {tk tv : TE} {trs : List (TE × TE)} (hk : PE X k tk) (hv : PE X v tv) (hr : PPs X pos ks vs trs) :
    PPs X pos (some k :: ks) (v :: vs) ((tk, tv) :: trs) := fun pins s σ H Q I h =>
  pairTrees_cons_walk (thn (hk pins s σ H _ I h) fun u s1 ⟨x, H1, I1, rx, q1⟩ => thn (hv pins s1 σ H1 _ I1 q1) fun w2 s2 ⟨y, H2, I2, ry, q2⟩ =>
    thn (hr pins s2 σ H2 _ I2 q2) fun ws s3 ⟨ps, H3, I3, rel, q3⟩ => ⟨(x, y) :: ps, H3, I3, .cons ⟨rx, ry⟩ rel, q3⟩)
def mergeK (kvs more : List (Key × V)) : List (Key × V) := more.foldl (fun acc kv => putK acc kv.1 kv.2) kvs
theorem KV.merge : ∀ {more : List (Key × V)} {rs : List (Key × Value)} {kvs : List (Key × V)} {vs : List (Key × Value)}, KV more rs → KV kvs vs → KV (mergeK kvs more) (merged vs rs) := by
  intro more rs kvs vs r
  unfold KV at r
  induction r generalizing kvs vs with
  | nil => intro q; exact q
  | @cons p q ps qs h t ih =>
    intro r0
    have e : KV (putK kvs p.1 p.2) (stored vs q.1 q.2) := by
      have := r0.put p.1 h.2
      rw [← h.1]; exact this
    exact ih e
theorem length_mergeK : ∀ (more kvs : List (Key × V)), (mergeK kvs more).length ≤ kvs.length + more.length
  | [], kvs => by show kvs.length ≤ kvs.length + 0; omega
  | p :: r, kvs => by
    have h1 := length_mergeK r (putK kvs p.1 p.2)
    have h2 := length_putK kvs p.1 p.2
    show (mergeK (putK kvs p.1 p.2) r).length ≤ _
    rw [List.length_cons]; omega
theorem carries_of {P : Program} {w : World} : ∀ {kvs : List (Key × V)} {ws : List (Value × Value)}, VV (kvs.map fun kv => (kV kv.1, kv.2)) ws → ∃ rs, Carries (mixKind P w) ws rs ∧ KV kvs rs
  | [], _, r => by rw [List.map_nil] at r; cases r; exact ⟨[], True.intro, .nil⟩
  | p :: kvs, _, r => by
    rw [List.map_cons] at r
    cases r with
    | @cons a b as bs h t =>
      obtain ⟨rs, c, q⟩ := carries_of (P := P) (w := w) t
      obtain ⟨b1, b2⟩ := b
      exact ⟨(p.1, b2) :: rs, ⟨kV_is h.1, rfl, c⟩, .cons ⟨rfl, h.2⟩ q⟩
def tDisp (trs : List (TE × TE)) : TE := fun σ H Q => ∀ p, H p = none → tPairs trs σ (upd H p (.dK [])) fun ps H2 => H2 p = some (.dK []) ∧ ∃ kvs : List (Key × V), ps = kvs.map (fun kv => (kV kv.1, kv.2)) ∧ kvs.length ≤ 15 ∧ Q (.ref p) (upd H2 p (.dK (mergeK [] kvs)))
theorem pe_disp {X : Cx} {pos : Pos} {keys : List (Option Expr)} {values : List Expr} {trs : List (TE × TE)} (h : PPs X pos keys values trs) (hall : keys.all (·.isSome) = true) (hl : keys.length = values.length) (h0 : keys ≠ [])
    (h15 : keys.length ≤ 15) : PE X (.Dict keys values pos) (tDisp trs) := by
  intro pins s σ H Q I q
  have hn := I.hok.fresh (Nat.le_refl s.heap.objs.size)
  have I1 := I.laid (a := s.heap.objs.size) (o := .dK []) (h' := s.heap.push { cls := .type "dict", data := .dict #[] }) (t' := s.toks) (fun _ _ q => Heap.get?_push_of_some _ q) (Nat.le_refl _) (dk_empty s.heap I.big)
  refine wpAny_Dict_walk (knd := mixKind X.prog X.w) hall hl h0 h15 (thn (h pins _ σ _ _ I1 (q _ hn)) fun ws s2 ⟨ps, H2, I2, rel, e, kvs, ep, lk, q2⟩ => ?_)
  subst ep
  obtain ⟨rs, c, rk⟩ := carries_of (P := X.prog) (w := X.w) rel
  obtain ⟨z, hd, vs0, r0, dd⟩ := dk_of I2.hok e
  cases r0
  refine ⟨rs, c, dd, fun h' dd' hs => ⟨.ref s.heap.objs.size, _, ?_, rfl, q2⟩⟩
  have hz : (mergeK [] kvs).length ≤ sizeLine := by
    have h1 := length_mergeK kvs []
    rw [List.length_nil] at h1
    rw [sizeLine_eq]; omega
  have he : ∃ q, h'.get? s.heap.objs.size = some q := let ⟨q, _, _, hq, _⟩ := dd'; ⟨q, hq⟩
  exact d_write I2 (by rw [e]; exact True.intro) hs he (dk_new hz hd (rk.merge .nil) dd')
structure M1 (X : Cx) (o : Expr) (m : Str) (apos : Pos) (e : Expr) (cpos : Pos) : Prop where
  base : attributeBase o m X.env (eval o X.env) = eval o X.env
  few : ((backTo cpos (starEach [e] X.env)).all (fun x => !x.1) && (backToKw cpos (keywordEach [] X.env)).all (fun x => x.1.isSome)
    && decide (([e] : List Expr).length + ([] : List Keyword).length + (if ([] : List Keyword).isEmpty then 0 else 1) < 30)) = true
  line : (apos.endLine == cpos.line) = true
  trees : backTo cpos (starEach [e] X.env) = [(false, eval e X.env)]
structure M2 (X : Cx) (o : Expr) (m : Str) (apos : Pos) (e f : Expr) (cpos : Pos) : Prop where
  base : attributeBase o m X.env (eval o X.env) = eval o X.env
  few : ((backTo cpos (starEach [e, f] X.env)).all (fun x => !x.1) && (backToKw cpos (keywordEach [] X.env)).all (fun x => x.1.isSome)
    && decide (([e, f] : List Expr).length + ([] : List Keyword).length + (if ([] : List Keyword).isEmpty then 0 else 1) < 30)) = true
  line : (apos.endLine == cpos.line) = true
  trees : backTo cpos (starEach [e, f] X.env) = [(false, eval e X.env), (false, eval f X.env)]
def IsD (H : Hp) (a : Addr) : Prop := (∃ kvs, Rd H a (.dK kvs)) ∨ ∃ kvs, Rd H a (.dT kvs)
theorem isD_at {X : Cx} {pins : List (Addr × Obj)} {σ : St} {H : Hp} {s : Shared} {a : Addr} (I : Inv X pins σ H s) (d : IsD H a) :
    s.TypeIs (.ref a) "dict" ∧ (∀ b, Value.ref a = .ref b → ∃ ob, s.heap.get? b = some ob ∧ ob.dict = none) ∧ (a == sysModules) = false := by
  rcases d with ⟨kvs, e⟩ | ⟨kvs, e⟩
  · obtain ⟨_, hd, vs, _, dd⟩ := dk_rd I.hok e
    refine ⟨dd.typeIs, fun b q => ?_, hd⟩
    cases q
    obtain ⟨ob, _, _, h1, h2, _⟩ := dd
    exact ⟨ob, h1, h2.2.1⟩
  · obtain ⟨_, hd, xs, _, dd⟩ := dt_rd I.hok e
    refine ⟨dd.typeIs, fun b q => ?_, hd⟩
    cases q
    obtain ⟨ob, _, _, h1, h2, _⟩ := dd
    exact ⟨ob, h1, h2.2.1⟩
section
variable {X : Cx} {pins : List (Addr × Obj)} {σ : St} {H : Hp} {s : Shared} {a : Addr} {y d : V} {u r : Value} {o : Option V} {A : Around} {E : Value → Shared → Prop}
theorem d_get2 {Q : Value → Shared → Prop} (hu : A.units + 1 < cLine) (I : Inv X pins σ H s) (g : DGet H a y o) (ry : RelV y u) (rd : RelV d r) (h : ∀ w' s', Inv X pins σ H s' → RelV (o.getD d) w' → Q w' s') :
    wpAny (model X.prog X.w) A (call (.builtin "dict.get") [.ref a, u, r]) Q E s := by
  rcases g with ⟨kvs, k, e, ey, l⟩ | ⟨kvs, k, b, e, ey, eb, l⟩
  · subst ey
    obtain ⟨z, hd, vs, rel, dd⟩ := dk_rd I.hok e
    refine call_meetsIn PySem.F.slot_dict_get dd.typeIs PySem.F.entry_dict_get (PySem.F.args_dict_get_3 _ _ _) (meets_dict_get_default (mixKind X.prog X.w) a (kV_is ry) hd r) ⟨_, dd.mapOf, h _ _ (I.tok _) ?_⟩
    rw [l]
    exact (rel.val k).getD rd
  · subst ey
    cases (show u = Value.ref b from ry)
    obtain ⟨z, hd, xs, rel, dd⟩ := dt_rd I.hok e
    refine call_meetsIn PySem.F.slot_dict_get dd.typeIs PySem.F.entry_dict_get (PySem.F.args_dict_get_3 _ _ _) (meetsH_dict_get_default (tupleKind (mixKind X.prog X.w)) a b hd r) ⟨tupleKind_room_in1 hu, k, xs, key_of I.hok eb, dd, h _ _ (I.tok _) ?_⟩
    rw [l]
    exact (rel.val k).getD rd
end
def tDGet2 (td ty tx : TE) : TE := fun σ H Q => td σ H fun x H1 => ∃ a, x = .ref a ∧ IsD H1 a ∧ ty σ H1 fun y H2 => tx σ H2 fun z H3 => ∃ o, DGet H3 a y o ∧ Q (o.getD z) H3
section
variable {X : Cx} {o e f : Expr} {apos cpos : Pos} {td ty tx : TE}
theorem pe_dget2 (hu : X.A.units + 1 < cLine) (ho : PE X o td) (he : PE X e ty) (hf : PE X f tx) (m : M2 X o "get" apos e f cpos) : PE X (.Call (.Attribute o "get" apos) [e, f] [] cpos) (tDGet2 td ty tx) := by
  intro pins s σ H Q I h
  refine wpAny_Call_method m.base m.few m.line PySem.F.plainAttrs_dict PySem.F.slot_dict_get PySem.F.type_dict_get (thn (ho pins s σ H _ I h) fun u s1 ⟨x, H1, I1, rx, a, ex, d, q1⟩ => ?_)
  subst ex
  obtain rfl : u = Value.ref a := rx
  obtain ⟨t1, t2, _⟩ := isD_at I1 d
  refine ⟨t1, t2, ?_⟩
  rw [m.trees]
  refine Calls.callWith_builtin rfl (Calls.evalArgs_plain (Calls.spliced_cons (thn (he pins s1 σ H1 _ I1 q1) fun iv s2 ⟨y, H2, I2, ry, q2⟩ =>
    Calls.spliced_cons (thn (hf pins s2 σ H2 _ I2 q2) fun fv s3 ⟨z, H3, I3, rz, ov, g, q3⟩ => Calls.spliced_nil ?_))))
  exact d_get2 hu I3 g ry rz fun w' s4 I4 rw' => ⟨_, H3, I4, rw', q3⟩
end
section
variable {X : Cx} {pins : List (Addr × Obj)} {σ : St} {H : Hp} {s : Shared} {a : Addr} {kvs : List (Key × V)} {A : Around} {E : Value → Shared → Prop}
end
section
variable {X : Cx} {pins : List (Addr × Obj)} {σ : St} {H : Hp} {s : Shared} {a : Addr} {y : V} {u : Value} {A : Around} {E : Value → Shared → Prop}
end
end L2
namespace L2
open PySem PySem.Spec PyProof.Rows
structure CompScN (X : Cx) (k : Nat) (N' : List Str) (scope : Scope) : Prop where
  kind : scope.kind = .function
  cell : ∀ y ∈ scope.names, y.2 ≠ .cell
  names : ∀ y ∈ scope.names, y.2 = .local → scope.names.lookup y.1 = some .local
  free : ∀ y ∈ scope.names, y.2 = .free → X.env.kindOf y.1 = some .cell ∨ X.env.kindOf y.1 = some .free
  len : N'.length = k + X.N.length
  cap : ∀ i y, N'[k + i]? = some y → (X.N[i]? = some y ∧ capOk scope X.env y = true) ∨ scope.names.lookup y = none
section
variable {X : Cx} {k : Nat} {N' : List Str} {tg : Expr} {pos : Pos} {elt iter : Expr} {ifs : List Expr} {scope : Scope} {wi : TI} {g : TG} {tt : TT} {te : TE}
end
end L2
namespace L2
open PySem PySem.Spec PyProof.Rows
section
variable {X : Cx} {pins : List (Addr × Obj)} {σ : St} {H : Hp} {s : Shared} {h' : Heap}
theorem Inv.turnedL {t' : Nat} {ch : List Addr} (I : Inv X pins σ H s) (k : ∀ b u, b ∉ ch → s.heap.get? b = some u → h'.get? b = some u) (hch : ∀ b ∈ ch, FpOk X pins H b) : Inv X pins σ H { s with heap := h', toks := t' } := by
  have nch : ∀ b u, H b = some u → b ∉ ch := fun b u e z => by rw [(hch b z).1] at e; cases e
  refine I.step (g' := s.gens) (d' := s.drawn) (ch := ch) (fun b hb => ⟨(hch b hb).2.2.2.1, (hch b hb).2.1, (hch b hb).2.2.2.2.1, (hch b hb).2.2.2.2.2⟩) (fun b o _ _ hc e _ => k b o hc e) (fun b o _ _ hc e _ => ⟨o.slots, k b o hc e⟩)
    (fun _ _ _ _ n => n) (fun b o hc e => ⟨o, k b o hc e⟩) (fun _ _ e => e) (fun _ _ _ e => e) (fun b ps e => ⟨#[], by rw [e]; simp⟩) (fun m hm => ?_) (fun b u e => ?_) I.bare
  · obtain ⟨ob, es, ep, ho, r⟩ := hm
    exact ⟨ob, es, ep, k _ ob (fun z => (hch _ z).2.1 rfl) ho, r⟩
  · refine (I.hok b u e).stay (fun c v hc q => k c v ?_ q) (fun c q => q) fun c xs q => q
    rcases hc with z | z
    · rw [z]
      exact nch b u e
    · exact nch c _ z
end
section
variable {X : Cx} {es : List Expr} {kk : Nat} {pt : Pos}
end
end L2
namespace L2
open PySem PySem.Spec PySem.W PyProof.Rows
section
variable {X : Cx} {o : Expr} {apos cpos p pos : Pos} {td : TE}
end
end L2
namespace L2
open PySem PySem.Spec PySem.W PyProof.Rows
theorem kvAt {kvs : List (Key × V)} {vs : List (Key × Value)} (r : KV kvs vs) {i : Nat} {k : Key} {x : V} (h : kvs[i]? = some (k, x)) : ∃ v, vs[i]? = some (k, v) ∧ RelV x v := by
  induction r generalizing i with
  | nil => cases h
  | cons p q ih =>
    cases i with
    | zero =>
      cases h
      obtain ⟨e, z⟩ := p
      exact ⟨_, by rw [List.getElem?_cons_zero]; exact congrArg some (Prod.ext e.symm rfl), z⟩
    | succ i => exact ih h
theorem kV_of {P : Program} {w : World} {k : Key} {u : Value} (h : (mixKind P w).is k u = true) : RelV (kV k) u := by
  rcases keyIs_shape h with ⟨i, t, rfl, rfl⟩ | ⟨x, t, rfl, rfl⟩
  · exact ⟨t, rfl⟩
  · exact ⟨t, rfl⟩
theorem entry_itemiter : entryFor table "dict_itemiterator.__iter__" = some Builtin.«dict_keyiterator.__iter__» :=
  entryFor_alias (id' := "dict_keyiterator.__iter__") (by kernel_rfl) rfl (by decide +kernel) (by kernel_rfl)
section
variable {X : Cx} {o : Expr} {es : List Expr} {kk : Nat} {pt : Pos} {apos cpos : Pos} {td : TE}
end
end L2
namespace L2
open PySem PySem.Spec PySem.W PyProof.Rows
section
variable {X : Cx}
end
end L2
namespace DV
open PySem PySem.W PyProof.Rows
section
variable (r : Nat → Int)
end
end DV
namespace DV
open PySem PySem.W PyProof.Rows
section
variable {n : Nat} (hn : 0 < n)
end
structure Ord (lt : Nat → Nat → Bool) (n : Nat) : Prop where
  irr : ∀ i, i < n → lt i i = false
  tr : ∀ i j k, i < n → j < n → k < n → lt i j = true → lt j k = true → lt i k = true
  neg : ∀ i j k, i < n → j < n → k < n → lt i k = true → lt i j = true ∨ lt j k = true
end DV
namespace L2
open PySem PySem.Spec PyProof.Rows
section
variable {M : Model} {A : Around} {E : Value → Shared → Prop} {s : Shared} {env : Env}
end
section
variable {X : Cx} {pins : List (Addr × Obj)} {σ : St}
end
section
variable {X : Cx}
end
section
variable {X : Cx} {pins : List (Addr × Obj)} {σ : St}
end
section
variable {X : Cx}
end
end L2
namespace DV
open PySem PySem.W PyProof.Rows
section
variable {prog : Program} {w : World} {A : Around} {E : Value → Shared → Prop} {s : Shared}
end
end DV
namespace DV
open PySem PySem.W PyProof.Rows
section
variable {prog : Program} {w : World} {A : Around} {E : Value → Shared → Prop} {s : Shared}
end
end DV
namespace L2
open PySem PySem.Spec PySem.W PyProof.Rows
section
variable {X : Cx} {pins : List (Addr × Obj)} {σ : St} {E : Value → Shared → Prop}
end
end L2
namespace L2
open PySem PySem.Spec PySem.W PyProof.Rows
section
variable {X : Cx} {pins : List (Addr × Obj)} {σ : St} {H : Hp} {s : Shared} {h' : Heap}
end
section
variable {X : Cx} {pins : List (Addr × Obj)} {σ : St} {E : Value → Shared → Prop}
end
end L2
namespace L2
open PySem PySem.Spec PySem.W PyProof.Rows
section
variable (p1 p2 p3 p4 p5 p6 p7 : Pos) (k0 : Nat)
end
end L2
namespace L2
open PySem PySem.Spec PySem.W PyProof.Rows
section
variable {X : Cx} {pins : List (Addr × Obj)} {σ : St} {H : Hp} {s : Shared} {h' : Heap}
end
end L2
namespace L2
open PySem PySem.Spec PySem.W PyProof.Rows
section
variable {X : Cx} {l : Expr} {tl : TE} {p pos kpos lpos p1 p2 p3 p4 p5 p6 p7 : Pos} {k0 : Nat} {scope : Scope} {c0 P : Addr} {i : Nat}
end
end L2
namespace L2
open PySem PySem.Spec PySem.W PyProof.Rows
end L2
namespace L2
open PySem PySem.Spec PySem.W PyProof.Rows
section
variable {X : Cx} {o tg : Expr} {apos cpos : Pos} {td : TE}
end
end L2
namespace L2
open PySem PySem.Spec PySem.W PyProof.Rows
section
variable {X : Cx} {pins : List (Addr × Obj)} {σ : St} {H : Hp} {s : Shared}
end
end L2
namespace L2
open PySem PySem.Spec PySem.W PyProof.Rows
end L2
namespace DV
open PySem PySem.W PyProof.Rows
end DV
namespace L2
open PySem PySem.Spec PySem.W PyProof.Rows
def ItP (kvs : List (Key × V)) : It :=
  ⟨fun i _ => i < kvs.length, fun i H x H' => ∃ p k v, x = .ref p ∧ H p = none ∧ kvs[i]? = some (k, v) ∧ H' = upd H p (.tup [kV k, v]), fun i _ => kvs.length ≤ i⟩
theorem turn_itemsK {P : Program} {w : World} {K : PySem.W.Frag} {es : List Expr} {kk : Nat} {pt : Pos} {it a : Addr} {o : Obj} {kvs : List (Key × V)} {vs : List (Key × Value)} {ep : Nat} (hk : K.lookup a = some o) (rel : KV kvs vs)
    (da : ∀ h : Heap, h.get? a = some o → h.DictAt (mixKind P w) a vs ep) :
    Turn P w K (.Tuple es kk pt) (ItP kvs) [it] it (fun i h => ∃ ok ov, IsItemIter h it a i vs.length ep ok ov) where
  mem := by simp
  obj := fun i h st c hc => by
    obtain ⟨ok, ov, st⟩ := st
    cases (List.mem_singleton.mp hc)
    exact ⟨_, st, fun v q => by cases q⟩
  keep := fun i h h' st kk => by
    obtain ⟨ok, ov, st⟩ := st
    exact ⟨ok, ov, kk it (by simp) _ st⟩
  item := by
    intro X hP hw hK hc i pins s σ H E I hf st hg
    subst hP hw hK
    obtain ⟨ok, ov, st⟩ := st
    have hi : i < kvs.length := hg
    obtain ⟨⟨k, x⟩, hx⟩ : ∃ p, kvs[i]? = some p := ⟨kvs[i], by simp [hi]⟩
    obtain ⟨v, hv, rv⟩ := kvAt rel hx
    have ho := I.kIn a o hk
    refine wpAny_pyNext_items_item st (da _ ho) hv fun key h' hkey hit' htup hsz kp => ⟨_, rfl, ?_⟩
    refine wpAny_letOwnedTupleGo_items hit' fun g2 hit2 sb => ?_
    have li : it < s.heap.objs.size := Heap.lt_size st
    have nT : H s.heap.objs.size = none := I.fresh
    have tt2 : g2.get? s.heap.objs.size = some { cls := .type "tuple", data := .seq #[key, v] } := (sb.2 _ (Nat.ne_of_gt li)).trans htup
    have I1 : Inv X pins σ (upd H s.heap.objs.size (.tup [kV k, x])) { s with heap := g2, toks := s.toks } := by
      refine I.turnedNew (t' := s.toks) (ch := [it]) (fun c o hb q => ?_) hf (Nat.le_refl _) ⟨?_, [key, v], .cons (kV_of hkey) (.cons rv .nil), ⟨_, tt2, rfl, 0, rfl⟩⟩
      · have hb' : c ≠ it := fun z => hb (by simp [z])
        exact (sb.2 c hb').trans (kp c o hb' q)
      · show 2 ≤ sizeLine
        decide
    refine ⟨.ref s.heap.objs.size, _, I1, rfl, ⟨_, k, x, rfl, nT, hx, rfl⟩, ⟨_, _, hit2⟩, fun c hb => ?_⟩
    have hb' := (hf c hb).1
    cases (List.mem_singleton.mp hb)
    rw [upd_ne (Nat.ne_of_lt li)]
    exact hb'
  done := by
    intro X hP hw hK hc i pins s σ H E I hf st hg
    subst hP hw hK
    obtain ⟨ok, ov, st⟩ := st
    have hi : kvs.length ≤ i := hg
    have ho := I.kIn a o hk
    have el := rel.length
    refine wpAny_pyNext_items_end (I.ok.hd hc) st (da _ ho) (List.getElem?_eq_none_iff.mpr (by omega)) fun h' kp => ⟨rfl, I.turnedL (t' := s.toks) (ch := [it]) (fun c o hb q => ?_) hf⟩
    exact kp c o (fun z => hb (by simp [z])) q
  self := fun _ _ _ _ _ st h => by
    obtain ⟨ok, ov, st⟩ := st
    have hT : Shared.TypeIs _ (.ref it) "dict_itemiterator" := ⟨_, st, rfl⟩
    refine wpAny_pyIter_slot hT PySem.F.slot_dict_itemiterator_iter (wpAny_call_entry PySem.F.slot_dict_itemiterator_iter hT entry_itemiter ?_ (PySem.F.args_dict_itemiterator_iter_1 _))
    show wpAny _ _ (ret (.ref it)) _ _ _
    exact wpAny_pure ⟨_, rfl, "dict_itemiterator", _, hT, PySem.F.slot_dict_itemiterator_next.lookup, h⟩
structure DKept (P : Program) (w : World) (K : PySem.W.Frag) (a : Addr) (kvs : List (Key × V)) : Prop where
  is : ∃ (o : Obj) (vs : List (Key × Value)) (ep : Nat), K.lookup a = some o ∧ KV kvs vs ∧ (∀ h : Heap, h.get? a = some o → h.DictAt (mixKind P w) a vs ep)
  ns : (a == sysModules) = false
def iItemsK (a : Addr) (kvs : List (Key × V)) (td : TE) : TI := fun σ H R => td σ H fun x H1 => x = .ref a ∧ R (ItP kvs) H1
section
variable {X : Cx} {o : Expr} {es : List Expr} {kk : Nat} {pt : Pos} {apos cpos : Pos} {td : TE}
theorem pi_itemsK {a : Addr} {kvs : List (Key × V)} (hD : DKept X.prog X.w X.K a kvs) (ho : PE X o td) (hb : attributeBase o "items" X.env (eval o X.env) = eval o X.env := by rfl) (hl : (apos.endLine == cpos.line) = true := by rfl) :
    PI X (.Tuple es kk pt) (.Call (.Attribute o "items" apos) [] [] cpos) (iItemsK a kvs td) := by
  intro pins s σ H R I h
  refine wpAny_Call_method hb rfl hl PySem.F.plainAttrs_dict PySem.F.slot_dict_items PySem.F.type_dict_items (thn (ho pins s σ H _ I h) fun u s1 ⟨x, H1, I1, rx, ex, q1⟩ => ?_)
  subst ex
  obtain rfl : u = Value.ref a := rx
  obtain ⟨ob, vs, ep, hk, rel, daK⟩ := hD.is
  have hob := I1.kIn a ob hk
  have da := daK _ hob
  have t2 : ∀ b, Value.ref a = .ref b → ∃ ob, s1.heap.get? b = some ob ∧ ob.dict = none := fun b q => by
    cases q
    obtain ⟨ob', _, h1, h2, _⟩ := da
    exact ⟨ob', h1, h2.2.1⟩
  refine ⟨da.dictOf.typeIs, t2, ?_⟩
  refine Calls.callWith_builtin rfl (PyProof.Rows.evalArgs_empty ?_)
  refine call_meetsIn PySem.F.slot_dict_items da.dictOf.typeIs PySem.F.entry_dict_items (PySem.F.args_dict_items_1 _) (meets_dict_items (mixKind X.prog X.w) a hD.ns) ⟨⟨vs, da.dictOf⟩, ?_⟩
  refine wpAny_pyIter_items (knd := mixKind X.prog X.w) (d := a) (kvs := vs) (ep := ep) ⟨_, Heap.get?_push_size _ rfl, rfl, rfl⟩ (da.push _) ?_
  have la : a < s1.heap.objs.size := Heap.lt_size hob
  refine ⟨_, [_], _, _, _, rfl, I1.kept (t' := s1.toks) fun b o e => Heap.get?_push_of_some _ (Heap.get?_push_of_some _ e), turn_itemsK (ep := ep) hk rel daK, ⟨_, _, Heap.get?_push_size _ rfl⟩, fun b hb => ?_, q1⟩
  cases (List.mem_singleton.mp hb)
  exact I1.fpOk (by rw [size_push']; omega) (I1.hok.fresh (by rw [size_push']; omega))
end
theorem for_itemsK {kvs : List (Key × V)} {g : TG} {tb : TS} {D : Ends} {σ : St} {H : Hp} (Pv : Nat → St → Hp → Prop) (h0 : Pv 0 σ H)
    (hs : ∀ (i : Nat) (k : Key) (v : V) (p : Addr) (σ : St) (H : Hp), kvs[i]? = some (k, v) → H p = none → Pv i σ H → g (.ref p) σ (upd H p (.tup [kV k, v])) fun σ2 H2 => tb { D with nx := Pv (i + 1), ct := Pv (i + 1), bk := D.nx } σ2 H2) (hd : ∀ σ H, Pv kvs.length σ H → D.nx σ H) :
    ∃ W : Nat → Nat → St → Hp → Prop, (∃ m, W 0 m σ H) ∧ ∀ i m σ H, W i m σ H →
      ((ItP kvs).stop i H ∧ D.nx σ H) ∨ ((ItP kvs).go i H ∧ ∃ N : St → Hp → Prop, (∀ σ' H', N σ' H' → ∃ m', m' < m ∧ W (i + 1) m' σ' H') ∧ ∀ x H', (ItP kvs).yld i H x H' → g x σ H' fun σ2 H2 => tb { D with nx := N, ct := N, bk := D.nx } σ2 H2) := by
  refine ⟨fun i m σ H => m = kvs.length - i ∧ i ≤ kvs.length ∧ Pv i σ H, ⟨kvs.length, by simp, Nat.zero_le _, h0⟩, ?_⟩
  rintro i m σ H ⟨rfl, hi, p⟩
  by_cases hlt : i < kvs.length
  · refine .inr ⟨hlt, Pv (i + 1), fun σ' H' p' => ⟨kvs.length - (i + 1), by omega, rfl, hlt, p'⟩, fun x H' y => ?_⟩
    obtain ⟨b, k, v, e1, hn, e3, e2⟩ := y
    subst e1 e2
    exact hs i k v b σ H e3 hn p
  · have e : i = kvs.length := by omega
    subst e
    exact .inl ⟨Nat.le_refl _, hd σ H p⟩
theorem dKept_of {P : Program} {w : World} {K : PySem.W.Frag} {a : Addr} {es : List DictEntry} {ep : Nat} {ps : List (Str × Str)} (hk : K.lookup a = some { cls := .type "dict", data := .dict es.toArray ep })
    (he : Paired (fun (p : Str × Str) (e : DictEntry) => e.hash = PyData.keyHash w.params p.1 ∧ (∃ t, e.key = .str p.1 t) ∧ ∃ t, e.val = .str p.2 t) ps es) (hn : (ps.map (·.1)).Nodup) (hs : (a == sysModules) = false) :
    DKept P w K a (ps.map fun p => (Sum.inr p.1, V.str p.2)) := by
  have key : ∀ {ps : List (Str × Str)} {es : List DictEntry}, Paired (fun (p : Str × Str) (e : DictEntry) => e.hash = PyData.keyHash w.params p.1 ∧ (∃ t, e.key = .str p.1 t) ∧ ∃ t, e.val = .str p.2 t) ps es →
      ∃ vs : List (Key × Value), KV (ps.map fun p => (Sum.inr p.1, V.str p.2)) vs ∧ vs.map (·.1) = ps.map (fun p => (Sum.inr p.1 : Key)) ∧ Pairs (mixKind P w) es vs ∧ ∀ e ∈ es, ∃ k, (mixKind P w).is k e.key = true ∧ e.hash = (mixKind P w).hash k := fun {ps es} h => by
    induction h with
    | nil => exact ⟨[], .nil, rfl, .nil, fun e he => nomatch he⟩
    | @cons p e ps es r t ih =>
      obtain ⟨vs, h1, h2, h3, h4⟩ := ih
      obtain ⟨rh, ⟨tk, rk⟩, tv, rv⟩ := r
      have hi : (mixKind P w).is (Sum.inr p.1) e.key = true := by
        rw [rk]
        show Value.isStrOf p.1 (.str p.1 tk) = true
        simp [Value.isStrOf]
      refine ⟨(Sum.inr p.1, e.val) :: vs, .cons ⟨rfl, ⟨tv, rv⟩⟩ h1, by rw [List.map_cons, List.map_cons, h2], .cons hi rfl h3, fun e' he' => ?_⟩
      rcases List.mem_cons.mp he' with z | z
      · rw [z]
        refine ⟨Sum.inr p.1, hi, ?_⟩
        rw [rh]
        rfl
      · exact h4 e' z
  obtain ⟨vs, h1, h2, h3, h4⟩ := key he
  refine ⟨⟨_, vs, ep, hk, h1, fun h e => ⟨_, es.toArray, e, ⟨rfl, rfl, rfl⟩, rfl, fun e' he' => h4 e' (by simpa using he'), by simpa using h3, ?_⟩⟩, hs⟩
  rw [h2, show ps.map (fun p => (Sum.inr p.1 : Key)) = (ps.map (·.1)).map Sum.inr by rw [List.map_map]; rfl]
  exact List.Pairwise.map _ (fun a b h e => h (Sum.inr.inj e)) hn
end L2
namespace S2
open PySem L2
theorem Same.put {H H2 : Hp} {l : Addr} {o : HO} (s : Same H H2) (hn : H l = none) : Same H (upd H2 l o) := fun b u e => by
  rw [upd_ne (ne_of_none e hn)]
  exact s b u e
theorem get_lt {α : Type} {l : List α} {i : Nat} {x : α} (h : l[i]? = some x) : i < l.length := (List.getElem?_eq_some_iff.mp h).1
theorem small {n : Nat} (h : n ≤ 100000) : n < sizeLine := Nat.lt_of_le_of_lt h (by decide)
theorem smallE {n : Nat} (h : n ≤ 100000) : n ≤ sizeLine := Nat.le_of_lt (small h)
theorem atI_of {α : Type} {xs : List α} {z : Int} {j : Nat} {v : α} (e : z = (j : Int)) (h : xs[j]? = some v) : atI xs z = some v := by
  rw [e]
  exact atI_nat h
theorem iteB {A B : Prop} {c : Bool} (h : c = true) (a : A) : if c = true then A else B := by rw [if_pos h]; exact a
theorem iteC {A B : Prop} {c : Bool} (h : c = false) (b : B) : if c = true then A else B := by rw [if_neg (by rw [h]; exact Bool.false_ne_true)]; exact b
theorem nat_of {z : Int} {n : Nat} (h0 : 0 ≤ z) (h1 : z < (n : Int)) : ∃ i : Nat, z = (i : Int) ∧ i < n := ⟨z.toNat, by omega, by omega⟩
end S2
namespace L2
open PySem PySem.Spec PyProof.Rows
inductive EqD (K : PySem.W.Frag) (H : Hp) : Nat → V → V → Bool → Prop
  | flat {n : Nat} {x y : V} (fx : flatV x = true) (fy : flatV y = true) : EqD K H n x y (eqV x y)
  | same {n : Nat} {a : Addr} : EqD K H n (.ref a) (.ref a) true
  | lst {n : Nat} {a b : Addr} {xs ys : List V} (ne : a ≠ b) (hA : SqL K H a xs) (hB : SqL K H b ys) (hl : xs.length = ys.length) (e : Nat → Bool)
      (he : ∀ (j : Nat) (x y : V), xs[j]? = some x → ys[j]? = some y → EqD K H n x y (e j)) : EqD K H (n + 1) (.ref a) (.ref b) ((List.range xs.length).all e)
  | tup {n : Nat} {a b : Addr} {xs ys : List V} (ne : a ≠ b) (hA : SqT K H a xs) (hB : SqT K H b ys) (hl : xs.length = ys.length) (e : Nat → Bool)
      (he : ∀ (j : Nat) (x y : V), xs[j]? = some x → ys[j]? = some y → EqD K H n x y (e j)) : EqD K H (n + 1) (.ref a) (.ref b) ((List.range xs.length).all e)
section
variable {X : Cx}
theorem vals_at {xs : List V} {us : List Value} (r : Vals xs us) (j : Nat) (h1 : j < us.toArray.size) : ∃ x, xs[j]? = some x ∧ RelV x us.toArray[j] := by
  have l1 := r.length
  rw [List.size_toArray] at h1
  have g1 : j < xs.length := by omega
  obtain ⟨w1, q1, p1⟩ := r.get (i := j) (x := xs[j]) (by simp [g1])
  have s1 : us.toArray[j] = w1 := by
    rw [List.getElem?_eq_getElem h1] at q1
    simpa using q1
  exact ⟨xs[j], by simp [g1], by rw [s1]; exact p1⟩
theorem eqD_at {pins : List (Addr × Obj)} {σ : St} {H : Hp} {s : Shared} (I : Inv X pins σ H s) {n : Nat} {x y : V} {b : Bool} (h : EqD X.K H n x y b) :
    ∀ {A : Around} {u v : Value}, A.units + n < cLine → RelV x u → RelV y v → SeqAt.EqAt A s u v b := by
  induction h with
  | flat fx fy => intro A u v _ rx ry; exact eqAt_V rx ry fx fy
  | @same n a =>
    intro A u v _ rx ry
    obtain rfl : u = Value.ref a := rx
    obtain rfl : v = Value.ref a := ry
    exact SeqAt.EqAt.same _
  | @lst n a b xs ys ne hA hB hl e he ih =>
    intro A u v hu rx ry
    obtain rfl : u = Value.ref a := rx
    obtain rfl : v = Value.ref b := ry
    obtain ⟨its, r, pl, hz⟩ := I.list hA
    obtain ⟨its2, r2, pl2, hz2⟩ := I.list hB
    have l1 := r.length
    have l2 := r2.length
    have rc := SeqAt.RcAt.lists (A := A) (s := s) (e := e) pl.isList pl2.isList (by rw [List.size_toArray, List.size_toArray]; omega) (by omega) (fun j h1 h2 => by
      obtain ⟨x, ex, rx⟩ := vals_at r j h1
      obtain ⟨y, ey, ry⟩ := vals_at r2 j h2
      exact ih j x y ex ey (show A.units + 1 + n < cLine by omega) rx ry)
    rw [List.size_toArray, ← l1] at rc
    exact SeqAt.EqAt.of_refs ne rc
  | @tup n a b xs ys ne hA hB hl e he ih =>
    intro A u v hu rx ry
    obtain rfl : u = Value.ref a := rx
    obtain rfl : v = Value.ref b := ry
    obtain ⟨its, r, pl, hz⟩ := I.tuple hA
    obtain ⟨its2, r2, pl2, hz2⟩ := I.tuple hB
    have l1 := r.length
    have l2 := r2.length
    have rc := SeqAt.RcAt.tuples (A := A) (s := s) (e := e) pl pl2 (by omega) (fun j h1 h2 => by
      obtain ⟨x, ex, rx⟩ := vals_at r j h1
      obtain ⟨y, ey, ry⟩ := vals_at r2 j h2
      exact ih j x y ex ey (show A.units + 1 + n < cLine by omega) rx ry)
    have e1 : min its.toArray.size its2.toArray.size = xs.length := by rw [List.size_toArray, List.size_toArray]; omega
    have e2 : (its.toArray.size == its2.toArray.size) = true := by rw [List.size_toArray, List.size_toArray]; exact beq_iff_eq.mpr (by omega)
    rw [e1, e2, Bool.and_true] at rc
    exact SeqAt.EqAt.of_refs ne rc
def rDeep (K : PySem.W.Frag) (neg : Bool) : R2 := fun x y H Q => ∃ (a b : Addr) (xs ys : List V) (e : Nat → Bool), x = .ref a ∧ y = .ref b ∧ ((SqL K H a xs ∧ SqL K H b ys) ∨ (SqT K H a xs ∧ SqT K H b ys)) ∧ xs.length = ys.length ∧
  (∀ (j : Nat) (x y : V), xs[j]? = some x → ys[j]? = some y → EqD K H 8 x y (e j)) ∧ Q (.bl (if neg then !((List.range xs.length).all e) else (List.range xs.length).all e)) H
theorem op_neDeep (hu : X.A.units + 20 < cLine) : OpR X (compareOp .NotEq) (rDeep X.K true) := by
  intro pins s σ H x y v u Q I rx ry h
  obtain ⟨a, b, xs, ys, e, e1, e2, hS, hl, he, q⟩ := h
  subst e1 e2
  obtain rfl : v = Value.ref a := rx
  obtain rfl : u = Value.ref b := ry
  rcases hS with ⟨hA, hB⟩ | ⟨hA, hB⟩
  · obtain ⟨its, r, pl, hz⟩ := I.list hA
    obtain ⟨its2, r2, pl2, hz2⟩ := I.list hB
    have l1 := r.length
    have l2 := r2.length
    refine SeqAt.RcNeAt.lists (e := e) pl.isList pl2.isList (by rw [List.size_toArray, List.size_toArray]; omega) (by omega) (fun j h1 h2 => ?_) _ _ _ _ ⟨.bl _, H, I, rfl, ?_⟩
    · obtain ⟨x, ex, rx⟩ := vals_at r j h1
      obtain ⟨y, ey, ry⟩ := vals_at r2 j h2
      exact eqD_at I (he j x y ex ey) (show X.A.units + 1 + 8 < cLine by omega) rx ry
    · rw [List.size_toArray, ← l1]
      exact q
  · obtain ⟨its, r, pl, hz⟩ := I.tuple hA
    obtain ⟨its2, r2, pl2, hz2⟩ := I.tuple hB
    have l1 := r.length
    have l2 := r2.length
    refine SeqAt.RcNeAt.tuples (e := e) pl pl2 (by omega) (fun j h1 h2 => ?_) _ _ _ _ ⟨.bl _, H, I, rfl, ?_⟩
    · obtain ⟨x, ex, rx⟩ := vals_at r j h1
      obtain ⟨y, ey, ry⟩ := vals_at r2 j h2
      exact eqD_at I (he j x y ex ey) (show X.A.units + 1 + 8 < cLine by omega) rx ry
    · have e1 : min its.toArray.size its2.toArray.size = xs.length := by rw [List.size_toArray, List.size_toArray]; omega
      have e2 : (its.toArray.size == its2.toArray.size) = true := by rw [List.size_toArray, List.size_toArray]; exact beq_iff_eq.mpr (by omega)
      rw [e1, e2, Bool.and_true]
      exact q
end
end L2
namespace L2
open PySem PySem.Spec PyProof.Rows
end L2
namespace S2
open PySem L2
def RowsOf (H : Hp) (as : List Addr) (rows : List (List V)) : Prop := as.length = rows.length ∧ ∀ (i : Nat) (p : Addr) (r : List V), as[i]? = some p → rows[i]? = some r → H p = some (.tup r)
theorem RowsOf.nil {H : Hp} : RowsOf H [] [] := ⟨rfl, fun i p r e => by simp at e⟩
theorem RowsOf.snoc {H H2 : Hp} {as : List Addr} {rows : List (List V)} {p : Addr} {r : List V} (h : RowsOf H as rows) (s : Same H H2) (hp : H2 p = some (.tup r)) : RowsOf H2 (as ++ [p]) (rows ++ [r]) := by
  refine ⟨by rw [List.length_append, List.length_append, h.1]; rfl, fun i q x e1 e2 => ?_⟩
  by_cases hi : i < as.length
  · rw [List.getElem?_append_left hi] at e1
    rw [List.getElem?_append_left (by rw [← h.1]; exact hi)] at e2
    exact s _ _ (h.2 i q x e1 e2)
  · rw [List.getElem?_append_right (by omega)] at e1
    rw [List.getElem?_append_right (by rw [← h.1]; omega), ← h.1] at e2
    cases e : i - as.length with
    | zero =>
      rw [e] at e1 e2
      cases e1
      cases e2
      exact hp
    | succ d => rw [e] at e1; simp at e1
structure Fl where
  nm : Str
  lf : Bool
  w : Int
  h : Int
structure Pl where
  nm : Str
  x : Int
  y : Int
  w : Int
  h : Int
end S2
namespace L2
open PySem PySem.Spec PyProof.Rows S2
section
variable {X : Cx}
end
end L2
namespace PySem
open Sem (wp)
section
variable {prog : Program} {w : World} {A : Around} {E : Value → Shared → Prop} {h : Heap} {g : Array GenState} {d : Drawn} {t : Nat} {os : OsState} {a : Addr} {o : Obj}
end
end PySem
namespace PySem.F
end PySem.F
namespace L2
open PySem PySem.Spec PyProof.Rows S2
section
variable {X : Cx} {pins : List (Addr × Obj)} {σ : St}
end
end L2
namespace L2
open PySem PySem.Spec PyProof.Rows S2
section
variable {X : Cx}
end
end L2
namespace L2
open PySem PySem.Spec PySem.W PyProof.Rows
section
variable {X : Cx}
end
end L2
namespace L2
open PySem PySem.Spec PyProof.Rows S2
def mergeP (kvs ps : List (Key × V)) : List (Key × V) := ps.foldl (fun acc p => putK acc p.1 p.2) kvs
theorem mergeP_len (ps : List (Key × V)) : ∀ kvs, (mergeP kvs ps).length ≤ kvs.length + ps.length := by
  induction ps with
  | nil => intro kvs; exact Nat.le_refl _
  | cons p r ih =>
    intro kvs
    have h1 := ih (putK kvs p.1 p.2)
    have h2 := length_putK kvs p.1 p.2
    show (mergeP (putK kvs p.1 p.2) r).length ≤ _
    rw [List.length_cons]
    omega
section
variable {X : Cx} {pins : List (Addr × Obj)} {σ : St}
end
section
variable {X : Cx}
end
end L2
namespace L2
open PySem PySem.Spec PyProof.Rows S2
section
variable {X : Cx}
theorem kv_merged {more : List (Key × V)} {us : List (Key × Value)} (r : KV more us) : ∀ {kvs : List (Key × V)} {vs : List (Key × Value)}, KV kvs vs → KV (mergeP kvs more) (merged vs us) := by
  induction r with
  | nil => intro kvs vs h; exact h
  | @cons p q l1 l2 h t ih =>
    intro kvs vs r0
    show KV (mergeP (putK kvs p.1 p.2) l1) (merged (stored vs q.1 q.2) l2)
    rw [← h.1]
    exact ih (r0.put p.1 h.2)
def rUpdK : V → List V → Hp → VK → Prop := fun x vs H Q => ∃ (d o : Addr) (kvs more : List (Key × V)), x = .ref d ∧ vs = [.ref o] ∧ d ≠ o ∧ H d = some (.dK kvs) ∧ Rd H o (.dK more) ∧ kvs.length + more.length ≤ sizeLine ∧ Q .non (upd H d (.dK (mergeP kvs more)))
theorem mt_updateK : MtM X "dict.update" rUpdK := by
  intro pins s σ H x vs v us Q I rx rv h
  obtain ⟨d, o, kvs, more, rfl, rfl, hdo, hd, ho, hsz, q⟩ := h
  cases rx
  obtain ⟨u, rfl, ru⟩ := rv.one
  obtain rfl : u = Value.ref o := ru
  obtain ⟨z, hdS, xs, rel, dd⟩ := dk_rd I.hok (.inl hd)
  obtain ⟨z2, hoS, ys, rel2, dd2⟩ := dk_rd I.hok ho
  have lx := Paired.length rel
  have ly := Paired.length rel2
  refine call_meetsIn PySem.F.slot_dict_update dd.typeIs PySem.F.entry_dict_update (PySem.F.args_dict_update_2 _ _) (meets_dict_update (mixKind X.prog X.w) d o hdo hoS) ⟨xs, ys, dd, dd2, by omega, fun h' dd' _ hs => ?_⟩
  have hl : (mergeP kvs more).length ≤ sizeLine := by have := mergeP_len more kvs; omega
  obtain ⟨qo, es, ep, hq, rest⟩ := id dd'
  have I' : Inv X pins σ (upd H d (.dK (mergeP kvs more))) { s with heap := h' } := d_write I (by rw [hd]; exact True.intro) hs ⟨qo, hq⟩ ⟨hl, hdS, _, kv_merged rel2 rel, dd'⟩
  exact ⟨.non, _, I', rfl, q⟩
end
end L2
namespace L2
open PySem
section
variable {prog : Program} {w : World} {A : Around} {R : Result → Shared → Prop} {I Z : Addr} {fp wr : List Addr} {n : Nat} {P : Nat → Value → Prop} {St : Nat → Heap → Prop} {Ok : Heap → Prop}
end
section
variable {prog : Program} {w : World} {A : Around} {E : Value → Shared → Prop} {s : Shared}
end
end L2
namespace DV
open PySem PySem.W PyProof.Rows
section
variable {prog : Program} {w : World} {A : Around} {E : Value → Shared → Prop} {s : Shared} {Q : Value → Shared → Prop}
end
open PySem.SeqAt
open PySem.AutoSeq1 (wpAny_loadPart')
open PySem.MeetsSeq PySem.MeetsSeq2 PySem.MeetsSeq3
section
variable {prog : Program} {w : World} {A : Around} {E : Value → Shared → Prop} {s : Shared}
end
end DV
namespace DV
open PySem
end DV
namespace L2
open PySem PySem.Spec PySem.W PyProof.Rows
section
variable {X : Cx}
theorem rep_len (x : Array Nat) : ∀ (n : Nat) (acc : Array Nat), ((List.replicate n x).foldl (· ++ ·) acc).size = acc.size + n * x.size
  | 0, acc => by simp
  | n + 1, acc => by
    rw [List.replicate_succ, List.foldl_cons, rep_len x n, Array.size_append, Nat.succ_mul]
    omega
end
end L2
namespace B08
open PySem L2 S2 DW
structure Own where
  w0 : Int
  w1 : Int
  h0 : Int
  h1 : Int
  gr : Int
  sh : Int
  rk : Int
  al : Int
inductive What where
  | leaf (a b : Int)
  | lined (k : Nat) (g : Int) (al sd : Str)
  | table (c g : Int) (sd : Str) (sps : List (Int × Int))
  | words (ws : List (List Str)) (j : Int)
  | flow (sds : List Str) (ws : List (List Str)) (j : Int)
  | over (ps : List ((Str × Int) × (Str × Int)))
def What.kd : What → Str
  | .leaf _ _ => "leaf"
  | .lined 0 _ _ _ => "row"
  | .lined 1 _ _ _ => "column"
  | .lined _ _ _ _ => "wrap"
  | .table _ _ _ _ => "table"
  | .words _ _ => "words"
  | .flow _ _ _ => "flow"
  | .over _ => "over"
abbrev plainL : List (Str × Str) := [("wide", "0..1000000"), ("high", "0..1000000"), ("grow", "0"), ("shrink", "1"), ("rank", "0"), ("alike", "0"), ("wish", "0,0"), ("columns", "1"), ("gap", "0"), ("align", "start"), ("side", "left"), ("joint", "50"), ("span", "1,1"), ("float", "left"), ("at", "start,0,start,0"), ("text", "")]
def two (s : Str) (a b : Int) : Str := nS a ++ (s ++ nS b)
def wtx (ws : List (List Str)) : Str := Txt.join " " (ws.map (Txt.join "|"))
def four (p : (Str × Int) × (Str × Int)) : Str := p.1.1 ++ ("," ++ (nS p.1.2 ++ ("," ++ (p.2.1 ++ ("," ++ nS p.2.2)))))
def ownP (o : Own) : List (Str × Str) := [("wide", two ".." o.w0 o.w1), ("high", two ".." o.h0 o.h1), ("grow", nS o.gr), ("shrink", nS o.sh), ("rank", nS o.rk), ("alike", nS o.al)]
def whatP : What → List (Str × Str)
  | .leaf a b => [("wish", two "," a b)]
  | .lined _ g al sd => [("gap", nS g), ("align", al), ("side", sd)]
  | .table c g sd _ => [("columns", nS c), ("gap", nS g), ("side", sd)]
  | .words ws j => [("text", wtx ws), ("joint", nS j)]
  | .flow _ ws j => [("text", wtx ws), ("joint", nS j)]
  | .over _ => []
def partP : What → Nat → List (Str × Str)
  | .table _ _ _ sps, i => [("span", two "," (sps.getD i (1, 1)).1 (sps.getD i (1, 1)).2)]
  | .flow sds _ _, i => [("float", sds.getD i "left")]
  | .over ps, i + 1 => [("at", four (ps.getD i (("", 0), ("", 0))))]
  | _, _ => []
def lk (ps : List (Str × Str)) (w : Str) : Option Str := (ps.find? fun p => decide (p.1 = w)).map (·.2)
def pick (ps : List (Str × Str)) (p : Str × Str) : List Str := if (lk ps p.1).getD p.2 = p.2 then [] else [(p.1 ++ "=") ++ (lk ps p.1).getD p.2]
def rW (key : Str) (a b : Int) : List Str := if (a, b) = ((0 : Int), (1000000 : Int)) then [] else [(((key ++ "=") ++ nS a) ++ "..") ++ nS b]
def nW (key : Str) (a p : Int) : List Str := if a = p then [] else [(key ++ "=") ++ nS a]
def ownW (o : Own) : List Str := rW "wide" o.w0 o.w1 ++ (rW "high" o.h0 o.h1 ++ (nW "grow" o.gr 0 ++ (nW "shrink" o.sh 1 ++ (nW "rank" o.rk 0 ++ nW "alike" o.al 0))))
def gW (g : Int) : List Str := if g = 0 then [] else ["gap=" ++ nS g]
def aW (al : Str) : List Str := if al = "start" then [] else ["align=" ++ al]
def sW (sd : Str) : List Str := if sd = "left" then [] else ["side=" ++ sd]
def jW (j : Int) : List Str := if j = 50 then [] else ["joint=" ++ nS j]
def whatW : What → List Str
  | .leaf a b => if (a, b) = ((0 : Int), (0 : Int)) then [] else [(("wish=" ++ nS a) ++ ",") ++ nS b]
  | .lined _ g al sd => gW g ++ (aW al ++ sW sd)
  | .table c g sd _ => (if c = 1 then [] else ["columns=" ++ nS c]) ++ (gW g ++ sW sd)
  | .words _ j => jW j
  | .flow _ _ j => jW j
  | .over _ => []
def exW : What → Nat → List Str
  | .table _ _ _ sps, i => if sps.getD i (1, 1) = (1, 1) then [] else [(("span=" ++ nS (sps.getD i (1, 1)).1) ++ ",") ++ nS (sps.getD i (1, 1)).2]
  | .flow sds _ _, i => if sds.getD i "left" = "left" then [] else ["float=right"]
  | .over ps, i + 1 => if ps.getD i (("", 0), ("", 0)) = (((("start" : Str), (0 : Int)), (("start" : Str), (0 : Int))) : (Str × Int) × (Str × Int)) then [] else
      [(((((("at=" ++ (ps.getD i (("", 0), ("", 0))).1.1) ++ ",") ++ nS (ps.getD i (("", 0), ("", 0))).1.2) ++ ",") ++ (ps.getD i (("", 0), ("", 0))).2.1) ++ ",") ++ nS (ps.getD i (("", 0), ("", 0))).2.2]
  | _, _ => []
def txW : What → List Str
  | .words ws _ => if ws = [] then [] else ["text=" ++ wtx ws]
  | .flow _ ws _ => if ws = [] then [] else ["text=" ++ wtx ws]
  | _ => []
def GoodWs (ws : List (List Str)) : Prop := ws.length ≤ 3 ∧ ∀ w ∈ ws, 1 ≤ w.length ∧ w.length ≤ 3 ∧ ∀ x ∈ w, 1 ≤ x.length ∧ x.length ≤ 4
def GoodN (i : Int) : Prop := i.natAbs < 1000000000
def GoodA (p : Str × Int) : Prop := 44 ∉ p.1.cps.toList ∧ p.1.length ≤ 10 ∧ GoodN p.2
def What.Good : What → Prop
  | .leaf a b => GoodN a ∧ GoodN b
  | .lined _ g al sd => GoodN g ∧ al.length ≤ 10 ∧ sd.length ≤ 10
  | .table c g sd sps => GoodN c ∧ GoodN g ∧ sd.length ≤ 10 ∧ ∀ p ∈ sps, GoodN p.1 ∧ GoodN p.2
  | .words ws j => GoodWs ws ∧ GoodN j
  | .flow sds ws j => (∀ s ∈ sds, s = "left" ∨ s = "right") ∧ GoodWs ws ∧ GoodN j
  | .over ps => ∀ p ∈ ps, GoodA p.1 ∧ GoodA p.2
def Own.Good (o : Own) : Prop := GoodN o.w0 ∧ GoodN o.w1 ∧ GoodN o.h0 ∧ GoodN o.h1 ∧ GoodN o.gr ∧ GoodN o.sh ∧ GoodN o.rk ∧ GoodN o.al
theorem lk_app (a b : List (Str × Str)) (w : Str) : lk (a ++ b) w = (lk a w).or (lk b w) := by
  unfold lk
  rw [List.find?_append]
  cases a.find? fun p => decide (p.1 = w) <;> rfl
theorem lk_val (ps : List (Str × Str)) (w : Str) : valV (ps.map fun p => (Sum.inr p.1, V.str p.2)) (Sum.inr w : Key) = (lk ps w).map V.str := by
  induction ps with
  | nil => rfl
  | cons p r ih =>
    unfold lk
    by_cases e : p.1 = w
    · rw [List.map_cons, valV_pos (by rw [e]), List.find?_cons_of_pos (by simpa using e)]
      rfl
    · rw [List.map_cons, valV_neg (fun z => e (Sum.inr.inj z)), List.find?_cons_of_neg (by simpa using e)]
      exact ih
theorem dd : (".." : Str).cps.toList = 46 :: [46] := by decide +kernel
theorem cm : ("," : Str).cps.toList = 44 :: [] := by decide +kernel
theorem w6 : ("0..1000000" : Str) = two ".." 0 1000000 := by decide +kernel
theorem w00 : ("0,0" : Str) = two "," 0 0 := by decide +kernel
theorem w11 : ("1,1" : Str) = two "," 1 1 := by decide +kernel
theorem n0 : ("0" : Str) = nS 0 := by decide +kernel
theorem n1 : ("1" : Str) = nS 1 := by decide +kernel
theorem n50 : ("50" : Str) = nS 50 := by decide +kernel
theorem two_iff {s : Str} {c : Nat} {t : List Nat} (hs : s.cps.toList = c :: t) (hc : c < 45 ∨ (45 < c ∧ c < 48) ∨ 57 < c) {a b a' b' : Int} : two s a b = two s a' b' ↔ (a, b) = (a', b') :=
  ⟨fun e => by obtain ⟨h1, h2⟩ := two_inj hs hc e; rw [h1, h2], fun e => by injection e with e1 e2; rw [e1, e2]⟩
theorem nS_iff {a b : Int} : nS a = nS b ↔ a = b := ⟨nS_inj, fun e => by rw [e]⟩
theorem pick_some {ps : List (Str × Str)} {p : Str × Str} {t : Str} (h : lk ps p.1 = some t) : pick ps p = if t = p.2 then [] else [(p.1 ++ "=") ++ t] := by unfold pick; rw [h]; rfl
theorem pick_none {ps : List (Str × Str)} {p : Str × Str} (h : lk ps p.1 = none) : pick ps p = [] := by unfold pick; rw [h]; exact if_pos rfl
theorem ifIff {α : Type} {a b : Prop} [Decidable a] [Decidable b] (h : a ↔ b) {x y y' : α} (e : y = y') : (if a then x else y) = (if b then x else y') := by
  subst e
  by_cases c : b
  · rw [if_pos c, if_pos (h.mpr c)]
  · rw [if_neg c, if_neg (fun z => c (h.mp z))]
theorem own_lk (o : Own) : lk (ownP o) "wide" = some (two ".." o.w0 o.w1) ∧ lk (ownP o) "high" = some (two ".." o.h0 o.h1) ∧ lk (ownP o) "grow" = some (nS o.gr) ∧ lk (ownP o) "shrink" = some (nS o.sh) ∧ lk (ownP o) "rank" = some (nS o.rk) ∧ lk (ownP o) "alike" = some (nS o.al) :=
  ⟨by kernel_rfl, by kernel_rfl, by kernel_rfl, by kernel_rfl, by kernel_rfl, by kernel_rfl⟩
theorem own_no (o : Own) : ∀ w ∈ (["wish", "columns", "gap", "align", "side", "joint", "span", "float", "at", "text"] : List Str), lk (ownP o) w = none := by
  have k : ∀ ws : List Str, (ws.all fun w => decide (w ∉ (["wide", "high", "grow", "shrink", "rank", "alike"] : List Str))) = true → ∀ w ∈ ws, lk (ownP o) w = none := fun ws h w hw => by
    have h1 := of_decide_eq_true (List.all_eq_true.mp h w hw)
    unfold lk
    rw [List.find?_eq_none.mpr]
    · rfl
    · intro p hp e
      refine h1 ?_
      rw [← of_decide_eq_true e]
      exact List.mem_map_of_mem (f := (·.1)) hp
  exact k _ (by decide +kernel)
theorem lk_part_no (wh : What) (i : Nat) : ∀ w ∈ (["wish", "columns", "gap", "align", "side", "joint", "text"] : List Str), lk (partP wh i) w = none := by
  have k : ∀ (ps : List (Str × Str)), (∀ p ∈ ps, p.1 = "span" ∨ p.1 = "float" ∨ p.1 = "at") → ∀ ws : List Str, (ws.all fun w => decide (w ≠ "span" ∧ w ≠ "float" ∧ w ≠ "at")) = true → ∀ w ∈ ws, lk ps w = none := fun ps hp ws h w hw => by
    obtain ⟨h1, h2, h3⟩ := of_decide_eq_true (List.all_eq_true.mp h w hw)
    unfold lk
    rw [List.find?_eq_none.mpr]
    · rfl
    · intro p hp' e
      have e := of_decide_eq_true e
      rcases hp p hp' with z | z | z <;> rw [z] at e
      · exact h1 e.symm
      · exact h2 e.symm
      · exact h3 e.symm
  refine k _ (fun p hp => ?_) _ (by decide +kernel)
  unfold partP at hp
  split at hp
  · rw [List.mem_singleton.mp hp]; exact .inl rfl
  · rw [List.mem_singleton.mp hp]; exact .inr (.inl rfl)
  · rw [List.mem_singleton.mp hp]; exact .inr (.inr rfl)
  · cases hp
theorem lk_what_no (wh : What) : ∀ w ∈ (["span", "float", "at"] : List Str), lk (whatP wh) w = none := by
  have k : ∀ (ps : List (Str × Str)), (∀ p ∈ ps, p.1 ∈ (["wish", "columns", "gap", "align", "side", "joint", "text"] : List Str)) → ∀ ws : List Str, (ws.all fun w => decide (w ∉ (["wish", "columns", "gap", "align", "side", "joint", "text"] : List Str))) = true → ∀ w ∈ ws, lk ps w = none := fun ps hp ws h w hw => by
    have h1 := of_decide_eq_true (List.all_eq_true.mp h w hw)
    unfold lk
    rw [List.find?_eq_none.mpr]
    · rfl
    · intro p hp' e
      refine h1 ?_
      rw [← of_decide_eq_true e]
      exact hp p hp'
  refine k _ (fun p hp => ?_) _ (by decide +kernel)
  cases wh <;> simp only [whatP, List.mem_cons, List.not_mem_nil, or_false] at hp <;> simp only [List.mem_cons, List.not_mem_nil, or_false]
  · rw [hp]; simp
  · rcases hp with z | z | z <;> rw [z] <;> simp
  · rcases hp with z | z | z <;> rw [z] <;> simp
  · rcases hp with z | z <;> rw [z] <;> simp
  · rcases hp with z | z <;> rw [z] <;> simp
theorem lk1 {o : Own} {b : List (Str × Str)} {w t : Str} (h : lk (ownP o) w = some t) : lk (ownP o ++ b) w = some t := by rw [lk_app, h]; rfl
theorem lk2 {o : Own} {b c : List (Str × Str)} {w : Str} {t : Option Str} (h : lk (ownP o) w = none) (h2 : lk c w = none) (hb : lk b w = t) : lk (ownP o ++ (b ++ c)) w = t := by
  rw [lk_app, h, lk_app, h2, hb]
  cases t <;> rfl
theorem lk3 {o : Own} {b c : List (Str × Str)} {w : Str} {t : Option Str} (h : lk (ownP o) w = none) (h2 : lk b w = none) (hb : lk c w = t) : lk (ownP o ++ (b ++ c)) w = t := by
  rw [lk_app, h, lk_app, h2, hb]
  rfl
theorem len_pos_ne {x : Str} (h : 1 ≤ x.length) : x ≠ "" := fun e => by
  rw [e] at h
  exact absurd h (by decide +kernel)
theorem join_pos (s : Str) : ∀ {ys : List Str}, ys ≠ [] → (∀ y ∈ ys, 1 ≤ y.length) → 1 ≤ (Txt.join s ys).length
  | [], h, _ => absurd rfl h
  | [x], _, h => h x List.mem_cons_self
  | x :: y :: r, _, h => by
    rw [glueN, Str.length_append]
    have := h x List.mem_cons_self
    omega
theorem wtx_iff {ws : List (List Str)} (h : GoodWs ws) : wtx ws = "" ↔ ws = [] := by
  constructor
  · intro e
    cases ws with
    | nil => rfl
    | cons w r =>
      refine absurd e (len_pos_ne (join_pos _ (by simp) fun y hy => ?_))
      obtain ⟨v, hv, rfl⟩ := List.mem_map.mp hy
      obtain ⟨h1, _, h3⟩ := h.2 v hv
      exact join_pos _ (fun z => by rw [z] at h1; exact absurd h1 (by decide)) fun x hx => (h3 x hx).1
  · intro e
    rw [e]
    decide +kernel
theorem four_iff {p : (Str × Int) × (Str × Int)} (h1 : GoodA p.1) (h2 : GoodA p.2) : four p = "start,0,start,0" ↔ p = (((("start" : Str), (0 : Int)), (("start" : Str), (0 : Int))) : (Str × Int) × (Str × Int)) := by
  have e0 : ("start,0,start,0" : Str) = four ((("start" : Str), (0 : Int)), (("start" : Str), (0 : Int))) := by decide +kernel
  have hst : 44 ∉ ("start" : Str).cps.toList := by decide +kernel
  constructor
  · intro e
    rw [e0] at e
    unfold four at e
    obtain ⟨a1, e⟩ := cut_str h1.1 hst cm e
    obtain ⟨a2, e⟩ := cut_str (nS_no (by decide) _) (nS_no (by decide) _) cm e
    obtain ⟨a3, a4⟩ := cut_str h2.1 hst cm e
    obtain ⟨⟨s1, i1⟩, s2, i2⟩ := p
    dsimp only at a1 a2 a3 a4
    rw [a1, nS_inj a2, a3, nS_inj a4]
  · intro e
    rw [e, e0]
theorem row_eq (o : Own) {wh eh : What} {i : Nat} (hw : wh.Good) (he : eh.Good) : plainL.flatMap (pick (ownP o ++ (whatP wh ++ partP eh i))) = ownW o ++ (whatW wh ++ (exW eh i ++ txW wh)) := by
  have on := own_no o
  have pn := lk_part_no eh i
  have wn := lk_what_no wh
  obtain ⟨o1, o2, o3, o4, o5, o6⟩ := own_lk o
  have c46 : (46 : Nat) < 45 ∨ (45 < 46 ∧ 46 < 48) ∨ 57 < 46 := by decide
  have c44 : (44 : Nat) < 45 ∨ (45 < 44 ∧ 44 < 48) ∨ 57 < 44 := by decide
  have P1 : ([("wide", "0..1000000"), ("high", "0..1000000"), ("grow", "0"), ("shrink", "1"), ("rank", "0"), ("alike", "0")] : List (Str × Str)).flatMap (pick (ownP o ++ (whatP wh ++ partP eh i))) = ownW o := by
    simp only [List.flatMap_cons, List.flatMap_nil, List.append_nil]
    rw [pick_some (p := ("wide", _)) (lk1 o1), pick_some (p := ("high", _)) (lk1 o2), pick_some (p := ("grow", _)) (lk1 o3), pick_some (p := ("shrink", _)) (lk1 o4), pick_some (p := ("rank", _)) (lk1 o5), pick_some (p := ("alike", _)) (lk1 o6)]
    unfold ownW rW nW
    dsimp only
    rw [w6, n0, n1]
    refine congr (congrArg _ (ifIff (two_iff dd c46) ?_)) (congr (congrArg _ (ifIff (two_iff dd c46) ?_)) (congr (congrArg _ (ifIff nS_iff rfl)) (congr (congrArg _ (ifIff nS_iff rfl)) (congr (congrArg _ (ifIff nS_iff rfl)) (ifIff nS_iff rfl)))))
    · unfold two; simp only [str_assoc]
    · unfold two; simp only [str_assoc]
  have sub : ∀ w ∈ (["wish", "columns", "gap", "align", "side", "joint", "text"] : List Str), w ∈ (["wish", "columns", "gap", "align", "side", "joint", "span", "float", "at", "text"] : List Str) := by decide +kernel
  have sub3 : ∀ w ∈ (["span", "float", "at"] : List Str), w ∈ (["wish", "columns", "gap", "align", "side", "joint", "span", "float", "at", "text"] : List Str) := by decide +kernel
  have lkW : ∀ w ∈ (["wish", "columns", "gap", "align", "side", "joint", "text"] : List Str), ∀ t, lk (whatP wh) w = t → lk (ownP o ++ (whatP wh ++ partP eh i)) w = t := fun w hw t ht => lk2 (on w (sub w hw)) (pn w hw) ht
  have lkP : ∀ w ∈ (["span", "float", "at"] : List Str), ∀ t, lk (partP eh i) w = t → lk (ownP o ++ (whatP wh ++ partP eh i)) w = t := fun w hw t ht => lk3 (on w (sub3 w hw)) (wn w hw) ht
  have m1 : ("wish" : Str) ∈ (["wish", "columns", "gap", "align", "side", "joint", "text"] : List Str) := by decide +kernel
  have m2 : ("columns" : Str) ∈ (["wish", "columns", "gap", "align", "side", "joint", "text"] : List Str) := by decide +kernel
  have m3 : ("gap" : Str) ∈ (["wish", "columns", "gap", "align", "side", "joint", "text"] : List Str) := by decide +kernel
  have m4 : ("align" : Str) ∈ (["wish", "columns", "gap", "align", "side", "joint", "text"] : List Str) := by decide +kernel
  have m5 : ("side" : Str) ∈ (["wish", "columns", "gap", "align", "side", "joint", "text"] : List Str) := by decide +kernel
  have m6 : ("joint" : Str) ∈ (["wish", "columns", "gap", "align", "side", "joint", "text"] : List Str) := by decide +kernel
  have m7 : ("text" : Str) ∈ (["wish", "columns", "gap", "align", "side", "joint", "text"] : List Str) := by decide +kernel
  have k1 : ("wish" : Str) ++ "=" = "wish=" := by decide +kernel
  have k2 : ("columns" : Str) ++ "=" = "columns=" := by decide +kernel
  have k3 : ("gap" : Str) ++ "=" = "gap=" := by decide +kernel
  have k4 : ("align" : Str) ++ "=" = "align=" := by decide +kernel
  have k5 : ("side" : Str) ++ "=" = "side=" := by decide +kernel
  have k6 : ("joint" : Str) ++ "=" = "joint=" := by decide +kernel
  have k7 : ("text" : Str) ++ "=" = "text=" := by decide +kernel
  have k8 : ("span" : Str) ++ "=" = "span=" := by decide +kernel
  have k9 : ("float" : Str) ++ "=" = "float=" := by decide +kernel
  have k10 : ("at" : Str) ++ "=" = "at=" := by decide +kernel
  have P2 : ([("wish", "0,0"), ("columns", "1"), ("gap", "0"), ("align", "start"), ("side", "left"), ("joint", "50")] : List (Str × Str)).flatMap (pick (ownP o ++ (whatP wh ++ partP eh i))) = whatW wh := by
    simp only [List.flatMap_cons, List.flatMap_nil, List.append_nil]
    cases wh with
    | leaf a b =>
      rw [pick_some (p := ("wish", _)) (lkW _ m1 (some (two "," a b)) (by kernel_rfl)), pick_none (p := ("columns", _)) (lkW _ m2 none (by kernel_rfl)), pick_none (p := ("gap", _)) (lkW _ m3 none (by kernel_rfl)), pick_none (p := ("align", _)) (lkW _ m4 none (by kernel_rfl)), pick_none (p := ("side", _)) (lkW _ m5 none (by kernel_rfl)), pick_none (p := ("joint", _)) (lkW _ m6 none (by kernel_rfl))]
      simp only [List.append_nil]
      unfold whatW
      rw [w00, k1]
      exact ifIff (two_iff cm c44) (by unfold two; simp only [str_assoc])
    | lined n g al sd =>
      rw [pick_none (p := ("wish", _)) (lkW _ m1 none (by kernel_rfl)), pick_none (p := ("columns", _)) (lkW _ m2 none (by kernel_rfl)), pick_some (p := ("gap", _)) (lkW _ m3 (some (nS g)) (by kernel_rfl)), pick_some (p := ("align", _)) (lkW _ m4 (some al) (by kernel_rfl)), pick_some (p := ("side", _)) (lkW _ m5 (some sd) (by kernel_rfl)), pick_none (p := ("joint", _)) (lkW _ m6 none (by kernel_rfl))]
      simp only [List.append_nil, List.nil_append]
      unfold whatW gW aW sW
      rw [k3, k4, k5]
      dsimp only
      rw [n0]
      exact congr (congrArg _ (ifIff nS_iff rfl)) rfl
    | table c g sd sps =>
      rw [pick_none (p := ("wish", _)) (lkW _ m1 none (by kernel_rfl)), pick_some (p := ("columns", _)) (lkW _ m2 (some (nS c)) (by kernel_rfl)), pick_some (p := ("gap", _)) (lkW _ m3 (some (nS g)) (by kernel_rfl)), pick_none (p := ("align", _)) (lkW _ m4 none (by kernel_rfl)), pick_some (p := ("side", _)) (lkW _ m5 (some sd) (by kernel_rfl)), pick_none (p := ("joint", _)) (lkW _ m6 none (by kernel_rfl))]
      simp only [List.append_nil, List.nil_append]
      unfold whatW gW sW
      rw [k2, k3, k5]
      dsimp only
      rw [n0, n1]
      exact congr (congrArg _ (ifIff nS_iff rfl)) (congr (congrArg _ (ifIff nS_iff rfl)) rfl)
    | words ws j =>
      rw [pick_none (p := ("wish", _)) (lkW _ m1 none (by kernel_rfl)), pick_none (p := ("columns", _)) (lkW _ m2 none (by kernel_rfl)), pick_none (p := ("gap", _)) (lkW _ m3 none (by kernel_rfl)), pick_none (p := ("align", _)) (lkW _ m4 none (by kernel_rfl)), pick_none (p := ("side", _)) (lkW _ m5 none (by kernel_rfl)), pick_some (p := ("joint", _)) (lkW _ m6 (some (nS j)) (by kernel_rfl))]
      simp only [List.nil_append]
      unfold whatW jW
      rw [k6]
      dsimp only
      rw [n50]
      exact ifIff nS_iff rfl
    | flow sds ws j =>
      rw [pick_none (p := ("wish", _)) (lkW _ m1 none (by kernel_rfl)), pick_none (p := ("columns", _)) (lkW _ m2 none (by kernel_rfl)), pick_none (p := ("gap", _)) (lkW _ m3 none (by kernel_rfl)), pick_none (p := ("align", _)) (lkW _ m4 none (by kernel_rfl)), pick_none (p := ("side", _)) (lkW _ m5 none (by kernel_rfl)), pick_some (p := ("joint", _)) (lkW _ m6 (some (nS j)) (by kernel_rfl))]
      simp only [List.nil_append]
      unfold whatW jW
      rw [k6]
      dsimp only
      rw [n50]
      exact ifIff nS_iff rfl
    | over ps =>
      rw [pick_none (p := ("wish", _)) (lkW _ m1 none rfl), pick_none (p := ("columns", _)) (lkW _ m2 none rfl), pick_none (p := ("gap", _)) (lkW _ m3 none rfl), pick_none (p := ("align", _)) (lkW _ m4 none rfl), pick_none (p := ("side", _)) (lkW _ m5 none rfl), pick_none (p := ("joint", _)) (lkW _ m6 none rfl)]
      rfl
  have q1 : ("span" : Str) ∈ (["span", "float", "at"] : List Str) := by decide +kernel
  have q2 : ("float" : Str) ∈ (["span", "float", "at"] : List Str) := by decide +kernel
  have q3 : ("at" : Str) ∈ (["span", "float", "at"] : List Str) := by decide +kernel
  have none3 : partP eh i = [] → exW eh i = [] → ([("span", "1,1"), ("float", "left"), ("at", "start,0,start,0")] : List (Str × Str)).flatMap (pick (ownP o ++ (whatP wh ++ partP eh i))) = exW eh i := fun e1 e2 => by
    simp only [List.flatMap_cons, List.flatMap_nil, List.append_nil]
    rw [pick_none (p := ("span", _)) (lkP _ q1 none (by rw [e1]; rfl)), pick_none (p := ("float", _)) (lkP _ q2 none (by rw [e1]; rfl)), pick_none (p := ("at", _)) (lkP _ q3 none (by rw [e1]; rfl)), e2]
    rfl
  have P3 : ([("span", "1,1"), ("float", "left"), ("at", "start,0,start,0")] : List (Str × Str)).flatMap (pick (ownP o ++ (whatP wh ++ partP eh i))) = exW eh i := by
    cases eh with
    | leaf a b => exact none3 rfl rfl
    | lined n g al sd => exact none3 rfl rfl
    | words ws j => exact none3 rfl rfl
    | table c g sd sps =>
      simp only [List.flatMap_cons, List.flatMap_nil, List.append_nil]
      rw [pick_some (p := ("span", _)) (lkP _ q1 (some (two "," (sps.getD i (1, 1)).1 (sps.getD i (1, 1)).2)) (by kernel_rfl)), pick_none (p := ("float", _)) (lkP _ q2 none (by kernel_rfl)), pick_none (p := ("at", _)) (lkP _ q3 none (by kernel_rfl))]
      simp only [List.append_nil]
      unfold exW
      rw [w11, k8]
      exact ifIff (two_iff cm c44) (by unfold two; simp only [str_assoc])
    | flow sds ws j =>
      simp only [List.flatMap_cons, List.flatMap_nil, List.append_nil]
      rw [pick_none (p := ("span", _)) (lkP _ q1 none (by kernel_rfl)), pick_some (p := ("float", _)) (lkP _ q2 (some (sds.getD i "left")) (by kernel_rfl)), pick_none (p := ("at", _)) (lkP _ q3 none (by kernel_rfl))]
      simp only [List.append_nil, List.nil_append]
      unfold exW
      rw [k9]
      dsimp only
      by_cases c : sds.getD i "left" = "left"
      · rw [if_pos c, if_pos c]
      · rw [if_neg c, if_neg c]
        have hi : i < sds.length := by
          rcases Nat.lt_or_ge i sds.length with z | z
          · exact z
          · exact absurd (by rw [List.getD_eq_getElem?_getD, List.getElem?_eq_none z]; rfl) c
        have hm : sds.getD i "left" ∈ sds := by
          rw [List.getD_eq_getElem?_getD, List.getElem?_eq_getElem hi]
          exact List.getElem_mem hi
        rcases he.1 _ hm with z | z
        · exact absurd z c
        · rw [z]
          decide +kernel
    | over ps =>
      cases i with
      | zero => exact none3 rfl rfl
      | succ i =>
        simp only [List.flatMap_cons, List.flatMap_nil, List.append_nil]
        rw [pick_none (p := ("span", _)) (lkP _ q1 none (by kernel_rfl)), pick_none (p := ("float", _)) (lkP _ q2 none (by kernel_rfl)), pick_some (p := ("at", _)) (lkP _ q3 (some (four (ps.getD i (("", 0), ("", 0))))) (by kernel_rfl))]
        simp only [List.nil_append]
        unfold exW
        rw [k10]
        have hg : GoodA (ps.getD i (("", 0), ("", 0))).1 ∧ GoodA (ps.getD i (("", 0), ("", 0))).2 := by
          rw [List.getD_eq_getElem?_getD]
          cases e : ps[i]? with
          | some p => exact he p (List.mem_of_getElem? e)
          | none => exact ⟨⟨by decide +kernel, by decide +kernel, by show (0 : Nat) < 1000000000; decide⟩, ⟨by decide +kernel, by decide +kernel, by show (0 : Nat) < 1000000000; decide⟩⟩
        exact ifIff (four_iff hg.1 hg.2) (by unfold four; simp only [str_assoc])
  have P4 : ([("text", "")] : List (Str × Str)).flatMap (pick (ownP o ++ (whatP wh ++ partP eh i))) = txW wh := by
    simp only [List.flatMap_cons, List.flatMap_nil, List.append_nil]
    cases wh with
    | leaf a b => rw [pick_none (p := ("text", _)) (lkW _ m7 none (by kernel_rfl))]; rfl
    | lined n g al sd => rw [pick_none (p := ("text", _)) (lkW _ m7 none (by kernel_rfl))]; rfl
    | table c g sd sps => rw [pick_none (p := ("text", _)) (lkW _ m7 none (by kernel_rfl))]; rfl
    | over ps => rw [pick_none (p := ("text", _)) (lkW _ m7 none rfl)]; rfl
    | words ws j =>
      rw [pick_some (p := ("text", _)) (lkW _ m7 (some (wtx ws)) (by kernel_rfl)), k7]
      exact ifIff (wtx_iff hw.1) rfl
    | flow sds ws j =>
      rw [pick_some (p := ("text", _)) (lkW _ m7 (some (wtx ws)) (by kernel_rfl)), k7]
      exact ifIff (wtx_iff hw.2.1) rfl
  rw [← P1, ← P2, ← P3, ← P4, ← List.flatMap_append, ← List.flatMap_append, ← List.flatMap_append]
  rfl
end B08
namespace L2
open PySem PySem.Spec PySem.W PyProof.Rows
def repS (z : Str) (n : Nat) : Str := ⟨(List.replicate n z.cps).foldl (· ++ ·) #[]⟩
theorem repS_len (z : Str) (n : Nat) : (repS z n).length = n * z.length := by
  show ((List.replicate n z.cps).foldl (· ++ ·) #[]).size = _
  rw [rep_len]
  show 0 + _ = _
  rw [Nat.zero_add]
  rfl
section
variable {X : Cx}
def rMulD : R2 := fun x y H Q => ∃ (z : Str) (n : Nat), x = .str z ∧ y = .int n ∧ n ≤ 1000 ∧ 1 ≤ z.length ∧ z.length ≤ 1000 ∧ Q (.str (repS z n)) H
theorem op_mulD : OpR X (binaryOp .Mult) rMulD := by
  intro pins s σ H x y v u Q I rx ry h
  obtain ⟨z, n, e1, e2, h2, h0, h3, k⟩ := h
  subst e1 e2
  obtain ⟨t, rfl⟩ := rx
  obtain ⟨t2, rfl⟩ := ry
  have hm : z.length * n ≤ 1000 * 1000 := Nat.mul_le_mul h3 h2
  have et : ((n : Int)).toNat = n := by omega
  refine P.mul_str ?_ (fun hp _ => ?_) (fun _ _ => ?_) ?_
  · have a1 : ¬ (n : Int) < -(2 ^ 63 : Int) := by omega
    have a2 : ¬ (n : Int) ≥ 2 ^ 63 := by omega
    rw [decide_eq_false a1, decide_eq_false a2]; rfl
  · have q : (9223372036854775 : Int) ≤ (2 ^ 63 - 1) / (n : Int) := by
      rw [Int.le_ediv_iff_mul_le (by omega)]
      omega
    omega
  · rw [et]
    show decide (z.length * n > sizeLine) = false
    exact decide_eq_false (by rw [sizeLine_eq]; omega)
  · by_cases c0 : (n : Int) < 1
    · rw [if_pos c0]
      have : n = 0 := by omega
      subst this
      exact ⟨by decide, .str _, H, I.tok _, ⟨_, rfl⟩, k⟩
    · rw [if_neg c0]
      by_cases c : ((n : Int) == 1 || z.length == 0) = true
      · rw [if_pos c]
        rw [Bool.or_eq_true] at c
        rcases c with c | c
        · have : (n : Int) = 1 := by simpa using c
          have : n = 1 := by omega
          subst this
          refine ⟨.str z, H, I, ⟨t, rfl⟩, ?_⟩
          have e : repS z 1 = z := by
            show (⟨#[] ++ z.cps⟩ : Str) = z
            rw [Array.empty_append]
          rw [e] at k
          exact k
        · have : z.length = 0 := by simpa using c
          omega
      · rw [if_neg c, et]
        refine ⟨?_, .str _, H, I.tok _, ⟨_, rfl⟩, k⟩
        show (List.foldl (fun x1 x2 => x1 ++ x2) #[] (List.replicate n z.cps)).size ≤ _
        rw [rep_len]
        show 0 + n * z.cps.size ≤ sizeLine
        have e : z.cps.size * n ≤ 1000 * 1000 := hm
        rw [sizeLine_eq, Nat.mul_comm]
        omega
end
end L2
namespace B08
open PySem L2 S2 DW
def top (i : Nat) : Stmt := PySem.Challenge.pw_boxgalley_k08_trees_as_texts.main.body.getD i (.Pass ⟨0, 0, 0, 0⟩)
abbrev sKind : Stmt := top 2
abbrev sName : Stmt := top 3
abbrev sOwnOf : Stmt := top 4
abbrev sWhatOf : Stmt := top 5
abbrev sPartsOf : Stmt := top 6
abbrev sJoined : Stmt := top 10
abbrev sOwnTold : Stmt := top 11
abbrev sWText : Stmt := top 12
abbrev sWhatTold : Stmt := top 13
abbrev sPartTold : Stmt := top 14
abbrev sRowText : Stmt := top 15
abbrev sTextRows : Stmt := top 16
abbrev sTreeText : Stmt := top 17
abbrev sStream : Stmt := top 19
abbrev sTake : Stmt := top 20
abbrev sLNames : Stmt := top 21
abbrev sLRange : Stmt := top 22
abbrev sLWords : Stmt := top 23
abbrev sLAnchor : Stmt := top 24
abbrev sLWhat : Stmt := top 25
abbrev sLBox : Stmt := top 26
abbrev sLOwnW : Stmt := top 27
abbrev sLWhatW : Stmt := top 28
abbrev sLPartW : Stmt := top 29
abbrev sLTextW : Stmt := top 30
abbrev sLRows : Stmt := top 31
abbrev sLDue : Stmt := top 32
abbrev sLaw : Stmt := top 33
structure Names (mg : Str → Option Value) : Prop where
  len : mg "len" = none
  range : mg "range" = none
  list : mg "list" = none
  tuple : mg "tuple" = none
  min : mg "min" = none
  abs : mg "abs" = none
  enum : mg "enumerate" = none
  str : mg "str" = none
  inst : mg "isinstance" = none
def kS (p : Str × Str) : Key × V := (Sum.inr p.1, V.str p.2)
structure Glb (P : Program) (w : World) (K : PySem.W.Frag) (mg : Str → Option Value) (aL aP : Addr) : Prop where
  mL : mg "LINED" = some (.ref aL)
  sL : ∀ H, SqT K H aL [.str "row", .str "column", .str "wrap"]
  mP : mg "PLAIN" = some (.ref aP)
  dP : DKept P w K aP (plainL.map kS)
  mI : ∃ t, mg "INDENT" = some (.str "  " t)
def KT (H H' : Hp) : Prop := ∀ b xs, H b = some (.tup xs) → H' b = some (.tup xs)
theorem KT.trans {H1 H2 H3 : Hp} (a : KT H1 H2) (b : KT H2 H3) : KT H1 H3 := fun x xs e => b x xs (a x xs e)
theorem KT.same {H H' : Hp} (s : Same H H') : KT H H' := fun b _ e => s b _ e
theorem KT.lst {H : Hp} {l : Addr} {xs ys : List V} (e : H l = some (.lst xs)) : KT H (upd H l (.lst ys)) := fun b zs h => by
  rw [upd_ne (ne_of h e (by intro z; cases z))]; exact h
theorem KT.put {H : Hp} {l : Addr} {o : HO} (e : H l = none) : KT H (upd H l o) := fun b zs h => by
  rw [upd_ne (fun z => by rw [z, e] at h; cases h)]; exact h
theorem rowsKT {H H' : Hp} {as : List Addr} {rows : List (List V)} (h : RowsOf H as rows) (k : KT H H') : RowsOf H' as rows := ⟨h.1, fun i p r e1 e2 => k _ _ (h.2 i p r e1 e2)⟩
def OwnAt (H : Hp) (a : Addr) (o : Own) : Prop := ∃ u v, H a = some (.tup [.ref u, .ref v, .int o.gr, .int o.sh, .int o.rk, .int o.al]) ∧ H u = some (.tup [.int o.w0, .int o.w1]) ∧ H v = some (.tup [.int o.h0, .int o.h1])
def strsV (w : List Str) : List V := w.map V.str
def pairVs (p : Int × Int) : List V := [.int p.1, .int p.2]
def WsAt (H : Hp) (s : Addr) (ws : List (List Str)) : Prop := ∃ as, H s = some (.tup (as.map V.ref)) ∧ RowsOf H as (ws.map strsV)
def WhatAt (H : Hp) (q : Addr) : What → Prop
  | .leaf a b => H q = some (.tup [.int a, .int b])
  | .lined _ g al sd => H q = some (.tup [.int g, .str al, .str sd])
  | .table c g sd sps => ∃ s as, H q = some (.tup [.int c, .int g, .str sd, .ref s]) ∧ H s = some (.tup (as.map V.ref)) ∧ RowsOf H as (sps.map pairVs)
  | .words ws j => ∃ s, H q = some (.tup [.ref s, .int j]) ∧ WsAt H s ws
  | .flow sds ws j => ∃ t s, H q = some (.tup [.ref t, .ref s, .int j]) ∧ H t = some (.tup (strsV sds)) ∧ WsAt H s ws
  | .over ps => ∃ as : List Addr, H q = some (.tup (as.map V.ref)) ∧ as.length = ps.length ∧ ∀ (i : Nat) (a : Addr) (p : (Str × Int) × (Str × Int)), as[i]? = some a → ps[i]? = some p → ∃ b c, H a = some (.tup [.ref b, .ref c]) ∧ H b = some (.tup [.str p.1.1, .int p.1.2]) ∧ H c = some (.tup [.str p.2.1, .int p.2.2])
theorem OwnAt.keep {H H' : Hp} (k : KT H H') {a : Addr} {o : Own} : OwnAt H a o → OwnAt H' a o := fun ⟨u, v, e1, e2, e3⟩ => ⟨u, v, k _ _ e1, k _ _ e2, k _ _ e3⟩
theorem WsAt.keep {H H' : Hp} (k : KT H H') {a : Addr} {o : List (List Str)} : WsAt H a o → WsAt H' a o := fun ⟨as, e1, e2⟩ => ⟨as, k _ _ e1, rowsKT e2 k⟩
theorem WhatAt.keep {H H' : Hp} (k : KT H H') {q : Addr} : ∀ {wh : What}, WhatAt H q wh → WhatAt H' q wh
  | .leaf a b, h => k _ _ h
  | .lined _ g al sd, h => k _ _ h
  | .table c g sd sps, ⟨s, as, e1, e2, e3⟩ => ⟨s, as, k _ _ e1, k _ _ e2, rowsKT e3 k⟩
  | .words ws j, ⟨s, e1, e2⟩ => ⟨s, k _ _ e1, e2.keep k⟩
  | .flow sds ws j, ⟨t, s, e1, e2, e3⟩ => ⟨t, s, k _ _ e1, k _ _ e2, e3.keep k⟩
  | .over ps, ⟨as, e1, e2, e3⟩ => ⟨as, k _ _ e1, e2, fun i a p ha hp => by
      obtain ⟨b, c, x1, x2, x3⟩ := e3 i a p ha hp
      exact ⟨b, c, k _ _ x1, k _ _ x2, k _ _ x3⟩⟩
structure BoxD where
  nm : Str
  own : Own
  wh : What
inductive Fo where
  | nil
  | cons (a : Addr) (d : BoxD) (cs as : Fo)
namespace Fo
def tops : Fo → List Addr
  | nil => []
  | cons a _ _ as => a :: as.tops
def cnt : Fo → Nat
  | nil => 0
  | cons _ _ cs as => cs.cnt + as.cnt + 1
def hgt : Fo → Nat
  | nil => 0
  | cons _ _ cs as => max (cs.hgt + 1) as.hgt
def app : Fo → Fo → Fo
  | nil, G => G
  | cons a d cs as, G => cons a d cs (as.app G)
def BoxAt (H : Hp) (a : Addr) (d : BoxD) (ts : List Addr) : Prop := ∃ o q p, H a = some (.tup [.str d.wh.kd, .str d.nm, .ref o, .ref q, .ref p]) ∧ OwnAt H o d.own ∧ WhatAt H q d.wh ∧ H p = some (.tup (ts.map V.ref))
def Ok (H : Hp) : Fo → Prop
  | nil => True
  | cons a d cs as => BoxAt H a d cs.tops ∧ cs.Ok H ∧ as.Ok H
def fits : What → Nat → Prop
  | .table _ _ _ sps, n => sps.length = n
  | .flow sds _ _, n => sds.length = n
  | .over ps, n => n ≤ ps.length + 1
  | _, _ => True
def Good : Fo → Prop
  | nil => True
  | cons _ d cs as => (d.wh.Good ∧ d.own.Good ∧ d.nm.length ≤ 60 ∧ fits d.wh cs.tops.length) ∧ cs.Good ∧ as.Good
theorem BoxAt.keep {H H' : Hp} (k : KT H H') {a : Addr} {d : BoxD} {ts : List Addr} : BoxAt H a d ts → BoxAt H' a d ts := fun ⟨o, q, p, e1, e2, e3, e4⟩ => ⟨o, q, p, k _ _ e1, e2.keep k, e3.keep k, k _ _ e4⟩
theorem Ok.keep {H H' : Hp} (k : KT H H') : ∀ {F : Fo}, F.Ok H → F.Ok H'
  | nil, _ => trivial
  | cons a d cs as, ⟨e, b, c⟩ => ⟨e.keep k, Ok.keep k b, Ok.keep k c⟩
theorem tops_app (G : Fo) : ∀ F : Fo, (F.app G).tops = F.tops ++ G.tops
  | nil => rfl
  | cons a d cs as => by show a :: (as.app G).tops = _; rw [tops_app G as]; rfl
theorem cnt_app (G : Fo) : ∀ F : Fo, (F.app G).cnt = F.cnt + G.cnt
  | nil => by show G.cnt = 0 + _; omega
  | cons a d cs as => by show cs.cnt + (as.app G).cnt + 1 = cs.cnt + as.cnt + 1 + _; rw [cnt_app G as]; omega
theorem hgt_app (G : Fo) : ∀ F : Fo, (F.app G).hgt = max F.hgt G.hgt
  | nil => by show G.hgt = max 0 _; omega
  | cons a d cs as => by show max (cs.hgt + 1) (as.app G).hgt = max (max (cs.hgt + 1) as.hgt) _; rw [hgt_app G as]; omega
theorem app_nil : ∀ F : Fo, F.app nil = F
  | nil => rfl
  | cons a d cs as => by show cons a d cs (as.app nil) = _; rw [app_nil as]
theorem app_app (G K : Fo) : ∀ F : Fo, (F.app G).app K = F.app (G.app K)
  | nil => rfl
  | cons a d cs as => by show cons a d cs ((as.app G).app K) = _; rw [app_app G K as]; rfl
theorem ok_app {H : Hp} {G : Fo} : ∀ {F : Fo}, (F.app G).Ok H ↔ F.Ok H ∧ G.Ok H
  | nil => ⟨fun h => ⟨trivial, h⟩, fun h => h.2⟩
  | cons a d cs as => by
    show (_ ∧ _ ∧ (as.app G).Ok H) ↔ (_ ∧ _ ∧ as.Ok H) ∧ _
    rw [ok_app (F := as)]
    constructor
    · rintro ⟨a, b, c, d⟩; exact ⟨⟨a, b, c⟩, d⟩
    · rintro ⟨⟨a, b, c⟩, d⟩; exact ⟨a, b, c, d⟩
theorem good_app {G : Fo} : ∀ {F : Fo}, (F.app G).Good ↔ F.Good ∧ G.Good
  | nil => ⟨fun h => ⟨trivial, h⟩, fun h => h.2⟩
  | cons a d cs as => by
    show (_ ∧ _ ∧ (as.app G).Good) ↔ (_ ∧ _ ∧ as.Good) ∧ _
    rw [good_app (F := as)]
    constructor
    · rintro ⟨a, b, c, d⟩; exact ⟨⟨a, b, c⟩, d⟩
    · rintro ⟨⟨a, b, c⟩, d⟩; exact ⟨a, b, c, d⟩
end Fo
def rowL (d : BoxD) (eh : What) (i : Nat) : List Str := d.wh.kd :: d.nm :: (ownW d.own ++ (whatW d.wh ++ (exW eh i ++ txW d.wh)))
def rowS (d : BoxD) (n : Nat) (eh : What) (i : Nat) : Str := repS "  " n ++ Txt.join " " (rowL d eh i)
def fRows : Fo → Nat → What → Nat → List Str
  | .nil, _, _, _ => []
  | .cons _ d cs as, n, eh, i => rowS d n eh i :: (fRows cs (n + 1) d.wh 0 ++ fRows as n eh (i + 1))
theorem fRows_app (G : Fo) (n : Nat) (eh : What) : ∀ (F : Fo) (i : Nat), fRows (F.app G) n eh i = fRows F n eh i ++ fRows G n eh (i + F.tops.length)
  | .nil, i => rfl
  | .cons a d cs as, i => by
    show rowS d n eh i :: (fRows cs (n + 1) d.wh 0 ++ fRows (as.app G) n eh (i + 1)) = rowS d n eh i :: (fRows cs (n + 1) d.wh 0 ++ fRows as n eh (i + 1)) ++ fRows G n eh (i + (as.tops.length + 1))
    rw [fRows_app G n eh as (i + 1), show i + 1 + as.tops.length = i + (as.tops.length + 1) by omega, List.cons_append, List.append_assoc]
theorem fRows_len (n : Nat) (eh : What) : ∀ (F : Fo) (n : Nat) (eh : What) (i : Nat), (fRows F n eh i).length = F.cnt
  | .nil, _, _, _ => rfl
  | .cons a d cs as, n, eh, i => by
    show (fRows cs (n + 1) d.wh 0 ++ fRows as n eh (i + 1)).length + 1 = cs.cnt + as.cnt + 1
    rw [List.length_append, fRows_len n eh cs (n + 1) d.wh 0, fRows_len n eh as n eh (i + 1)]
def LB (n : Nat) (xs : List Str) : Prop := ∀ x ∈ xs, x.length ≤ n
theorem LB.app {n : Nat} {a b : List Str} (h1 : LB n a) (h2 : LB n b) : LB n (a ++ b) := fun x hx => by
  rcases List.mem_append.mp hx with z | z
  · exact h1 x z
  · exact h2 x z
theorem LB.nil {n : Nat} : LB n [] := fun x hx => nomatch hx
theorem LB.one {n : Nat} {y : Str} (h : y.length ≤ n) : LB n [y] := fun x hx => by rw [List.mem_singleton.mp hx]; exact h
theorem LB.ite {n : Nat} {c : Prop} [Decidable c] {y : Str} (h : y.length ≤ n) : LB n (if c then [] else [y]) := by
  split
  · exact LB.nil
  · exact LB.one h
theorem len1 {c : Prop} [Decidable c] {y : Str} : (if c then [] else [y]).length ≤ 1 := by split <;> simp
theorem wtx_len {ws : List (List Str)} (h : GoodWs ws) : (wtx ws).length ≤ 60 := by
  have h1 : ∀ y ∈ ws.map (Txt.join "|"), y.length ≤ 15 := fun y hy => by
    obtain ⟨v, hv, rfl⟩ := List.mem_map.mp hy
    obtain ⟨_, h2, h3⟩ := h.2 v hv
    have := glue_len "|" v (B := 4) fun x hx => (h3 x hx).2
    have e : ("|" : Str).length = 1 := by decide +kernel
    rw [e] at this
    have : v.length * 5 ≤ 15 := by omega
    omega
  have h2 := glue_len " " _ h1
  have e : (" " : Str).length = 1 := by decide +kernel
  rw [e, List.length_map] at h2
  have := h.1
  have : ws.length * 16 ≤ 48 := by omega
  show (Txt.join " " (ws.map (Txt.join "|"))).length ≤ 60
  omega
end B08
namespace L2
open PySem PySem.Spec PyProof.Rows S2
theorem comp_mapT {K : PySem.W.Frag} {a : Addr} {xs : List V} {te : TE} {σ : St} {H : Hp} {Q : VK} (f : V → V) (hq : H a = some (.tup xs)) (hn : xs.length < sizeLine)
    (he : ∀ (i : Nat) (x : V) (H' : Hp) (Q' : VK), xs[i]? = some x → Same H H' → (∀ H3, Same H' H3 → Q' (f x) H3) → te (some x :: σ) H' Q') (hd : ∀ D H', H D = none → Same H H' → H' D = some (.lst (xs.map f)) → Q (.ref D) H') : CompGo (Itt K a) H σ ttAll te Q := by
  intro D hD
  refine ⟨fun i m H' => m = xs.length - i ∧ i ≤ xs.length ∧ Same H H' ∧ H' D = some (.lst ((xs.take i).map f)), ⟨xs.length, by omega, Nat.zero_le _, Same.put (Same.refl H) hD, upd_same⟩, ?_⟩
  rintro i m H' ⟨rfl, hi, s1, hl⟩
  have q : SqT K H' a xs := SqT.of (s1 _ _ hq)
  by_cases hlt : i < xs.length
  · refine .inr ⟨⟨xs, xs[i], q, by simp [hlt]⟩, fun x H2 y => ?_⟩
    obtain ⟨e, y⟩ := y
    subst e
    have hx := y xs q
    show te _ H2 _
    refine he i x H2 _ hx s1 fun H3 s3 => ⟨_, s3 _ _ hl, by rw [List.length_map, List.length_take]; omega, xs.length - (i + 1), by omega, rfl, by omega, Same.put (s1.trans s3) hD, ?_⟩
    rw [upd_same, List.take_succ, hx, List.map_append]
    rfl
  · have e : i = xs.length := by omega
    subst e
    rw [List.take_length] at hl
    exact .inl ⟨⟨xs, q, Nat.le_refl _⟩, hd D H' hD s1 hl⟩
theorem seq_abs {t u : TS} {D : Ends} {σ : St} {H : Hp} (h : ∀ N : St → Hp → Prop, (∀ σ H, u D σ H → N σ H) → t { D with nx := N } σ H) : tSeq t u D σ H := h _ fun _ _ x => x
end L2
namespace B08
open PySem L2 S2 DW
def spAt (j : Nat) : Sp := fun vs H Q _ => ∃ (a : Addr) (xs : List V) (v : V), vs = [.ref a] ∧ H a = some (.tup xs) ∧ xs[j]? = some v ∧ Q v H
section
variable {P : Program} {w : World} {K : PySem.W.Frag} {mg : Str → Option Value} {base : Heap}
theorem scKind : FnScope ["box"] ["box"] (defScope sKind) := ⟨rfl, rfl, rfl, by decide +kernel, rfl, by decide +kernel, by decide +kernel⟩
theorem ok_Kind {f : Addr} {fd : FuncData} (F : Fun K "kind_of" "kind_of" sKind f fd) : FnOk P w K mg base CX0 1 f fd ["box"] (spAt 0) := by
  refine F.ok scKind (fun vs H Q E h => ?_) (fun cdv A outer s H vs Q E hr h => ?_)
  · obtain ⟨a, xs, v, e, _⟩ := h
    rw [e]
    rfl
  · obtain ⟨a, xs, v, e, ha, hv, k⟩ := h
    subst e
    exact ⟨_, pss_one (ps_ret (pe_ix ix_tup (pv 0) pe_int (fun _ _ => rfl))), _, rfl, a, _, _, _, rfl, rfl, SqT.of ha, atI_nat (j := 0) hv, k⟩
theorem scName : FnScope ["box"] ["box"] (defScope sName) := ⟨rfl, rfl, rfl, by decide +kernel, rfl, by decide +kernel, by decide +kernel⟩
theorem ok_Name {f : Addr} {fd : FuncData} (F : Fun K "name_of" "name_of" sName f fd) : FnOk P w K mg base CX0 1 f fd ["box"] (spAt 1) := by
  refine F.ok scName (fun vs H Q E h => ?_) (fun cdv A outer s H vs Q E hr h => ?_)
  · obtain ⟨a, xs, v, e, _⟩ := h
    rw [e]
    rfl
  · obtain ⟨a, xs, v, e, ha, hv, k⟩ := h
    subst e
    exact ⟨_, pss_one (ps_ret (pe_ix ix_tup (pv 0) pe_int (fun _ _ => rfl))), _, rfl, a, _, _, _, rfl, rfl, SqT.of ha, atI_nat (j := 1) hv, k⟩
theorem scOwnOf : FnScope ["box"] ["box"] (defScope sOwnOf) := ⟨rfl, rfl, rfl, by decide +kernel, rfl, by decide +kernel, by decide +kernel⟩
theorem ok_OwnOf {f : Addr} {fd : FuncData} (F : Fun K "own_of" "own_of" sOwnOf f fd) : FnOk P w K mg base CX0 1 f fd ["box"] (spAt 2) := by
  refine F.ok scOwnOf (fun vs H Q E h => ?_) (fun cdv A outer s H vs Q E hr h => ?_)
  · obtain ⟨a, xs, v, e, _⟩ := h
    rw [e]
    rfl
  · obtain ⟨a, xs, v, e, ha, hv, k⟩ := h
    subst e
    exact ⟨_, pss_one (ps_ret (pe_ix ix_tup (pv 0) pe_int (fun _ _ => rfl))), _, rfl, a, _, _, _, rfl, rfl, SqT.of ha, atI_nat (j := 2) hv, k⟩
theorem scWhatOf : FnScope ["box"] ["box"] (defScope sWhatOf) := ⟨rfl, rfl, rfl, by decide +kernel, rfl, by decide +kernel, by decide +kernel⟩
theorem ok_WhatOf {f : Addr} {fd : FuncData} (F : Fun K "what_of" "what_of" sWhatOf f fd) : FnOk P w K mg base CX0 1 f fd ["box"] (spAt 3) := by
  refine F.ok scWhatOf (fun vs H Q E h => ?_) (fun cdv A outer s H vs Q E hr h => ?_)
  · obtain ⟨a, xs, v, e, _⟩ := h
    rw [e]
    rfl
  · obtain ⟨a, xs, v, e, ha, hv, k⟩ := h
    subst e
    exact ⟨_, pss_one (ps_ret (pe_ix ix_tup (pv 0) pe_int (fun _ _ => rfl))), _, rfl, a, _, _, _, rfl, rfl, SqT.of ha, atI_nat (j := 3) hv, k⟩
theorem scPartsOf : FnScope ["box"] ["box"] (defScope sPartsOf) := ⟨rfl, rfl, rfl, by decide +kernel, rfl, by decide +kernel, by decide +kernel⟩
theorem ok_PartsOf {f : Addr} {fd : FuncData} (F : Fun K "parts_of" "parts_of" sPartsOf f fd) : FnOk P w K mg base CX0 1 f fd ["box"] (spAt 4) := by
  refine F.ok scPartsOf (fun vs H Q E h => ?_) (fun cdv A outer s H vs Q E hr h => ?_)
  · obtain ⟨a, xs, v, e, _⟩ := h
    rw [e]
    rfl
  · obtain ⟨a, xs, v, e, ha, hv, k⟩ := h
    subst e
    exact ⟨_, pss_one (ps_ret (pe_ix ix_tup (pv 0) pe_int (fun _ _ => rfl))), _, rfl, a, _, _, _, rfl, rfl, SqT.of ha, atI_nat (j := 4) hv, k⟩
end
def spJoined : Sp := fun vs H Q _ => ∃ (p : Addr) (xs : List V) (s : Str), vs = [.ref p, .str s] ∧ H p = some (.tup xs) ∧ xs.length ≤ 10 ∧ (∀ x ∈ xs, SmallV x) ∧ s.length ≤ 10 ∧ ∀ H', Same H H' → Q (.str (Txt.join s (xs.map tS))) H'
def spOwnTold : Sp := fun vs H Q _ => ∃ (a : Addr) (o : Own), vs = [.ref a] ∧ OwnAt H a o ∧ o.Good ∧ ∀ (d : Addr) (H' : Hp), H d = none → Same H H' → H' d = some (.dK ((ownP o).map kS)) → Q (.ref d) H'
def spWText : Sp := fun vs H Q _ => ∃ (s : Addr) (ws : List (List Str)), vs = [.ref s] ∧ WsAt H s ws ∧ GoodWs ws ∧ ∀ H', Same H H' → Q (.str (wtx ws)) H'
theorem tS_len {x : V} (h : SmallV x) : (tS x).length ≤ 60 := by
  cases x with
  | int i => have : i.natAbs < 1000000000 := h; have := nS_len this; show (nS i).length ≤ 60; omega
  | str x => exact h
  | _ => exact h.elim
theorem put_kS {ps : List (Str × Str)} {x y : Str} (h : x ∉ ps.map (·.1)) : putK (ps.map kS) (Sum.inr x) (V.str y) = (ps ++ [(x, y)]).map kS := by
  have hn : valV (ps.map kS) (Sum.inr x : Key) = none := by
    show valV (ps.map fun p => (Sum.inr p.1, V.str p.2)) _ = none
    rw [lk_val]
    unfold lk
    rw [List.find?_eq_none.mpr]
    · rfl
    · intro p hp e
      exact h (by rw [← of_decide_eq_true e]; exact List.mem_map_of_mem (f := (·.1)) hp)
  rw [putK_new _ hn, List.map_append]
  rfl
theorem merge_kS : ∀ (qs ps : List (Str × Str)), ((ps ++ qs).map (·.1)).Nodup → (qs.map kS).foldl (fun acc p => putK acc p.1 p.2) (ps.map kS) = (ps ++ qs).map kS
  | [], ps, _ => by rw [List.append_nil]; rfl
  | q :: qs, ps, h => by
    have hn : q.1 ∉ ps.map (·.1) := fun z => by
      rw [List.map_append, List.map_cons] at h
      exact (List.nodup_append.mp h).2.2 _ z _ List.mem_cons_self rfl
    show (qs.map kS).foldl _ (putK (ps.map kS) (Sum.inr q.1) (V.str q.2)) = _
    rw [put_kS hn, merge_kS qs (ps ++ [(q.1, q.2)]) (by rw [List.append_assoc]; exact h), List.append_assoc]
    rfl
theorem mergeK_kS {ps : List (Str × Str)} (h : (ps.map (·.1)).Nodup) : mergeK [] (ps.map kS) = ps.map kS := merge_kS ps [] h
theorem mergeP_kS {ps qs : List (Str × Str)} (h : ((ps ++ qs).map (·.1)).Nodup) : mergeP (ps.map kS) (qs.map kS) = (ps ++ qs).map kS := merge_kS qs ps h
theorem own_keys (o : Own) : ((ownP o).map (·.1)).Nodup := by
  show (["wide", "high", "grow", "shrink", "rank", "alike"] : List Str).Nodup
  decide +kernel
theorem two_join (s : Str) (a b : Int) : Txt.join s ([V.int a, V.int b].map tS) = two s a b := glue2 _ _ _
theorem twoSmall {a b : Int} (h1 : GoodN a) (h2 : GoodN b) : ∀ x ∈ [V.int a, V.int b], SmallV x := fun x hx => by
  rcases List.mem_cons.mp hx with z | z
  · rw [z]; exact h1
  · rw [List.mem_singleton.mp z]; exact h2
def wordAt (H : Hp) : V → V
  | .ref p => match H p with
    | some (.tup xs) => .str (Txt.join "|" (xs.map tS))
    | _ => .non
  | _ => .non
theorem strs_tS (w : List Str) : (strsV w).map tS = w := by
  unfold strsV
  rw [List.map_map]
  exact List.map_id w
theorem wordAt_of {H : Hp} {p : Addr} {w : List Str} (h : H p = some (.tup (strsV w))) : wordAt H (.ref p) = .str (Txt.join "|" w) := by
  unfold wordAt
  dsimp only
  rw [h]
  dsimp only
  rw [strs_tS]
theorem words_map {H : Hp} {as : List Addr} {ws : List (List Str)} (h : RowsOf H as (ws.map strsV)) : (as.map V.ref).map (wordAt H) = (ws.map (Txt.join "|")).map V.str := by
  have hl : as.length = ws.length := by rw [h.1, List.length_map]
  apply List.ext_getElem?
  intro i
  rw [List.getElem?_map, List.getElem?_map, List.getElem?_map, List.getElem?_map]
  cases hp : as[i]? with
  | none =>
    have h1 := List.getElem?_eq_none_iff.mp hp
    rw [List.getElem?_eq_none (l := ws) (by omega)]
    rfl
  | some p =>
    have hi : i < ws.length := by rw [← hl]; exact get_lt hp
    have hy := h.2 i p _ hp (by rw [List.getElem?_map, List.getElem?_eq_getElem hi]; rfl)
    rw [List.getElem?_eq_getElem hi]
    show some (wordAt H (.ref p)) = some (.str _)
    rw [wordAt_of hy]
section
variable {P : Program} {w : World} {K : PySem.W.Frag} {mg : Str → Option Value} {base : Heap}
theorem scJoined : FnScope ["things", "sign"] ["things", "sign"] (defScope sJoined) := ⟨rfl, rfl, rfl, by decide +kernel, rfl, by decide +kernel, by decide +kernel⟩
theorem ok_joined {f : Addr} {fd : FuncData} (F : Fun K "joined" "joined" sJoined f fd) (N : Names mg) : FnOk P w K mg base CX0 1 f fd ["things", "sign"] spJoined := by
  refine F.ok scJoined (fun vs H Q E h => ?_) (fun cdv A outer s H vs Q E hr h => ?_)
  · obtain ⟨p, xs, s, e, _⟩ := h
    rw [e]
    rfl
  · obtain ⟨p, xs, sg, e, hp, hl, hx, hs, k⟩ := h
    subst e
    refine ⟨_, pss_one (ps_ret (pe_bm PySem.F.plainAttrs_str PySem.F.slot_str_join PySem.F.type_str_join mt_join (pv 1) (pa_cons (pe_comp (compSc_mk (fs := defScope sJoined) (N := ["things", "sign"]) rfl rfl (by decide +kernel)) rfl (pi_tup (pv 0)) (fun _ _ _ _ _ => pts_nil)
      (fun _ _ _ _ _ => pe_callTy call_strX (by rfl) N.str PyProof.Rows.boot_str (pa_cons (pv 0) pa_nil))) pa_nil))), ?_⟩
    refine ⟨_, rfl, rfl, _, rfl, p, rfl, ⟨_, SqT.of hp⟩, comp_mapT (fun x => .str (tS x)) hp (small (by omega)) (fun i x H' Q' ex s1 kk => ⟨_, rfl, x, rfl, hx x (List.mem_of_getElem? ex), kk _ (Same.refl _)⟩) fun D H' hD s1 hl' => ?_⟩
    refine ⟨sg, D, xs.map tS, rfl, rfl, SqL.of (by rw [hl', List.map_map]; rfl), ?_, k H' s1⟩
    have h1 := sum_le (xs.map tS) (B := 60) fun y hy => by
      obtain ⟨x, hx', rfl⟩ := List.mem_map.mp hy
      exact tS_len (hx x hx')
    rw [List.length_map] at h1 ⊢
    have : xs.length * sg.length ≤ 10 * 10 := Nat.mul_le_mul hl hs
    omega
theorem scOwnTold : FnScope ["own"] ["own"] (defScope sOwnTold) := ⟨rfl, rfl, rfl, by decide +kernel, rfl, by decide +kernel, by decide +kernel⟩
set_option maxHeartbeats 4000000 in
theorem ok_ownTold {f f1 : Addr} {fd d1 : FuncData} (F : Fun K "own_told" "own_told" sOwnTold f fd) (N : Names mg)
    (G1 : FnOk P w K mg base CX0 1 f1 d1 ["things", "sign"] spJoined) (b1 : Binds K d1 ["things", "sign"] []) (m1 : mg "joined" = some (.ref f1)) (k1 : PySem.W.keepIn K (.ref f1) = true) : FnOk P w K mg base CX0 2 f fd ["own"] spOwnTold := by
  refine F.ok scOwnTold (fun vs H Q E h => ?_) (fun cdv A outer s H vs Q E hr h => ?_)
  · obtain ⟨a, o, e, _⟩ := h
    rw [e]
    rfl
  · obtain ⟨a, o, e, ⟨u, v, ha, hu, hv⟩, ⟨g1, g2, g3, g4, g5, g6, g7, g8⟩, k⟩ := h
    subst e
    refine ⟨_, pss_one (ps_ret (pe_disp (pps_cons pe_str (pe_call G1 hr (by rfl) m1 k1 b1 .nil pass0 (pa_cons (pe_ix ix_tup (pv 0) pe_int (fun _ _ => rfl)) (pa_cons pe_str pa_nil)))
      (pps_cons pe_str (pe_call G1 hr (by rfl) m1 k1 b1 .nil pass0 (pa_cons (pe_ix ix_tup (pv 0) pe_int (fun _ _ => rfl)) (pa_cons pe_str pa_nil)))
      (pps_cons pe_str (pe_callTy call_strX (by rfl) N.str PyProof.Rows.boot_str (pa_cons (pe_ix ix_tup (pv 0) pe_int (fun _ _ => rfl)) pa_nil))
      (pps_cons pe_str (pe_callTy call_strX (by rfl) N.str PyProof.Rows.boot_str (pa_cons (pe_ix ix_tup (pv 0) pe_int (fun _ _ => rfl)) pa_nil))
      (pps_cons pe_str (pe_callTy call_strX (by rfl) N.str PyProof.Rows.boot_str (pa_cons (pe_ix ix_tup (pv 0) pe_int (fun _ _ => rfl)) pa_nil))
      (pps_cons pe_str (pe_callTy call_strX (by rfl) N.str PyProof.Rows.boot_str (pa_cons (pe_ix ix_tup (pv 0) pe_int (fun _ _ => rfl)) pa_nil)) pps_nil)))))) rfl rfl (by simp) (by decide))), ?_⟩
    intro p hp
    have s1 : Same H (upd H p (.dK [])) := Same.put (Same.refl _) hp
    have h1 : (upd H p (.dK [])) p = some (.dK []) := upd_same
    generalize upd H p (.dK []) = H1 at *
    refine ⟨_, rfl, a, _, _, _, rfl, rfl, SqT.of (s1 _ _ ha), atI_nat (j := 0) rfl, u, _, "..", rfl, s1 _ _ hu, (by show 2 ≤ 10; decide), twoSmall g1 g2, by decide +kernel, fun H2 s2 => ?_⟩
    have s02 := s1.trans s2
    refine ⟨_, rfl, a, _, _, _, rfl, rfl, SqT.of (s02 _ _ ha), atI_nat (j := 1) rfl, v, _, "..", rfl, s02 _ _ hv, (by show 2 ≤ 10; decide), twoSmall g3 g4, by decide +kernel, fun H3 s3 => ?_⟩
    have s03 := s02.trans s3
    have a3 := SqT.of (K := K) (s03 _ _ ha)
    refine ⟨_, rfl, a, _, _, _, rfl, rfl, a3, atI_nat (j := 2) rfl, _, rfl, g5, _, rfl, a, _, _, _, rfl, rfl, a3, atI_nat (j := 3) rfl, _, rfl, g6, _, rfl, a, _, _, _, rfl, rfl, a3, atI_nat (j := 4) rfl, _, rfl, g7, _, rfl, a, _, _, _, rfl, rfl, a3, atI_nat (j := 5) rfl, _, rfl, g8, ?_⟩
    have h3 := (s2.trans s3) _ _ h1
    refine ⟨h3, (ownP o).map kS, ?_, (by show 6 ≤ 15; decide), ?_⟩
    · rw [two_join, two_join]
      rfl
    · rw [mergeK_kS (own_keys o)]
      exact k p _ hp (Same.put s03 hp) upd_same
theorem scWText : FnScope ["words"] ["words"] (defScope sWText) := ⟨rfl, rfl, rfl, by decide +kernel, rfl, by decide +kernel, by decide +kernel⟩
set_option maxHeartbeats 4000000 in
theorem ok_wText {f : Addr} {fd : FuncData} (F : Fun K "words_text" "words_text" sWText f fd) : FnOk P w K mg base CX0 1 f fd ["words"] spWText := by
  refine F.ok scWText (fun vs H Q E h => ?_) (fun cdv A outer s H vs Q E hr h => ?_)
  · obtain ⟨s, ws, e, _⟩ := h
    rw [e]
    rfl
  · obtain ⟨sw, ws, e, ⟨as, hs, hr'⟩, hg, k⟩ := h
    subst e
    have hl : as.length = ws.length := by rw [hr'.1, List.length_map]
    have g1 := hg.1
    refine ⟨_, pss_one (ps_ret (pe_bm PySem.F.plainAttrs_str PySem.F.slot_str_join PySem.F.type_str_join mt_join pe_str (pa_cons (pe_comp (compSc_mk (fs := defScope sWText) (N := ["words"]) rfl rfl (by decide +kernel)) rfl (pi_tup (pv 0)) (fun _ _ _ _ _ => pts_nil)
      (fun _ _ _ _ _ => pe_bmK (K := K) (r := rJoinT K) PySem.F.plainAttrs_str PySem.F.slot_str_join PySem.F.type_str_join mtr_joinK pe_str (pa_cons (pv 0) pa_nil))) pa_nil))), ?_⟩
    refine ⟨rfl, _, rfl, sw, rfl, ⟨_, SqT.of hs⟩, comp_mapT (wordAt H) hs (small (by rw [List.length_map]; omega)) (fun i x H' Q' ex s1 kk => ?_) fun D H' hD s1 hl' => ?_⟩
    · rw [List.getElem?_map] at ex
      obtain ⟨p, hp, rfl⟩ := Option.map_eq_some_iff.mp ex
      have hi : i < ws.length := by rw [← hl]; exact get_lt hp
      have hy := hr'.2 i p _ hp (by rw [List.getElem?_map, List.getElem?_eq_getElem hi]; rfl)
      obtain ⟨w1, w2, w3⟩ := hg.2 _ (List.getElem_mem hi)
      rw [wordAt_of hy] at kk
      refine ⟨rfl, _, rfl, "|", p, ws[i], rfl, rfl, SqT.of (s1 _ _ hy), ?_, kk H' (Same.refl _)⟩
      have h1 := sum_le ws[i] (B := 4) fun y hy => (w3 y hy).2
      have e : ("|" : Str).length = 1 := by decide +kernel
      rw [e]
      omega
    · rw [words_map hr'] at hl'
      refine ⟨" ", D, ws.map (Txt.join "|"), rfl, rfl, SqL.of hl', ?_, k H' s1⟩
      have h1 := sum_le (ws.map (Txt.join "|")) (B := 15) fun y hy => by
        obtain ⟨v, hv, rfl⟩ := List.mem_map.mp hy
        obtain ⟨_, h2, h3⟩ := hg.2 v hv
        have := glue_len "|" v (B := 4) fun x hx => (h3 x hx).2
        have e : ("|" : Str).length = 1 := by decide +kernel
        rw [e] at this
        omega
      have e : (" " : Str).length = 1 := by decide +kernel
      rw [e]
      rw [List.length_map] at h1 ⊢
      omega
end
end B08
namespace B08
open PySem L2 S2 DW
abbrev L3 : List V := [.str "row", .str "column", .str "wrap"]
def spWhatTold : Sp := fun vs H Q _ => ∃ (q : Addr) (wh : What), vs = [.str wh.kd, .ref q] ∧ WhatAt H q wh ∧ wh.Good ∧ ∀ (d : Addr) (H' : Hp), H d = none → Same H H' → H' d = some (.dK ((whatP wh).map kS)) → Q (.ref d) H'
def spPartTold : Sp := fun vs H Q _ => ∃ (a : Addr) (d : BoxD) (ts : List Addr) (i : Nat), vs = [.ref a, .int (i : Int)] ∧ Fo.BoxAt H a d ts ∧ d.wh.Good ∧ Fo.fits d.wh ts.length ∧ i < ts.length ∧ ∀ (p : Addr) (H' : Hp), H p = none → Same H H' → H' p = some (.dK ((partP d.wh i).map kS)) → Q (.ref p) H'
theorem inRow : inV (.str "row") L3 = true := by decide +kernel
theorem inCol : inV (.str "column") L3 = true := by decide +kernel
theorem inWrap : inV (.str "wrap") L3 = true := by decide +kernel
theorem inLeaf : inV (.str "leaf") L3 = false := by decide +kernel
theorem inTable : inV (.str "table") L3 = false := by decide +kernel
theorem inWords : inV (.str "words") L3 = false := by decide +kernel
theorem inFlow : inV (.str "flow") L3 = false := by decide +kernel
theorem inOver : inV (.str "over") L3 = false := by decide +kernel
theorem kne {a b : Str} (h : a ≠ b) : decide (V.str a = V.str b) = false := decide_eq_false fun z => h (V.str.inj z)
theorem keq {a : Str} : decide (V.str a = V.str a) = true := decide_eq_true rfl
theorem tl : ("table" : Str) ≠ "leaf" := by decide +kernel
theorem wl : ("words" : Str) ≠ "leaf" := by decide +kernel
theorem wt : ("words" : Str) ≠ "table" := by decide +kernel
theorem fl : ("flow" : Str) ≠ "leaf" := by decide +kernel
theorem ft : ("flow" : Str) ≠ "table" := by decide +kernel
theorem fw : ("flow" : Str) ≠ "words" := by decide +kernel
theorem ol : ("over" : Str) ≠ "leaf" := by decide +kernel
theorem ot : ("over" : Str) ≠ "table" := by decide +kernel
theorem ow : ("over" : Str) ≠ "words" := by decide +kernel
theorem of' : ("over" : Str) ≠ "flow" := by decide +kernel
theorem lt' : ("leaf" : Str) ≠ "table" := by decide +kernel
theorem lf' : ("leaf" : Str) ≠ "flow" := by decide +kernel
theorem lo' : ("leaf" : Str) ≠ "over" := by decide +kernel
theorem wf' : ("words" : Str) ≠ "flow" := by decide +kernel
theorem wo' : ("words" : Str) ≠ "over" := by decide +kernel
theorem lkt {k : Nat} {g : Int} {al sd : Str} : (What.lined k g al sd).kd ≠ "table" ∧ (What.lined k g al sd).kd ≠ "flow" ∧ (What.lined k g al sd).kd ≠ "over" ∧ (What.lined k g al sd).kd ≠ "leaf" ∧ (What.lined k g al sd).kd ≠ "words" := by
  have h : (What.lined k g al sd).kd = "row" ∨ (What.lined k g al sd).kd = "column" ∨ (What.lined k g al sd).kd = "wrap" := by
    match k with
    | 0 => exact .inl rfl
    | 1 => exact .inr (.inl rfl)
    | k + 2 => exact .inr (.inr rfl)
  rcases h with h | h | h <;> rw [h] <;> decide +kernel
theorem in_lined {k : Nat} {g : Int} {al sd : Str} : inV (.str (What.lined k g al sd).kd) L3 = true := by
  match k with
  | 0 => exact inRow
  | 1 => exact inCol
  | k + 2 => exact inWrap
theorem kd_len (wh : What) : wh.kd.length ≤ 10 := by
  have : wh.kd ∈ (["leaf", "row", "column", "wrap", "table", "words", "flow", "over"] : List Str) := by
    cases wh with
    | lined k g al sd =>
      match k with
      | 0 => simp [What.kd]
      | 1 => simp [What.kd]
      | k + 2 => simp [What.kd]
    | _ => simp [What.kd]
  revert this
  generalize wh.kd = x
  revert x
  decide +kernel
theorem four_join (p : (Str × Int) × (Str × Int)) : Txt.join "," ([V.str p.1.1, V.int p.1.2, V.str p.2.1, V.int p.2.2].map tS) = four p := by
  show Txt.join "," [p.1.1, nS p.1.2, p.2.1, nS p.2.2] = _
  rw [glueN, glueN, glue2]
  rfl
theorem part_table {c g : Int} {sd : Str} {sps : List (Int × Int)} {i : Nat} {p : Int × Int} (h : sps[i]? = some p) : partP (.table c g sd sps) i = [(("span" : Str), two "," p.1 p.2)] := by
  show [(("span" : Str), two "," (sps.getD i (1, 1)).1 (sps.getD i (1, 1)).2)] = _
  rw [List.getD_eq_getElem?_getD, h]
  rfl
theorem part_flow {sds : List Str} {ws : List (List Str)} {j : Int} {i : Nat} {p : Str} (h : sds[i]? = some p) : partP (.flow sds ws j) i = [(("float" : Str), p)] := by
  show [(("float" : Str), sds.getD i "left")] = _
  rw [List.getD_eq_getElem?_getD, h]
  rfl
theorem part_over {ps : List ((Str × Int) × (Str × Int))} {i : Nat} {p : (Str × Int) × (Str × Int)} (h : ps[i]? = some p) : partP (.over ps) (i + 1) = [(("at" : Str), four p)] := by
  show [(("at" : Str), four (ps.getD i (("", 0), ("", 0))))] = _
  rw [List.getD_eq_getElem?_getD, h]
  rfl
section
variable {P : Program} {w : World} {K : PySem.W.Frag} {mg : Str → Option Value} {base : Heap} {aL aP : Addr}
theorem scWhatTold : FnScope ["kind", "what"] ["kind", "what"] (defScope sWhatTold) := ⟨rfl, rfl, rfl, by decide +kernel, rfl, by decide +kernel, by decide +kernel⟩
set_option maxHeartbeats 8000000 in
theorem ok_whatTold {f f1 f2 : Addr} {fd d1 d2 : FuncData} (F : Fun K "what_told" "what_told" sWhatTold f fd) (N : Names mg) (G : Glb P w K mg aL aP)
    (G1 : FnOk P w K mg base CX0 1 f1 d1 ["things", "sign"] spJoined) (b1 : Binds K d1 ["things", "sign"] []) (m1 : mg "joined" = some (.ref f1)) (k1 : PySem.W.keepIn K (.ref f1) = true)
    (G2 : FnOk P w K mg base CX0 1 f2 d2 ["words"] spWText) (b2 : Binds K d2 ["words"] []) (m2 : mg "words_text" = some (.ref f2)) (k2 : PySem.W.keepIn K (.ref f2) = true) : FnOk P w K mg base CX0 2 f fd ["kind", "what"] spWhatTold := by
  refine F.ok scWhatTold (fun vs H Q E h => ?_) (fun cdv A outer s H vs Q E hr h => ?_)
  · obtain ⟨q, wh, e, _⟩ := h
    rw [e]
    rfl
  · obtain ⟨q, wh, e, hw, hg, k⟩ := h
    subst e
    refine ⟨_, pss_cons (ps_if (pt_cmpR (r := rIn K false) op_in_seq (pv 0) (pe_glob (v := .ref aL) (by rfl) G.mL rfl) (by rfl))
        (pss_one (ps_ret (pe_disp (pps_cons pe_str (pe_callTy call_strX (by rfl) N.str PyProof.Rows.boot_str (pa_cons (pe_ix ix_tup (pv 1) pe_int (fun _ _ => rfl)) pa_nil)) (pps_cons pe_str (pe_ix ix_tup (pv 1) pe_int (fun _ _ => rfl)) (pps_cons pe_str (pe_ix ix_tup (pv 1) pe_int (fun _ _ => rfl)) pps_nil))) rfl rfl (by simp) (by decide)))) pss_nil)
      (pss_cons (ps_if (pt_cmpR op_eq (pv 0) pe_str (nomark _)) (pss_one (ps_ret (pe_disp (pps_cons pe_str (pe_call G1 hr (by rfl) m1 k1 b1 .nil pass0 (pa_cons (pv 1) (pa_cons pe_str pa_nil))) pps_nil) rfl rfl (by simp) (by decide)))) pss_nil)
      (pss_cons (ps_if (pt_cmpR op_eq (pv 0) pe_str (nomark _)) (pss_one (ps_ret (pe_disp (pps_cons pe_str (pe_callTy call_strX (by rfl) N.str PyProof.Rows.boot_str (pa_cons (pe_ix ix_tup (pv 1) pe_int (fun _ _ => rfl)) pa_nil)) (pps_cons pe_str (pe_callTy call_strX (by rfl) N.str PyProof.Rows.boot_str (pa_cons (pe_ix ix_tup (pv 1) pe_int (fun _ _ => rfl)) pa_nil)) (pps_cons pe_str (pe_ix ix_tup (pv 1) pe_int (fun _ _ => rfl)) pps_nil))) rfl rfl (by simp) (by decide)))) pss_nil)
      (pss_cons (ps_if (pt_cmpR op_eq (pv 0) pe_str (nomark _)) (pss_one (ps_ret (pe_disp (pps_cons pe_str (pe_call G2 hr (by rfl) m2 k2 b2 .nil pass0 (pa_cons (pe_ix ix_tup (pv 1) pe_int (fun _ _ => rfl)) pa_nil)) (pps_cons pe_str (pe_callTy call_strX (by rfl) N.str PyProof.Rows.boot_str (pa_cons (pe_ix ix_tup (pv 1) pe_int (fun _ _ => rfl)) pa_nil)) pps_nil)) rfl rfl (by simp) (by decide)))) pss_nil)
      (pss_cons (ps_if (pt_cmpR op_eq (pv 0) pe_str (nomark _)) (pss_one (ps_ret (pe_disp (pps_cons pe_str (pe_call G2 hr (by rfl) m2 k2 b2 .nil pass0 (pa_cons (pe_ix ix_tup (pv 1) pe_int (fun _ _ => rfl)) pa_nil)) (pps_cons pe_str (pe_callTy call_strX (by rfl) N.str PyProof.Rows.boot_str (pa_cons (pe_ix ix_tup (pv 1) pe_int (fun _ _ => rfl)) pa_nil)) pps_nil)) rfl rfl (by simp) (by decide)))) pss_nil)
      (pss_one (ps_ret pe_dnewK)))))), ?_⟩
    have put : ∀ {p : Addr}, H p = none → Same H (upd H p (.dK [])) := fun hp => Same.put (Same.refl _) hp
    refine ⟨_, rfl, aL, _, rfl, .inr (G.sL _), rfl, rfl, _, rfl, ?_⟩
    cases wh with
    | lined n g al sd =>
      refine iteB in_lined fun p hp => ?_
      have hw1 : (upd H p (.dK [])) q = some (.tup [.int g, .str al, .str sd]) := put hp _ _ hw
      refine ⟨_, rfl, q, _, _, _, rfl, rfl, SqT.of hw1, atI_nat (j := 0) rfl, _, rfl, hg.1, _, rfl, q, _, _, _, rfl, rfl, SqT.of hw1, atI_nat (j := 1) rfl, _, rfl, q, _, _, _, rfl, rfl, SqT.of hw1, atI_nat (j := 2) rfl, upd_same, (whatP (.lined n g al sd)).map kS, rfl, (by show 3 ≤ 15; decide), ?_⟩
      rw [mergeK_kS (ps := whatP (.lined n g al sd)) (show (["gap", "align", "side"] : List Str).Nodup by decide +kernel)]
      exact k p _ hp (Same.put (put hp) hp) upd_same
    | leaf a b =>
      refine iteC inLeaf ⟨_, rfl, rfl, _, rfl, iteB keq fun p hp => ?_⟩
      refine ⟨_, rfl, q, _, ",", rfl, put hp _ _ hw, (by show 2 ≤ 10; decide), twoSmall hg.1 hg.2, by decide +kernel, fun H2 s2 => ⟨s2 _ _ upd_same, (whatP (.leaf a b)).map kS, by rw [two_join]; rfl, (by show 1 ≤ 15; decide), ?_⟩⟩
      rw [mergeK_kS (ps := whatP (.leaf a b)) (show (["wish"] : List Str).Nodup by decide +kernel)]
      exact k p _ hp (Same.put ((put hp).trans s2) hp) upd_same
    | table c g sd sps =>
      obtain ⟨sp, as, hw, _⟩ := hw
      refine iteC inTable ⟨_, rfl, rfl, _, rfl, iteC (kne tl) ⟨_, rfl, rfl, _, rfl, iteB keq fun p hp => ?_⟩⟩
      have hw1 := put hp _ _ hw
      refine ⟨_, rfl, q, _, _, _, rfl, rfl, SqT.of hw1, atI_nat (j := 0) rfl, _, rfl, hg.1, _, rfl, q, _, _, _, rfl, rfl, SqT.of hw1, atI_nat (j := 1) rfl, _, rfl, hg.2.1, _, rfl, q, _, _, _, rfl, rfl, SqT.of hw1, atI_nat (j := 2) rfl, upd_same, (whatP (.table c g sd sps)).map kS, rfl, (by show 3 ≤ 15; decide), ?_⟩
      rw [mergeK_kS (ps := whatP (.table c g sd sps)) (show (["columns", "gap", "side"] : List Str).Nodup by decide +kernel)]
      exact k p _ hp (Same.put (put hp) hp) upd_same
    | words ws j =>
      obtain ⟨sp, hw, hws⟩ := hw
      refine iteC inWords ⟨_, rfl, rfl, _, rfl, iteC (kne wl) ⟨_, rfl, rfl, _, rfl, iteC (kne wt) ⟨_, rfl, rfl, _, rfl, iteB keq fun p hp => ?_⟩⟩⟩
      have s1 := put hp
      refine ⟨_, rfl, q, _, _, _, rfl, rfl, SqT.of (s1 _ _ hw), atI_nat (j := 0) rfl, sp, ws, rfl, hws.keep (KT.same s1), hg.1, fun H2 s2 => ?_⟩
      have s02 := s1.trans s2
      refine ⟨_, rfl, q, _, _, _, rfl, rfl, SqT.of (s02 _ _ hw), atI_nat (j := 1) rfl, _, rfl, hg.2, s2 _ _ upd_same, (whatP (.words ws j)).map kS, rfl, (by show 2 ≤ 15; decide), ?_⟩
      rw [mergeK_kS (ps := whatP (.words ws j)) (show (["text", "joint"] : List Str).Nodup by decide +kernel)]
      exact k p _ hp (Same.put s02 hp) upd_same
    | flow sds ws j =>
      obtain ⟨tp, sp, hw, ht, hws⟩ := hw
      refine iteC inFlow ⟨_, rfl, rfl, _, rfl, iteC (kne fl) ⟨_, rfl, rfl, _, rfl, iteC (kne ft) ⟨_, rfl, rfl, _, rfl, iteC (kne fw) ⟨_, rfl, rfl, _, rfl, iteB keq fun p hp => ?_⟩⟩⟩⟩
      have s1 := put hp
      refine ⟨_, rfl, q, _, _, _, rfl, rfl, SqT.of (s1 _ _ hw), atI_nat (j := 1) rfl, sp, ws, rfl, hws.keep (KT.same s1), hg.2.1, fun H2 s2 => ?_⟩
      have s02 := s1.trans s2
      refine ⟨_, rfl, q, _, _, _, rfl, rfl, SqT.of (s02 _ _ hw), atI_nat (j := 2) rfl, _, rfl, hg.2.2, s2 _ _ upd_same, (whatP (.flow sds ws j)).map kS, rfl, (by show 2 ≤ 15; decide), ?_⟩
      rw [mergeK_kS (ps := whatP (.flow sds ws j)) (show (["text", "joint"] : List Str).Nodup by decide +kernel)]
      exact k p _ hp (Same.put s02 hp) upd_same
    | over ps =>
      refine iteC inOver ⟨_, rfl, rfl, _, rfl, iteC (kne ol) ⟨_, rfl, rfl, _, rfl, iteC (kne ot) ⟨_, rfl, rfl, _, rfl, iteC (kne ow) ⟨_, rfl, rfl, _, rfl, iteC (kne of') ?_⟩⟩⟩⟩
      intro p hp
      exact k p _ hp (put hp) upd_same
theorem scPartTold : FnScope ["elder", "place", "what", "pair"] ["elder", "place"] (defScope sPartTold) := ⟨rfl, rfl, rfl, by decide +kernel, rfl, by decide +kernel, by decide +kernel⟩
set_option maxHeartbeats 8000000 in
theorem ok_partTold {f f1 fK fW : Addr} {fd d1 dK dW : FuncData} (F : Fun K "part_told" "part_told" sPartTold f fd)
    (G1 : FnOk P w K mg base CX0 1 f1 d1 ["things", "sign"] spJoined) (b1 : Binds K d1 ["things", "sign"] []) (m1 : mg "joined" = some (.ref f1)) (k1 : PySem.W.keepIn K (.ref f1) = true)
    (GK : FnOk P w K mg base CX0 1 fK dK ["box"] (spAt 0)) (bK : Binds K dK ["box"] []) (mK : mg "kind_of" = some (.ref fK)) (kK : PySem.W.keepIn K (.ref fK) = true)
    (GW : FnOk P w K mg base CX0 1 fW dW ["box"] (spAt 3)) (bW : Binds K dW ["box"] []) (mW : mg "what_of" = some (.ref fW)) (kW : PySem.W.keepIn K (.ref fW) = true) : FnOk P w K mg base CX0 2 f fd ["elder", "place"] spPartTold := by
  refine F.ok scPartTold (fun vs H Q E h => ?_) (fun cdv A outer s H vs Q E hr h => ?_)
  · obtain ⟨a, d, ts, i, e, _⟩ := h
    rw [e]
    rfl
  · obtain ⟨a, d, ts, i, e, ⟨ao, q, ap, ha, _, hw, _⟩, hg, hf, hi, k⟩ := h
    subst e
    refine ⟨_, pss_cons (ps_set (i := 2) scPartTold.nd rfl (Or.inl rfl) (pe_call GW hr (by rfl) mW kW bW .nil pass0 (pa_cons (pv 0) pa_nil)))
      (pss_cons (ps_if (pt_cmpR op_eq (pe_call GK hr (by rfl) mK kK bK .nil pass0 (pa_cons (pv 0) pa_nil)) pe_str (nomark _)) (pss_one (ps_ret (pe_disp (pps_cons pe_str (pe_call G1 hr (by rfl) m1 k1 b1 .nil pass0 (pa_cons (pe_ix ix_tup (pe_ix ix_tup (pv 2) pe_int (fun _ _ => rfl)) (pv 1) (fun _ _ => rfl)) (pa_cons pe_str pa_nil))) pps_nil) rfl rfl (by simp) (by decide)))) pss_nil)
      (pss_cons (ps_if (pt_cmpR op_eq (pe_call GK hr (by rfl) mK kK bK .nil pass0 (pa_cons (pv 0) pa_nil)) pe_str (nomark _)) (pss_one (ps_ret (pe_disp (pps_cons pe_str (pe_ix ix_tup (pe_ix ix_tup (pv 2) pe_int (fun _ _ => rfl)) (pv 1) (fun _ _ => rfl)) pps_nil) rfl rfl (by simp) (by decide)))) pss_nil)
      (pss_cons (ps_if (pw_and (pt_cmpR op_eq (pe_call GK hr (by rfl) mK kK bK .nil pass0 (pa_cons (pv 0) pa_nil)) pe_str (nomark _)) (pw_and1 (pt_cmpR op_gt (pv 1) pe_int (nomark _)))).pt
        (pss_cons (ps_set (i := 3) scPartTold.nd rfl (Or.inl rfl) (pe_ix ix_tup (pv 2) (pe_op op_sub (pv 1) pe_int) (fun _ _ => rfl)))
        (pss_one (ps_ret (pe_disp (pps_cons pe_str (pe_call G1 hr (by rfl) m1 k1 b1 .nil pass0 (pa_cons (pe_op op_catT (pe_ix ix_tup (pv 3) pe_int (fun _ _ => rfl)) (pe_ix ix_tup (pv 3) pe_int (fun _ _ => rfl))) (pa_cons pe_str pa_nil))) pps_nil) rfl rfl (by simp) (by decide))))) pss_nil)
      (pss_one (ps_ret pe_dnewK))))), ?_⟩
    refine ⟨_, rfl, a, _, _, rfl, ha, rfl, _, rfl, a, _, _, rfl, ha, rfl, rfl, _, rfl, ?_⟩
    have put : ∀ {p : Addr}, H p = none → Same H (upd H p (.dK [])) := fun hp => Same.put (Same.refl _) hp
    cases e : d.wh with
    | lined n g al sd =>
      rw [e] at k
      obtain ⟨z1, z2, z3, _⟩ := lkt (k := n) (g := g) (al := al) (sd := sd)
      exact iteC (kne z1) ⟨_, rfl, a, _, _, rfl, ha, rfl, rfl, _, rfl, iteC (by rw [e]; exact kne z2) ⟨_, rfl, a, _, _, rfl, ha, rfl, rfl, _, rfl, iteC (by rw [e]; exact kne z3) (iteF fun p hp => k p _ hp (put hp) upd_same)⟩⟩
    | leaf x y =>
      rw [e] at k
      exact iteC (kne lt') ⟨_, rfl, a, _, _, rfl, ha, rfl, rfl, _, rfl, iteC (by rw [e]; exact kne lf') ⟨_, rfl, a, _, _, rfl, ha, rfl, rfl, _, rfl, iteC (by rw [e]; exact kne lo') (iteF fun p hp => k p _ hp (put hp) upd_same)⟩⟩
    | words ws j =>
      rw [e] at k
      exact iteC (kne wt) ⟨_, rfl, a, _, _, rfl, ha, rfl, rfl, _, rfl, iteC (by rw [e]; exact kne wf') ⟨_, rfl, a, _, _, rfl, ha, rfl, rfl, _, rfl, iteC (by rw [e]; exact kne wo') (iteF fun p hp => k p _ hp (put hp) upd_same)⟩⟩
    | table c g sd sps =>
      rw [e] at k hw hg hf
      obtain ⟨sp, as, hq, hs, hr'⟩ := hw
      have hl : as.length = sps.length := by rw [hr'.1, List.length_map]
      have hf' : sps.length = ts.length := hf
      refine iteB keq fun p hp => ?_
      have s1 := put hp
      have hia : i < as.length := by omega
      have his : i < sps.length := by omega
      have hp1 := hr'.2 i as[i] _ (List.getElem?_eq_getElem hia) (by rw [List.getElem?_map, List.getElem?_eq_getElem his]; rfl)
      obtain ⟨g1, g2⟩ := hg.2.2.2 _ (List.getElem_mem his)
      refine ⟨_, rfl, q, _, _, _, rfl, rfl, SqT.of (s1 _ _ hq), atI_nat (j := 3) rfl, _, rfl, sp, _, _, _, rfl, rfl, SqT.of (s1 _ _ hs), atI_nat (j := i) (by rw [List.getElem?_map, List.getElem?_eq_getElem hia]; rfl), as[i], _, ",", rfl, s1 _ _ hp1, (by show 2 ≤ 10; decide), twoSmall g1 g2, by decide +kernel, fun H2 s2 => ⟨s2 _ _ upd_same, (partP (.table c g sd sps) i).map kS, ?_, (by show 1 ≤ 15; decide), ?_⟩⟩
      · rw [show Txt.join "," ((pairVs sps[i]).map tS) = two "," sps[i].1 sps[i].2 from two_join _ _ _]
        rw [part_table (List.getElem?_eq_getElem his)]
        rfl
      · rw [mergeK_kS (ps := partP (.table c g sd sps) i) (show (["span"] : List Str).Nodup by decide +kernel)]
        exact k p _ hp (Same.put (s1.trans s2) hp) upd_same
    | flow sds ws j =>
      rw [e] at k hw hg hf
      obtain ⟨tp, sp, hq, ht, _⟩ := hw
      have hf' : sds.length = ts.length := hf
      refine iteC (kne ft) ⟨_, rfl, a, _, _, rfl, ha, rfl, rfl, _, rfl, iteB (by rw [e]; exact keq) fun p hp => ?_⟩
      have s1 := put hp
      have his : i < sds.length := by omega
      refine ⟨_, rfl, q, _, _, _, rfl, rfl, SqT.of (s1 _ _ hq), atI_nat (j := 0) rfl, _, rfl, tp, _, _, _, rfl, rfl, SqT.of (s1 _ _ ht), atI_nat (j := i) (by unfold strsV; rw [List.getElem?_map, List.getElem?_eq_getElem his]; rfl), upd_same, (partP (.flow sds ws j) i).map kS, ?_, (by show 1 ≤ 15; decide), ?_⟩
      · rw [part_flow (List.getElem?_eq_getElem his)]
        rfl
      · rw [mergeK_kS (ps := partP (.flow sds ws j) i) (show (["float"] : List Str).Nodup by decide +kernel)]
        exact k p _ hp (Same.put s1 hp) upd_same
    | over ps =>
      rw [e] at k hw hg hf
      obtain ⟨as, hq, hl, hr'⟩ := hw
      have hf' : ts.length ≤ ps.length + 1 := hf
      refine iteC (kne ot) ⟨_, rfl, a, _, _, rfl, ha, rfl, rfl, _, rfl, iteC (by rw [e]; exact kne of') ⟨_, rfl, a, _, _, rfl, ha, rfl, rfl, _, rfl, iteB (by rw [e]; exact keq) ⟨_, rfl, _, _, rfl, rfl, _, rfl, ?_⟩⟩⟩
      cases i with
      | zero => exact iteC (decide_eq_false (by decide)) fun p hp => k p _ hp (put hp) upd_same
      | succ i =>
        have his : i < ps.length := by omega
        have hia : i < as.length := by omega
        obtain ⟨b, c, x1, x2, x3⟩ := hr' i as[i] ps[i] (List.getElem?_eq_getElem hia) (List.getElem?_eq_getElem his)
        obtain ⟨g1, g2⟩ := hg _ (List.getElem_mem his)
        refine iteB (decide_eq_true (by omega)) ⟨_, rfl, _, rfl, _, _, rfl, rfl, q, _, _, _, rfl, rfl, SqT.of hq, atI_of (j := i) (by omega) (by rw [List.getElem?_map, List.getElem?_eq_getElem hia]; rfl), fun p hp => ?_⟩
        have s1 := put hp
        refine ⟨_, rfl, as[i], _, _, _, rfl, rfl, SqT.of (s1 _ _ x1), atI_nat (j := 0) rfl, _, rfl, as[i], _, _, _, rfl, rfl, SqT.of (s1 _ _ x1), atI_nat (j := 1) rfl, b, c, _, _, rfl, rfl, SqT.of (s1 _ _ x2), SqT.of (s1 _ _ x3), by simp, (by show 4 ≤ sizeLine; decide), fun z => absurd z (by simp), fun _ t ht => ?_⟩
        have s2 : Same (upd H p (.dK [])) (upd (upd H p (.dK [])) t (.tup [.str ps[i].1.1, .int ps[i].1.2, .str ps[i].2.1, .int ps[i].2.2])) := Same.put (Same.refl _) ht
        refine ⟨t, _, ",", rfl, upd_same, (by show 4 ≤ 10; decide), ?_, by decide +kernel, fun H3 s3 => ⟨s3 _ _ (s2 _ _ upd_same), (partP (.over ps) (i + 1)).map kS, ?_, (by show 1 ≤ 15; decide), ?_⟩⟩
        · intro x hx
          have g1l : ps[i].1.1.length ≤ 60 := by have := g1.2.1; omega
          have g2l : ps[i].2.1.length ≤ 60 := by have := g2.2.1; omega
          rcases List.mem_cons.mp hx with z | hx
          · rw [z]; exact g1l
          rcases List.mem_cons.mp hx with z | hx
          · rw [z]; exact g1.2.2
          rcases List.mem_cons.mp hx with z | hx
          · rw [z]; exact g2l
          · rw [List.mem_singleton.mp hx]; exact g2.2.2
        · rw [show Txt.join "," (List.map tS ([V.str ps[i].1.1, V.int ps[i].1.2] ++ [V.str ps[i].2.1, V.int ps[i].2.2])) = four ps[i] from four_join _]
          rw [part_over (List.getElem?_eq_getElem his)]
          rfl
        · rw [mergeK_kS (ps := partP (.over ps) (i + 1)) (show (["at"] : List Str).Nodup by decide +kernel)]
          exact k p _ hp (Same.put (s1.trans (s2.trans s3)) hp) upd_same
end
end B08
namespace B08
open PySem L2 S2 DW
def spRowText : Sp := fun vs H Q _ => ∃ (a p : Addr) (d : BoxD) (ts : List Addr) (eh : What) (i : Nat), vs = [.ref a, .ref p] ∧ Fo.BoxAt H a d ts ∧ d.wh.Good ∧ d.own.Good ∧ d.nm.length ≤ 60 ∧ eh.Good ∧ H p = some (.dK ((partP eh i).map kS)) ∧ ∀ H', Same H H' → Q (.str (Txt.join " " (rowL d eh i))) H'
theorem goodN0 : GoodN 0 := by show (0 : Nat) < 1000000000; decide
theorem two_len {s : Str} {a b : Int} (hs : s.length ≤ 2) (h1 : GoodN a) (h2 : GoodN b) : (two s a b).length ≤ 60 := by
  unfold two
  rw [Str.length_append, Str.length_append]
  have := nS_len h1
  have := nS_len h2
  omega
theorem nS60 {a : Int} (h : GoodN a) : (nS a).length ≤ 60 := by have := nS_len h; omega
theorem four_len {p : (Str × Int) × (Str × Int)} (h1 : GoodA p.1) (h2 : GoodA p.2) : (four p).length ≤ 60 := by
  unfold four
  have e : ("," : Str).length = 1 := by decide +kernel
  simp only [Str.length_append, e]
  have := nS_len h1.2.2
  have := nS_len h2.2.2
  have := h1.2.1
  have := h2.2.1
  omega
theorem all_cons {q : Str × Str} {r : List (Str × Str)} {C : Str × Str → Prop} (h : C q) (t : ∀ p ∈ r, C p) : ∀ p ∈ q :: r, C p := fun p hp => by
  rcases List.mem_cons.mp hp with z | z
  · rw [z]; exact h
  · exact t p z
theorem all_nil {C : Str × Str → Prop} : ∀ p ∈ ([] : List (Str × Str)), C p := fun p hp => nomatch hp
theorem told_len {o : Own} {wh eh : What} {i : Nat} (ho : o.Good) (hw : wh.Good) (he : eh.Good) : ∀ p ∈ ownP o ++ (whatP wh ++ partP eh i), p.2.length ≤ 60 := by
  obtain ⟨g1, g2, g3, g4, g5, g6, g7, g8⟩ := ho
  have l2 : (".." : Str).length ≤ 2 := by decide +kernel
  have l1 : ("," : Str).length ≤ 2 := by decide +kernel
  have A : ∀ p ∈ ownP o, p.2.length ≤ 60 := all_cons (two_len l2 g1 g2) (all_cons (two_len l2 g3 g4) (all_cons (nS60 g5) (all_cons (nS60 g6) (all_cons (nS60 g7) (all_cons (nS60 g8) all_nil)))))
  have B : ∀ p ∈ whatP wh, p.2.length ≤ 60 := by
    cases wh with
    | leaf a b => exact all_cons (two_len l1 hw.1 hw.2) all_nil
    | lined k g al sd => exact all_cons (nS60 hw.1) (all_cons (by have := hw.2.1; show al.length ≤ 60; omega) (all_cons (by have := hw.2.2; show sd.length ≤ 60; omega) all_nil))
    | table c g sd sps => exact all_cons (nS60 hw.1) (all_cons (nS60 hw.2.1) (all_cons (by have := hw.2.2.1; show sd.length ≤ 60; omega) all_nil))
    | words ws j => exact all_cons (wtx_len hw.1) (all_cons (nS60 hw.2) all_nil)
    | flow sds ws j => exact all_cons (wtx_len hw.2.1) (all_cons (nS60 hw.2.2) all_nil)
    | over ps => exact all_nil
  have C : ∀ p ∈ partP eh i, p.2.length ≤ 60 := by
    cases eh with
    | leaf a b => exact all_nil
    | lined k g al sd => exact all_nil
    | words ws j => exact all_nil
    | table c g sd sps =>
      refine all_cons ?_ all_nil
      show (two "," (sps.getD i (1, 1)).1 (sps.getD i (1, 1)).2).length ≤ 60
      rw [List.getD_eq_getElem?_getD]
      cases e : sps[i]? with
      | none => exact two_len l1 (by show (1 : Nat) < 1000000000; decide) (by show (1 : Nat) < 1000000000; decide)
      | some q =>
        obtain ⟨z1, z2⟩ := he.2.2.2 q (List.mem_of_getElem? e)
        exact two_len l1 z1 z2
    | flow sds ws j =>
      refine all_cons ?_ all_nil
      show (sds.getD i "left").length ≤ 60
      rw [List.getD_eq_getElem?_getD]
      cases e : sds[i]? with
      | none => show ("left" : Str).length ≤ 60; decide +kernel
      | some q =>
        show q.length ≤ 60
        rcases he.1 q (List.mem_of_getElem? e) with z | z <;> rw [z] <;> decide +kernel
    | over ps =>
      cases i with
      | zero => exact all_nil
      | succ i =>
        refine all_cons ?_ all_nil
        show (four (ps.getD i (("", 0), ("", 0)))).length ≤ 60
        rw [List.getD_eq_getElem?_getD]
        cases e : ps[i]? with
        | none => exact four_len ⟨by decide +kernel, by decide +kernel, goodN0⟩ ⟨by decide +kernel, by decide +kernel, goodN0⟩
        | some q =>
          obtain ⟨z1, z2⟩ := he q (List.mem_of_getElem? e)
          exact four_len z1 z2
  intro p hp
  rcases List.mem_append.mp hp with z | z
  · exact A p z
  · rcases List.mem_append.mp z with z | z
    · exact B p z
    · exact C p z
theorem lk_mem {ps : List (Str × Str)} {x t : Str} (h : lk ps x = some t) : ∃ p ∈ ps, p.2 = t := by
  unfold lk at h
  obtain ⟨p, hp, e⟩ := Option.map_eq_some_iff.mp h
  exact ⟨p, List.mem_of_find?_eq_some hp, e⟩
theorem pick_len1 (ps : List (Str × Str)) (p : Str × Str) : (pick ps p).length ≤ 1 := by unfold pick; exact len1
theorem flat_len (ps : List (Str × Str)) : ∀ l : List (Str × Str), (l.flatMap (pick ps)).length ≤ l.length
  | [] => Nat.le_refl _
  | p :: l => by
    rw [List.flatMap_cons, List.length_append, List.length_cons]
    have := pick_len1 ps p
    have := flat_len ps l
    omega
theorem plain_keys : ∀ p ∈ plainL, p.1.length ≤ 10 := by decide +kernel
theorem pick_LB {ps : List (Str × Str)} (h : ∀ p ∈ ps, p.2.length ≤ 60) {q : Str × Str} (hq : q.1.length ≤ 10) : LB 80 (pick ps q) := by
  unfold pick
  cases e : lk ps q.1 with
  | none => exact fun x hx => by rw [show ((none : Option Str).getD q.2) = q.2 from rfl, if_pos rfl] at hx; cases hx
  | some t =>
    obtain ⟨p, hp, rfl⟩ := lk_mem e
    refine LB.ite ?_
    have := h p hp
    have e1 : ("=" : Str).length = 1 := by decide +kernel
    rw [Str.length_append, Str.length_append, e1]
    show q.1.length + 1 + p.2.length ≤ 80
    omega
theorem flat_LB {ps : List (Str × Str)} (h : ∀ p ∈ ps, p.2.length ≤ 60) : ∀ (l : List (Str × Str)), (∀ p ∈ l, p.1.length ≤ 10) → LB 80 (l.flatMap (pick ps))
  | [], _ => LB.nil
  | p :: l, hl => by
    rw [List.flatMap_cons]
    exact LB.app (pick_LB h (hl p List.mem_cons_self)) (flat_LB h l fun q hq => hl q (List.mem_cons_of_mem _ hq))
theorem told_keys (o : Own) (wh eh : What) (i : Nat) : ((ownP o ++ whatP wh ++ partP eh i).map (·.1)).Nodup := by
  have h : ∀ a ∈ ([["wish"], ["gap", "align", "side"], ["columns", "gap", "side"], ["text", "joint"], []] : List (List Str)), ∀ b ∈ ([["span"], ["float"], ["at"], []] : List (List Str)), ((["wide", "high", "grow", "shrink", "rank", "alike"] : List Str) ++ a ++ b).Nodup := by decide +kernel
  rw [List.map_append, List.map_append]
  refine h _ ?_ _ ?_
  · cases wh <;> simp [whatP]
  · unfold partP
    split <;> simp
theorem rowL_eq {d : BoxD} {eh : What} {i : Nat} (hw : d.wh.Good) (he : eh.Good) : rowL d eh i = d.wh.kd :: d.nm :: plainL.flatMap (pick (ownP d.own ++ (whatP d.wh ++ partP eh i))) := by
  unfold rowL
  rw [row_eq d.own hw he]
theorem rowL_LB {d : BoxD} {eh : What} {i : Nat} (hw : d.wh.Good) (ho : d.own.Good) (hn : d.nm.length ≤ 60) (he : eh.Good) : LB 80 (rowL d eh i) ∧ (rowL d eh i).length ≤ 18 := by
  rw [rowL_eq hw he]
  constructor
  · intro x hx
    rcases List.mem_cons.mp hx with z | hx
    · rw [z]; have := kd_len d.wh; omega
    rcases List.mem_cons.mp hx with z | hx
    · rw [z]; omega
    · exact flat_LB (told_len ho hw he) _ plain_keys x hx
  · have := flat_len (ownP d.own ++ (whatP d.wh ++ partP eh i)) plainL
    rw [List.length_cons, List.length_cons]
    have e : plainL.length = 16 := rfl
    omega
section
variable {P : Program} {w : World} {K : PySem.W.Frag} {mg : Str → Option Value} {base : Heap} {aL aP : Addr}
theorem scRowText : FnScope ["box", "as_part", "told", "words", "word", "plain"] ["box", "as_part"] (defScope sRowText) := ⟨rfl, rfl, rfl, by decide +kernel, rfl, by decide +kernel, by decide +kernel⟩
set_option maxHeartbeats 8000000 in
theorem ok_rowText {f f1 f2 fK fN fO fW : Addr} {fd d1 d2 dK dN dO dW : FuncData} (F : Fun K "row_text" "row_text" sRowText f fd) (G : Glb P w K mg aL aP)
    (G1 : FnOk P w K mg base CX0 2 f1 d1 ["own"] spOwnTold) (b1 : Binds K d1 ["own"] []) (m1 : mg "own_told" = some (.ref f1)) (k1 : PySem.W.keepIn K (.ref f1) = true)
    (G2 : FnOk P w K mg base CX0 2 f2 d2 ["kind", "what"] spWhatTold) (b2 : Binds K d2 ["kind", "what"] []) (m2 : mg "what_told" = some (.ref f2)) (k2 : PySem.W.keepIn K (.ref f2) = true)
    (GK : FnOk P w K mg base CX0 1 fK dK ["box"] (spAt 0)) (bK : Binds K dK ["box"] []) (mK : mg "kind_of" = some (.ref fK)) (kK : PySem.W.keepIn K (.ref fK) = true)
    (GN : FnOk P w K mg base CX0 1 fN dN ["box"] (spAt 1)) (bN : Binds K dN ["box"] []) (mN : mg "name_of" = some (.ref fN)) (kN : PySem.W.keepIn K (.ref fN) = true)
    (GO : FnOk P w K mg base CX0 1 fO dO ["box"] (spAt 2)) (bO : Binds K dO ["box"] []) (mO : mg "own_of" = some (.ref fO)) (kO : PySem.W.keepIn K (.ref fO) = true)
    (GW : FnOk P w K mg base CX0 1 fW dW ["box"] (spAt 3)) (bW : Binds K dW ["box"] []) (mW : mg "what_of" = some (.ref fW)) (kW : PySem.W.keepIn K (.ref fW) = true) : FnOk P w K mg base CX0 3 f fd ["box", "as_part"] spRowText := by
  refine F.ok scRowText (fun vs H Q E h => ?_) (fun cdv A outer s H vs Q E hr h => ?_)
  · obtain ⟨a, p, d, ts, eh, i, e, _⟩ := h
    rw [e]
    rfl
  · obtain ⟨a, p, d, ts, eh, i, e, ⟨ao, q, ap, ha, hao, hw, _⟩, hg, hgo, hnm, hge, hp, k⟩ := h
    subst e
    have hr1 := hr.mono (j := 1) (by decide)
    have hu : (A.deeper (PyProof.Rows.envOfC "row_text" (defScope sRowText) s.heap.objs.size f cdv)).units + 1 < cLine := by have := hr.units; omega
    refine ⟨_, pss_cons (ps_set (i := 2) scRowText.nd rfl (Or.inl rfl) (pe_call G1 hr (by rfl) m1 k1 b1 .nil pass0 (pa_cons (pe_call GO hr1 (by rfl) mO kO bO .nil pass0 (pa_cons (pv 0) pa_nil)) pa_nil)))
      (pss_cons (ps_expr (pe_bm PySem.F.plainAttrs_dict PySem.F.slot_dict_update PySem.F.type_dict_update mt_updateK (pv 2) (pa_cons (pe_call G2 hr (by rfl) m2 k2 b2 .nil pass0 (pa_cons (pe_call GK hr1 (by rfl) mK kK bK .nil pass0 (pa_cons (pv 0) pa_nil)) (pa_cons (pe_call GW hr1 (by rfl) mW kW bW .nil pass0 (pa_cons (pv 0) pa_nil)) pa_nil))) pa_nil)))
      (pss_cons (ps_expr (pe_bm PySem.F.plainAttrs_dict PySem.F.slot_dict_update PySem.F.type_dict_update mt_updateK (pv 2) (pa_cons (pv 1) pa_nil)))
      (pss_cons (ps_set (i := 3) scRowText.nd rfl (Or.inl rfl) (pe_lst (pa_cons (pe_call GK hr1 (by rfl) mK kK bK .nil pass0 (pa_cons (pv 0) pa_nil)) (pa_cons (pe_call GN hr1 (by rfl) mN kN bN .nil pass0 (pa_cons (pv 0) pa_nil)) pa_nil))))
      (pss_cons (ps_for PassesOwn.never rfl (pi_itemsK G.dP (pe_glob (v := .ref aP) (by rfl) G.mP rfl)) (pg_tup rfl (pgs_cons (pg_name (i := 4) scRowText.nd rfl (Or.inl rfl)) (pgs_cons (pg_name (i := 5) scRowText.nd rfl (Or.inl rfl)) pgs_nil)))
        (pss_one (ps_if (pt_cmpR op_ne (pe_dget2 hu (pv 2) (pv 4) (pv 5) ⟨rfl, rfl, rfl, rfl⟩) (pv 5) (nomark _))
          (pss_one (ps_expr (pe_bm PySem.F.plainAttrs_list PySem.F.slot_list_append PySem.F.type_list_append mt_append (pv 3) (pa_cons (pe_op op_add_str (pe_op op_add_str (pv 4) pe_str) (pe_dget hu (pv 2) (pv 4) (fun _ _ => rfl))) pa_nil)))) pss_nil)))
      (pss_one (ps_ret (pe_bm PySem.F.plainAttrs_str PySem.F.slot_str_join PySem.F.type_str_join mt_join pe_str (pa_cons (pv 3) pa_nil)))))))), ?_⟩
    -- told
    refine seq_abs fun N1 hN1 => ?_
    refine ⟨_, rfl, a, _, _, rfl, ha, rfl, ao, d.own, rfl, hao, hgo, fun dt H1 hdt s1 h1 => hN1 _ _ ?_⟩
    clear hN1 N1
    refine seq_abs fun N2 hN2 => ?_
    have ha1 := s1 _ _ ha
    refine ⟨_, rfl, .inr (.inr (.inl ⟨rfl, .inl ⟨_, h1⟩⟩)), _, rfl, a, _, _, rfl, ha1, rfl, _, rfl, a, _, _, rfl, ha1, rfl, q, d.wh, rfl, hw.keep (KT.same s1), hg, fun dw H2 hdw s2 h2 => ?_⟩
    have n12 : dt ≠ dw := fun z => by rw [← z, h1] at hdw; cases hdw
    refine ⟨dt, dw, _, _, rfl, rfl, n12, s2 _ _ h1, .inl h2, ?_, hN2 _ _ ?_⟩
    · rw [List.length_map, List.length_map]
      have : (whatP d.wh).length ≤ 3 := by cases d.wh <;> simp [whatP]
      show 6 + _ ≤ sizeLine
      rw [sizeLine_eq]; omega
    clear hN2 N2
    have k1n := told_keys d.own d.wh eh i
    have k0n : ((ownP d.own ++ whatP d.wh).map (·.1)).Nodup := by
      rw [List.map_append] at k1n
      exact (List.nodup_append.mp k1n).1
    rw [mergeP_kS k0n]
    have s02 := s1.trans s2
    have npd : p ≠ dt := fun z => by rw [z, hdt] at hp; cases hp
    have kp3 : ∀ b o, b ≠ dt → H2 b = some o → (upd H2 dt (.dK ((ownP d.own ++ whatP d.wh).map kS))) b = some o := fun b o hb e => by rw [upd_ne hb]; exact e
    have h3 : (upd H2 dt (.dK ((ownP d.own ++ whatP d.wh).map kS))) dt = some (.dK ((ownP d.own ++ whatP d.wh).map kS)) := upd_same
    have hp3 := kp3 _ _ npd (s02 _ _ hp)
    have S3 : Same H (upd H2 dt (.dK ((ownP d.own ++ whatP d.wh).map kS))) := Same.put s02 hdt
    generalize upd H2 dt (.dK ((ownP d.own ++ whatP d.wh).map kS)) = H3 at *
    refine seq_abs fun N3 hN3 => ?_
    refine ⟨_, rfl, .inr (.inr (.inl ⟨rfl, .inl ⟨_, h3⟩⟩)), _, rfl, dt, p, _, _, rfl, rfl, Ne.symm npd, h3, .inl hp3, ?_, hN3 _ _ ?_⟩
    · rw [List.length_map, List.length_map, List.length_append]
      have : (whatP d.wh).length ≤ 3 := by cases d.wh <;> simp [whatP]
      have : (partP eh i).length ≤ 1 := by unfold partP; split <;> simp
      show 6 + _ + _ ≤ sizeLine
      rw [sizeLine_eq]; omega
    clear hN3 N3
    rw [mergeP_kS k1n, List.append_assoc]
    have h4 : (upd H3 dt (.dK ((ownP d.own ++ (whatP d.wh ++ partP eh i)).map kS))) dt = some (.dK ((ownP d.own ++ (whatP d.wh ++ partP eh i)).map kS)) := upd_same
    have S4 : Same H (upd H3 dt (.dK ((ownP d.own ++ (whatP d.wh ++ partP eh i)).map kS))) := Same.put S3 hdt
    have tl := told_len (i := i) hgo hg hge
    have req := rowL_eq (i := i) hg hge
    generalize ownP d.own ++ (whatP d.wh ++ partP eh i) = ps at *
    generalize upd H3 dt (.dK (ps.map kS)) = H4 at *
    clear h3 hp3 kp3 S3 s02 h2 h1 ha1 s1 s2 n12 k0n k1n
    refine seq_abs fun N4 hN4 => ?_
    refine ⟨_, rfl, a, _, _, rfl, S4 _ _ ha, rfl, _, rfl, a, _, _, rfl, S4 _ _ ha, rfl, (by show 2 ≤ sizeLine; decide), fun l hl => hN4 _ _ ?_⟩
    clear hN4 N4
    have h5 : (upd H4 l (.lst [.str d.wh.kd, .str d.nm])) l = some (.lst ((d.wh.kd :: d.nm :: (plainL.take 0).flatMap (pick ps)).map V.str)) := upd_same
    have nl : dt ≠ l := fun z => by rw [← z, h4] at hl; cases hl
    have d5 : (upd H4 l (.lst [.str d.wh.kd, .str d.nm])) dt = some (.dK (ps.map kS)) := (upd_ne nl).trans h4
    have S5 : Same H (upd H4 l (.lst [.str d.wh.kd, .str d.nm])) := Same.put S4 (S4.free hl)
    have hl0 : H l = none := S4.free hl
    generalize upd H4 l (.lst [.str d.wh.kd, .str d.nm]) = H5 at *
    refine seq_abs fun N5 hN5 => ?_
    refine ⟨rfl, for_itemsK (kvs := plainL.map kS) (fun j σ H9 => ∃ u4 u5, σ = [some (.ref a), some (.ref p), some (.ref dt), some (.ref l), u4, u5] ∧ Same H H9 ∧ H9 dt = some (.dK (ps.map kS)) ∧ H9 l = some (.lst ((d.wh.kd :: d.nm :: (plainL.take j).flatMap (pick ps)).map V.str))) ⟨_, _, rfl, S5, d5, h5⟩ ?_ ?_⟩
    · rintro j kk v t σ H9 hj ht ⟨u4, u5, rfl, S9, d9, h9⟩
      rw [List.getElem?_map] at hj
      obtain ⟨wp, hwp, e0⟩ := Option.map_eq_some_iff.mp hj
      obtain ⟨wd, pl⟩ := wp
      have e1 : (Sum.inr wd : Key) = kk := congrArg Prod.fst e0
      have e2 : V.str pl = v := congrArg Prod.snd e0
      subst e1 e2
      have hmem := List.mem_of_getElem? hwp
      have hwl : wd.length ≤ 10 := plain_keys _ hmem
      have ht9 : (upd H9 t (.tup [kV (Sum.inr wd), V.str pl])) t = some (.tup [V.str wd, V.str pl]) := upd_same
      have s10 : Same H9 (upd H9 t (.tup [kV (Sum.inr wd), V.str pl])) := Same.put (Same.refl _) ht
      have d10 := s10 _ _ d9
      have h10 := s10 _ _ h9
      have S10 := S9.trans s10
      generalize upd H9 t (.tup [kV (Sum.inr wd), V.str pl]) = H10 at *
      have etk : (plainL.take (j + 1)).flatMap (pick ps) = (plainL.take j).flatMap (pick ps) ++ pick ps (wd, pl) := by rw [List.take_succ, hwp, List.flatMap_append]; simp
      have hval : valV (ps.map kS) (Sum.inr wd : Key) = (lk ps wd).map V.str := lk_val ps wd
      have hD := DGet.k (k := Sum.inr wd) d10
      rw [hval] at hD
      have hlen : ((plainL.take j).flatMap (pick ps)).length ≤ 16 := by
        have := flat_len ps (plainL.take j)
        rw [List.length_take] at this
        have e : plainL.length = 16 := rfl
        omega
      refine ⟨t, _, rfl, SqT.of ht9, rfl, _, _, rfl, _, _, rfl, rfl, ?_⟩
      cases elk : lk ps wd with
      | none =>
        rw [elk] at hD
        refine ⟨_, rfl, dt, rfl, .inl ⟨_, .inl d10⟩, _, rfl, _, rfl, _, hD, _, rfl, rfl, _, rfl, ?_⟩
        show if (!decide (V.str pl = V.str pl)) = true then _ else _
        rw [keq]
        refine iteF ?_
        refine ⟨_, _, rfl, S10, d10, ?_⟩
        rw [etk, pick_none elk, List.append_nil]
        exact h10
      | some tx =>
        rw [elk] at hD
        obtain ⟨q0, hq0, eq0⟩ := lk_mem elk
        have htx : tx.length ≤ 60 := by rw [← eq0]; exact tl q0 hq0
        refine ⟨_, rfl, dt, rfl, .inl ⟨_, .inl d10⟩, _, rfl, _, rfl, _, hD, _, rfl, rfl, _, rfl, ?_⟩
        show if (!decide (V.str tx = V.str pl)) = true then _ else _
        by_cases c : tx = pl
        · rw [decide_eq_true (by rw [c])]
          refine iteF ⟨_, _, rfl, S10, d10, ?_⟩
          rw [etk, pick_some elk, if_pos c, List.append_nil]
          exact h10
        · rw [kne c]
          have e1 : ("=" : Str).length = 1 := by decide +kernel
          refine iteT ⟨_, rfl, .inl ⟨rfl, _, SqL.of h10⟩, _, rfl, _, _, rfl, rfl, smallE (by rw [e1]; omega), _, rfl, _, rfl, dt, _, rfl, hD, _, _, rfl, rfl, smallE (by rw [Str.length_append, e1]; omega), l, _, _, rfl, rfl, h10, small (by rw [List.length_map, List.length_cons, List.length_cons]; omega), ?_⟩
          refine ⟨_, _, rfl, Same.put S10 hl0, (upd_ne nl).trans d10, ?_⟩
          rw [upd_same, etk, pick_some elk, if_neg c, ← List.cons_append, ← List.cons_append, List.map_append (l₂ := [_])]
          rfl
    · rintro σ H9 ⟨u4, u5, rfl, S9, d9, h9⟩
      rw [List.length_map, List.take_length, ← req] at h9
      refine hN5 _ _ ?_
      obtain ⟨r1, r2⟩ := rowL_LB (i := i) hg hgo hnm hge
      refine ⟨rfl, _, rfl, " ", l, rowL d eh i, rfl, rfl, SqL.of h9, ?_, k H9 S9⟩
      have := sum_le (rowL d eh i) r1
      have e : (" " : Str).length = 1 := by decide +kernel
      rw [e]
      omega
end
end B08
namespace B08
open PySem L2 S2 DW
def noEh : What := .leaf 0 0
theorem noEh_good : noEh.Good := ⟨goodN0, goodN0⟩
def spTextRows (m : Nat) : Sp := fun vs H Q _ => ∃ (a p : Addr) (d : BoxD) (cs : Fo) (n : Nat) (eh : What) (i : Nat), vs = [.ref a, .int (n : Int), .ref p] ∧ (Fo.cons a d cs .nil).Ok H ∧ (Fo.cons a d cs .nil).Good ∧ cs.hgt < m ∧ cs.cnt ≤ 100 ∧ n + m ≤ 100 ∧ eh.Good ∧ H p = some (.dK ((partP eh i).map kS)) ∧
  ∀ (l : Addr) (H' : Hp), H l = none → Same H H' → H' l = some (.lst ((rowS d n eh i :: fRows cs (n + 1) d.wh 0).map V.str)) → Q (.ref l) H'
def spTreeText : Sp := fun vs H Q _ => ∃ (a : Addr) (d : BoxD) (cs : Fo), vs = [.ref a] ∧ (Fo.cons a d cs .nil).Ok H ∧ (Fo.cons a d cs .nil).Good ∧ cs.hgt < 12 ∧ cs.cnt ≤ 20 ∧
  ∀ H', Same H H' → Q (.str (Txt.join "\n" (rowS d 0 noEh 0 :: fRows cs 1 d.wh 0))) H'
theorem rowS_len {d : BoxD} {n : Nat} {eh : What} {i : Nat} (hn : n ≤ 200) (hw : d.wh.Good) (ho : d.own.Good) (hnm : d.nm.length ≤ 60) (he : eh.Good) : (rowS d n eh i).length ≤ 2000 := by
  unfold rowS
  obtain ⟨r1, r2⟩ := rowL_LB (i := i) hw ho hnm he
  have h1 := glue_len " " (rowL d eh i) r1
  have e : (" " : Str).length = 1 := by decide +kernel
  have e2 : ("  " : Str).length = 2 := by decide +kernel
  rw [e] at h1
  rw [Str.length_append, repS_len, e2]
  have : (rowL d eh i).length * 81 ≤ 18 * 81 := Nat.mul_le_mul_right _ r2
  omega
theorem fRows_LB : ∀ (F : Fo) (n : Nat) (eh : What) (i : Nat), F.Good → eh.Good → n + F.hgt ≤ 200 → LB 2000 (fRows F n eh i)
  | .nil, _, _, _, _, _, _ => LB.nil
  | .cons a d cs as, n, eh, i, ⟨⟨h1, h2, h3, _⟩, h5, h6⟩, he, hn => by
    have hm : n + max (cs.hgt + 1) as.hgt ≤ 200 := hn
    have e : fRows (.cons a d cs as) n eh i = [rowS d n eh i] ++ (fRows cs (n + 1) d.wh 0 ++ fRows as n eh (i + 1)) := rfl
    rw [e]
    exact LB.app (LB.one (rowS_len (by omega) h1 h2 h3 he)) (LB.app (fRows_LB cs (n + 1) d.wh 0 h5 h1 (by omega)) (fRows_LB as n eh (i + 1) h6 he (by omega)))
section
variable {P : Program} {w : World} {K : PySem.W.Frag} {mg : Str → Option Value} {base : Heap} {aL aP : Addr}
theorem scTextRows : FnScope ["box", "depth", "as_part", "rows", "place", "part"] ["box", "depth", "as_part"] (defScope sTextRows) := ⟨rfl, rfl, rfl, by decide +kernel, rfl, by decide +kernel, by decide +kernel⟩
theorem len_two : ("  " : Str).length = 2 := by decide +kernel
set_option maxHeartbeats 8000000 in
theorem ok_textRows {f f1 f2 f3 : Addr} {fd d1 d2 d3 : FuncData} (F : Fun K "text_rows" "text_rows" sTextRows f fd) (N : Names mg) (G : Glb P w K mg aL aP)
    (G1 : FnOk P w K mg base CX0 3 f1 d1 ["box", "as_part"] spRowText) (b1 : Binds K d1 ["box", "as_part"] []) (m1 : mg "row_text" = some (.ref f1)) (k1 : PySem.W.keepIn K (.ref f1) = true)
    (G2 : FnOk P w K mg base CX0 2 f2 d2 ["elder", "place"] spPartTold) (b2 : Binds K d2 ["elder", "place"] []) (m2 : mg "part_told" = some (.ref f2)) (k2 : PySem.W.keepIn K (.ref f2) = true)
    (G3 : FnOk P w K mg base CX0 1 f3 d3 ["box"] (spAt 4)) (b3 : Binds K d3 ["box"] []) (m3 : mg "parts_of" = some (.ref f3)) (k3 : PySem.W.keepIn K (.ref f3) = true)
    (bF : Binds K fd ["box", "depth", "as_part"] []) (mF : mg "text_rows" = some (.ref f)) (kF : PySem.W.keepIn K (.ref f) = true) : ∀ m : Nat, FnOk P w K mg base CX0 (m + 4) f fd ["box", "depth", "as_part"] (spTextRows m) := by
  obtain ⟨tI, mI⟩ := G.mI
  intro m
  induction m with
  | zero =>
    refine F.ok scTextRows (fun vs H Q E h => ?_) (fun cdv A outer s H vs Q E hr h => ?_)
    · obtain ⟨a, p, d, cs, n, eh, i, e, _⟩ := h
      rw [e]
      rfl
    · obtain ⟨a, p, d, cs, n, eh, i, e, _, _, hh, _⟩ := h
      exact absurd hh (Nat.not_lt_zero _)
  | succ m ih =>
    refine F.ok scTextRows (fun vs H Q E h => ?_) (fun cdv A outer s H vs Q E hr h => ?_)
    · obtain ⟨a, p, d, cs, n, eh, i, e, _⟩ := h
      rw [e]
      rfl
    · obtain ⟨a, p, d, cs, n, eh, i, e, ⟨hbox, okc, _⟩, ⟨⟨g1, g2, g3, g4⟩, gc, _⟩, hh, hc, hn, hge, hp, k⟩ := h
      subst e
      have hr3 := hr.mono (j := 3) (by omega)
      have hr2 := hr.mono (j := 2) (by omega)
      have hr1 := hr.mono (j := 1) (by omega)
      refine ⟨_, pss_cons (ps_set (i := 3) scTextRows.nd rfl (Or.inl rfl) (pe_lst (pa_cons (pe_op op_add_str (pe_op op_mulD (pe_glob (v := .str "  ") (by rfl) mI ⟨tI, rfl⟩) (pv 1)) (pe_call G1 hr3 (by rfl) m1 k1 b1 .nil pass0 (pa_cons (pv 0) (pa_cons (pv 2) pa_nil)))) pa_nil)))
        (pss_cons (ps_for PassesOwn.never rfl (pi_enT (by rfl) N.enum (pa_cons (pe_call G3 hr1 (by rfl) m3 k3 b3 .nil pass0 (pa_cons (pv 0) pa_nil)) pa_nil)) (pg_tup rfl (pgs_cons (pg_name (i := 4) scTextRows.nd rfl (Or.inl rfl)) (pgs_cons (pg_name (i := 5) scTextRows.nd rfl (Or.inl rfl)) pgs_nil)))
          (pss_one (ps_expr (pe_bm PySem.F.plainAttrs_list PySem.F.slot_list_extend PySem.F.type_list_extend mt_extend (pv 3) (pa_cons (pe_call ih hr (by rfl) mF kF bF .nil pass0 (pa_cons (pv 5) (pa_cons (pe_op op_add (pv 1) pe_int) (pa_cons (pe_call G2 hr2 (by rfl) m2 k2 b2 .nil pass0 (pa_cons (pv 0) (pa_cons (pv 4) pa_nil))) pa_nil)))) pa_nil)))))
        (pss_one (ps_ret (pv 3)))), ?_⟩
      obtain ⟨ao, q, ap, ha, hao, hw, hap⟩ := id hbox
      refine seq_abs fun N1 hN1 => ?_
      refine ⟨_, rfl, "  ", n, rfl, rfl, by omega, by rw [len_two]; decide, by rw [len_two]; decide, _, rfl, _, rfl, a, p, d, cs.tops, eh, i, rfl, hbox, g1, g2, g3, hge, hp, fun H1 s1 => ?_⟩
      have rl := rowL_LB (i := i) g1 g2 g3 hge
      have rg := glue_len " " (rowL d eh i) rl.1
      have e1 : (" " : Str).length = 1 := by decide +kernel
      rw [e1] at rg
      have rg2 : (rowL d eh i).length * 81 ≤ 18 * 81 := Nat.mul_le_mul_right _ rl.2
      refine ⟨_, _, rfl, rfl, smallE (by rw [repS_len, len_two]; omega), (by show 1 ≤ sizeLine; decide), fun l hl => hN1 _ _ ?_⟩
      clear hN1 N1
      have hl0 : H l = none := s1.free hl
      have s2 : Same H (upd H1 l (.lst [.str (repS "  " n ++ Txt.join " " (rowL d eh i))])) := Same.put s1 hl0
      have h2 : (upd H1 l (.lst [.str (repS "  " n ++ Txt.join " " (rowL d eh i))])) l = some (.lst ((rowS d n eh i :: fRows .nil (n + 1) d.wh 0).map V.str)) := upd_same
      generalize upd H1 l (.lst [.str (repS "  " n ++ Txt.join " " (rowL d eh i))]) = H2 at *
      refine seq_abs fun N2 hN2 => ?_
      refine ⟨_, rfl, a, _, _, rfl, s2 _ _ ha, rfl, ap, rfl, ⟨_, SqT.of (s2 _ _ hap)⟩, ?_⟩
      refine for_en (Sq := fun H xs => SqT K H ap xs) (k := 0) (xs := cs.tops.map V.ref) (fun j σ H9 => ∃ (F1 F2 : Fo) (u4 u5 : Option V), σ = [some (.ref a), some (.int (n : Int)), some (.ref p), some (.ref l), u4, u5] ∧ cs = F1.app F2 ∧ F1.tops.length = j ∧ Same H H9 ∧ H9 l = some (.lst ((rowS d n eh i :: fRows F1 (n + 1) d.wh 0).map V.str)))
        ⟨.nil, cs, none, none, rfl, rfl, rfl, s2, h2⟩ (fun j σ H9 _ ⟨_, _, _, _, _, _, _, z, _⟩ => SqT.of (z _ _ hap)) ?_ ?_
      · rintro j x t σ H9 hx ht ⟨F1, F2, u4, u5, rfl, ecs, hj, S9, h9⟩
        rw [List.getElem?_map, ecs, Fo.tops_app, List.getElem?_append_right (by omega), hj, Nat.sub_self] at hx
        cases F2 with
        | nil => cases hx
        | cons c dc cc as =>
          have ex : V.ref c = x := Option.some.inj hx
          subst ex
          have ht9 : (upd H9 t (.tup [.int (0 + (j : Int)), .ref c])) t = some (.tup [.int (0 + (j : Int)), .ref c]) := upd_same
          have s10 : Same H9 (upd H9 t (.tup [.int (0 + (j : Int)), .ref c])) := Same.put (Same.refl _) ht
          have h10 := s10 _ _ h9
          have S10 := S9.trans s10
          generalize upd H9 t (.tup [.int (0 + (j : Int)), .ref c]) = H10 at *
          have okc' := okc.keep (KT.same S10)
          have gc' := gc
          have hc' := hc
          have hh' := hh
          rw [ecs] at okc' gc' hc' hh'
          rw [Fo.ok_app] at okc'
          rw [Fo.good_app] at gc'
          rw [Fo.cnt_app] at hc'
          rw [Fo.hgt_app] at hh'
          obtain ⟨-, bc, occ, -⟩ := okc'
          obtain ⟨-, gd, gcc, -⟩ := gc'
          have hcc : F1.cnt + (cc.cnt + as.cnt + 1) ≤ 100 := hc'
          have hhc : max F1.hgt (max (cc.hgt + 1) as.hgt) < m + 1 := hh'
          have hjt : j < cs.tops.length := by
            rw [ecs, Fo.tops_app, List.length_append, hj]
            show j < j + (as.tops.length + 1)
            omega
          refine ⟨t, _, rfl, SqT.of ht9, rfl, _, _, rfl, _, _, rfl, rfl, ?_⟩
          refine ⟨_, rfl, .inl ⟨rfl, _, SqL.of h10⟩, _, rfl, _, rfl, _, _, rfl, rfl, _, rfl, _, rfl, ?_⟩
          refine ⟨a, d, cs.tops, j, by rw [show (0 : Int) + (j : Int) = (j : Int) from Int.zero_add _]; rfl, hbox.keep (KT.same S10), g1, g4, hjt, fun pp H11 hpp s11 h11 => ?_⟩
          have S11 := S10.trans s11
          refine ⟨c, pp, dc, cc, n + 1, d.wh, j, rfl, ⟨bc.keep (KT.same s11), occ.keep (KT.same s11), trivial⟩, ⟨gd, gcc, trivial⟩, by omega, by omega, by omega, g1, h11, fun lr H12 hlr s12 h12 => ?_⟩
          have n1 : l ≠ lr := fun z => by rw [← z, s11 _ _ h10] at hlr; cases hlr
          have hl1 := fRows_len 0 noEh F1 (n + 1) d.wh 0
          have hl2 := fRows_len 0 noEh cc (n + 1 + 1) dc.wh 0
          refine ⟨l, lr, _, _, rfl, rfl, (s11.trans s12) _ _ h10, h12, smallE (by rw [List.length_map, List.length_map, List.length_cons, List.length_cons]; omega), ?_⟩
          refine ⟨F1.app (.cons c dc cc .nil), as, _, _, rfl, by rw [ecs, Fo.app_app]; rfl, by rw [Fo.tops_app, List.length_append, hj]; rfl, Same.put (S11.trans s12) hl0, ?_⟩
          rw [upd_same, fRows_app, ← List.map_append]
          rw [hj, Nat.zero_add]
          show some (HO.lst (((rowS d n eh i :: fRows F1 (n + 1) d.wh 0) ++ (rowS dc (n + 1) d.wh j :: fRows cc (n + 1 + 1) dc.wh 0)).map V.str)) = some (HO.lst ((rowS d n eh i :: (fRows F1 (n + 1) d.wh 0 ++ (rowS dc (n + 1) d.wh j :: (fRows cc (n + 1 + 1) dc.wh 0 ++ [])))).map V.str))
          rw [List.append_nil]
          rfl
      · rintro σ H9 ⟨F1, F2, u4, u5, rfl, ecs, hj, S9, h9⟩
        refine hN2 _ _ ?_
        have e2 : F2 = .nil := by
          have e := congrArg (fun F => F.tops.length) ecs
          have e' : cs.tops.length = (F1.app F2).tops.length := e
          rw [Fo.tops_app, List.length_append, hj, List.length_map] at e'
          cases F2 with
          | nil => rfl
          | cons c dc cc as =>
            have : (Fo.cons c dc cc as).tops.length = as.tops.length + 1 := rfl
            omega
        subst e2
        rw [Fo.app_nil] at ecs
        subst ecs
        exact ⟨_, rfl, k l H9 hl0 S9 h9⟩
theorem scTreeText : FnScope ["tree"] ["tree"] (defScope sTreeText) := ⟨rfl, rfl, rfl, by decide +kernel, rfl, by decide +kernel, by decide +kernel⟩
set_option maxHeartbeats 4000000 in
theorem ok_treeText {f f1 : Addr} {fd d1 : FuncData} (F : Fun K "tree_text" "tree_text" sTreeText f fd)
    (G1 : FnOk P w K mg base CX0 16 f1 d1 ["box", "depth", "as_part"] (spTextRows 12)) (b1 : Binds K d1 ["box", "depth", "as_part"] []) (m1 : mg "text_rows" = some (.ref f1)) (k1 : PySem.W.keepIn K (.ref f1) = true) : FnOk P w K mg base CX0 17 f fd ["tree"] spTreeText := by
  refine F.ok scTreeText (fun vs H Q E h => ?_) (fun cdv A outer s H vs Q E hr h => ?_)
  · obtain ⟨a, d, cs, e, _⟩ := h
    rw [e]
    rfl
  · obtain ⟨a, d, cs, e, hok, hg, hh, hc, k⟩ := h
    subst e
    refine ⟨_, pss_one (ps_ret (pe_bm PySem.F.plainAttrs_str PySem.F.slot_str_join PySem.F.type_str_join mt_join pe_str (pa_cons (pe_call G1 hr (by rfl) m1 k1 b1 .nil pass0 (pa_cons (pv 0) (pa_cons pe_int (pa_cons pe_dnewK pa_nil)))) pa_nil))), ?_⟩
    refine ⟨rfl, _, rfl, fun p hp => ?_⟩
    have s1 : Same H (upd H p (.dK [])) := Same.put (Same.refl _) hp
    have h1 : (upd H p (.dK [])) p = some (.dK ((partP noEh 0).map kS)) := upd_same
    generalize upd H p (.dK []) = H1 at *
    refine ⟨a, p, d, cs, 0, noEh, 0, rfl, hok.keep (KT.same s1), hg, hh, by omega, by decide, noEh_good, h1, fun l H2 hl s2 h2 => ?_⟩
    refine ⟨"\n", l, _, rfl, rfl, SqL.of h2, ?_, k H2 (s1.trans s2)⟩
    have e : ("\n" : Str).length = 1 := by decide +kernel
    obtain ⟨⟨g1, g2, g3, _⟩, gc, _⟩ := hg
    have hb : LB 2000 (rowS d 0 noEh 0 :: fRows cs (0 + 1) d.wh 0) := LB.app (a := [rowS d 0 noEh 0]) (LB.one (rowS_len (by decide) g1 g2 g3 noEh_good)) (fRows_LB cs 1 d.wh 0 gc g1 (by omega))
    have h3 := sum_le _ hb
    have h4 := fRows_len 0 noEh cs (0 + 1) d.wh 0
    rw [List.length_cons, h4] at h3
    rw [e, List.length_cons, h4]
    have : (cs.cnt + 1) * 2000 ≤ 21 * 2000 := Nat.mul_le_mul_right _ (by omega)
    omega
end
end B08
namespace B08
open PySem L2 S2 DW
theorem same_none {H H' : Hp} {b : Addr} (s : Same H H') (h : H' b = none) : H b = none := by
  cases e : H b with
  | none => rfl
  | some o => rw [s b o e] at h; cases h
section
variable {X : Cx}
def CDivL (_ j : Int) : Prop := 0 < j ∧ j.natAbs.log2 < 9000
theorem op_fdivL : OpR X (binaryOp .FloorDiv) (rI CDivL fun i j => .int (i / j)) := opI fun i j _ _ _ _ _ hc q => by
  have h1 : (0 : Int) < j := hc.1
  exact PyProof.Rows.floordiv_int (by omega) (by rw [Int.fdiv_eq_ediv_of_nonneg i (by omega)]; exact q) (.inl (PyProof.noPylong_of_log2 hc.2))
end
def Kp (st : Addr) (H H' : Hp) : Prop := ∀ b o, b ≠ st → H b = some o → H' b = some o
theorem Kp.refl {st : Addr} (H : Hp) : Kp st H H := fun _ _ _ h => h
theorem Kp.trans {st : Addr} {H H1 H2 : Hp} (a : Kp st H H1) (b : Kp st H1 H2) : Kp st H H2 := fun c o n h => b c o n (a c o n h)
theorem Kp.store {st : Addr} {H : Hp} {o : HO} : Kp st H (upd H st o) := fun b o' n h => by rw [upd_ne n]; exact h
theorem Kp.put {st D : Addr} {H H' : Hp} {o : HO} (k : Kp st H H') (h : H D = none) : Kp st H (upd H' D o) := fun b o' n hb => by
  rw [upd_ne (fun z => by rw [z, h] at hb; cases hb)]
  exact k b o' n hb
theorem Kp.gone {st D : Addr} {H H' : Hp} (k : Kp st H H') (n : D ≠ st) (h : H' D = none) : H D = none := by
  cases e : H D with
  | none => rfl
  | some o => rw [k D o n e] at h; cases h
theorem int_at {us : List Int} {i : Nat} {x : V} (h : (us.map V.int)[i]? = some x) : ∃ c, us[i]? = some c ∧ x = .int c := by
  rw [List.getElem?_map] at h
  cases e : us[i]? with
  | none => rw [e] at h; cases h
  | some c => rw [e] at h; cases h; exact ⟨c, rfl, rfl⟩
theorem cut_ints (ns : List Int) (lo hi : Option Int) : ∃ us : List Int, cutV (ns.map V.int) lo hi = us.map V.int ∧ us.length ≤ ns.length := by
  refine ⟨(ns.drop (HT.sIx (ns.map V.int).length 0 lo)).take (HT.sIx (ns.map V.int).length (ns.map V.int).length hi - HT.sIx (ns.map V.int).length 0 lo), ?_, ?_⟩
  · unfold cutV
    rw [List.map_take, List.map_drop]
  · rw [List.length_take, List.length_drop]
    omega
theorem iat {ns : List Int} {j : Nat} (h : j < ns.length) : atI (ns.map V.int) ((j : Nat) : Int) = some (.int (ns.getD j 0)) := atI_nat (by rw [List.getElem?_map, List.getD_eq_getElem?_getD, List.getElem?_eq_getElem h]; rfl)
def spStream (K : PySem.W.Frag) : Sp := fun vs H Q _ => ∃ (a : Addr) (ns : List Int), vs = [.ref a] ∧ SqL K H a (ns.map V.int) ∧ ns.length ≤ 63 ∧ ∀ (l : Addr) (d z : Int) (H' : Hp), H l = none → Same H H' → H' l = some (.lst [.int d, .int z]) → Q (.ref l) H'
def spTake : Sp := fun vs H Q _ => ∃ (st : Addr) (d z m : Int), vs = [.ref st, .int m] ∧ H st = some (.lst [.int d, .int z]) ∧ 0 < m ∧ m < 1073741824 ∧ ∀ v d' z' : Int, 0 ≤ v → v < m → Q (.int v) (upd H st (.lst [.int d', .int z']))
section
variable {P : Program} {w : World} {K : PySem.W.Frag} {mg : Str → Option Value} {base : Heap}
theorem scStream : FnScope ["_law_script", "_law_seed", "_law_cell", "_law_digits"] ["_law_script"] (defScope sStream) := ⟨rfl, rfl, rfl, by decide +kernel, rfl, by decide +kernel, by decide +kernel⟩
theorem ok_stream {f : Addr} {fd : FuncData} (F : Fun K "_law_stream" "_law_stream" sStream f fd) (N : Names mg) : FnOk P w K mg base CX0 1 f fd ["_law_script"] (spStream K) := by
  refine F.ok scStream (fun vs H Q E h => ?_) (fun cdv A outer s H vs Q E hr h => ?_)
  · obtain ⟨a, ns, e, _⟩ := h
    rw [e]
    rfl
  · obtain ⟨a, ns, e, hS, hn, k⟩ := h
    subst e
    refine ⟨_, pss_cons (ps_set (i := 1) scStream.nd rfl (Or.inl rfl) pe_int)
      (pss_cons (ps_for PassesOwn.never rfl (pi_list (pe_slice sl_list (pv 0) po_none (po_some pe_int))) (pg_name (i := 2) scStream.nd rfl (Or.inl rfl))
        (pss_one (ps_set (i := 1) scStream.nd rfl (Or.inl rfl) (pe_op op_mod (pe_op op_add (pe_op op_mul (pv 1) pe_int) (pv 2)) pe_int))))
      (pss_cons (ps_set (i := 3) scStream.nd rfl (Or.inl rfl) pe_int)
      (pss_cons (ps_if (pw_and (pt_cmpR op_gt (pe_callB call_len_seq (by rfl) N.len PySem.boot_len (pa_cons (pv 0) pa_nil)) pe_int (nomark _)) (pw_and1 (pt_cmpR op_eq (pe_op op_mod (pe_ix ix_list (pv 0) pe_int (fun _ _ => rfl)) pe_int) pe_int (nomark _)))).pt
        (pss_one (ps_set (i := 3) scStream.nd rfl (Or.inl rfl) (pe_callB call_abs (by rfl) N.abs PyProof.Rows.boot_abs (pa_cons (pe_ix ix_list (pv 0) pe_int (fun _ _ => rfl)) pa_nil)))) pss_nil)
      (pss_one (ps_ret (pe_lst (pa_cons (pv 3) (pa_cons (pv 1) pa_nil)))))))), ?_⟩
    refine ⟨_, rfl, _, rfl, a, _, rfl, hS, fun lc hlc => ?_⟩
    obtain ⟨us, ec, lu⟩ := cut_ints ns none (some 63)
    rw [ec]
    have s1 : Same H (upd H lc (.lst (us.map V.int))) := Same.put (Same.refl _) hlc
    have h1 : (upd H lc (.lst (us.map V.int))) lc = some (.lst (us.map V.int)) := upd_same
    generalize upd H lc (.lst (us.map V.int)) = H1 at *
    have hS1 := s1.seq hS
    refine ⟨lc, rfl, ⟨_, SqL.of h1⟩, for_list (K := K) (a := lc) (xs := us.map V.int) (fun i σ H9 => (∃ (z : Int) (u2 : Option V), σ = [some (.ref a), some (.int z), u2, none]) ∧ H9 = H1) ⟨⟨_, none, rfl⟩, rfl⟩ (fun i σ H9 _ h9 => by rw [h9.2]; exact SqL.of h1) ?_ ?_⟩
    · rintro i x σ H9 hx ⟨⟨z, u2, rfl⟩, rfl⟩
      obtain ⟨c, _, rfl⟩ := int_at hx
      exact ⟨_, rfl, _, _, rfl, rfl, .inr ⟨by decide, by decide⟩, _, rfl, _, _, rfl, rfl, _, _, rfl, rfl, (by show (0 : Int) < 2305843009213693951; decide), ⟨_, _, rfl⟩, rfl⟩
    · rintro σ H9 ⟨⟨z, u2, rfl⟩, rfl⟩
      have fin : ∀ (d : Int) (l : Addr), H9 l = none → Q (.ref l) (upd H9 l (.lst [.int d, .int z])) := fun d l hl => k l d z _ (same_none s1 hl) (Same.put s1 (same_none s1 hl)) upd_same
      refine ⟨_, rfl, a, _, rfl, .inl hS1, _, _, rfl, rfl, _, rfl, ite2 (fun c => ?_) (fun _ => iteF ?_)⟩
      · have hl : 1 < ns.length := by
          have z := of_decide_eq_true c
          rw [List.length_map] at z
          omega
        refine ⟨_, rfl, a, _, _, _, rfl, rfl, hS1, iat (j := 0) (by omega), _, _, rfl, rfl, (by show (0 : Int) < 2; decide), rfl, _, rfl, ite2 (fun _ => ?_) (fun _ => ?_)⟩
        · refine ⟨_, rfl, a, _, _, _, rfl, rfl, hS1, iat (j := 1) hl, _, rfl, ?_⟩
          exact ⟨_, rfl, _, rfl, (by show 2 ≤ sizeLine; decide), fun l hl => fin _ l hl⟩
        · exact ⟨_, rfl, _, rfl, (by show 2 ≤ sizeLine; decide), fun l hl => fin _ l hl⟩
      · exact ⟨_, rfl, _, rfl, (by show 2 ≤ sizeLine; decide), fun l hl => fin _ l hl⟩
theorem scTake : FnScope ["_law_stream_here", "_law_many", "_law_digit"] ["_law_stream_here", "_law_many"] (defScope sTake) := ⟨rfl, rfl, rfl, by decide +kernel, rfl, by decide +kernel, by decide +kernel⟩
theorem ok_take {f : Addr} {fd : FuncData} (F : Fun K "_law_take" "_law_take" sTake f fd) : FnOk P w K mg base CX0 1 f fd ["_law_stream_here", "_law_many"] spTake := by
  refine F.ok scTake (fun vs H Q E h => ?_) (fun cdv A outer s H vs Q E hr h => ?_)
  · obtain ⟨a, d, z, m, e, _⟩ := h
    rw [e]
    rfl
  · obtain ⟨st, d, z, m, e, hst, hm, hm2, k⟩ := h
    subst e
    refine ⟨_, pss_cons (ps_if (pt_cmpR op_gt (pe_ix ix_list (pv 0) pe_int (fun _ _ => rfl)) pe_int (nomark _))
        (pss_cons (ps_set (i := 2) scTake.nd rfl (Or.inl rfl) (pe_op op_mod (pe_ix ix_list (pv 0) pe_int (fun _ _ => rfl)) (pv 1)))
        (pss_cons (ps_asg (pe_op op_fdiv (pe_ix ix_list (pv 0) pe_int (fun _ _ => rfl)) (pv 1)) (pg_sub (pv 0) pe_int set_list))
        (pss_one (ps_ret (pv 2))))) pss_nil)
      (pss_cons (ps_asg (pe_op op_mod (pe_op op_add (pe_op op_mul (pe_ix ix_list (pv 0) pe_int (fun _ _ => rfl)) pe_int) pe_int) pe_int) (pg_sub (pv 0) pe_int set_list))
      (pss_one (ps_ret (pe_op op_mod (pe_op op_add (pe_op op_mod (pe_op op_mul (pe_ix ix_list (pv 0) pe_int (fun _ _ => rfl)) pe_int) pe_int) (pe_op op_fdivL (pe_ix ix_list (pv 0) pe_int (fun _ _ => rfl)) pe_int)) (pv 1))))), ?_⟩
    have a0 : ∀ x y : V, atI [x, y] 0 = some x := fun x y => rfl
    have a1 : ∀ x y : V, atI [x, y] 1 = some y := fun x y => rfl
    refine ⟨_, rfl, st, _, _, _, rfl, rfl, SqL.of hst, a0 _ _, _, _, rfl, rfl, _, rfl, ite2 (fun c => ?_) (fun c => ?_)⟩
    · refine ⟨_, rfl, st, _, _, _, rfl, rfl, SqL.of hst, a0 _ _, _, rfl, _, _, rfl, rfl, hm, ?_⟩
      refine ⟨_, rfl, st, _, _, _, rfl, rfl, SqL.of hst, a0 _ _, _, rfl, _, _, rfl, rfl, ⟨hm, hm2⟩, _, rfl, st, _, _, 0, rfl, rfl, hst, rfl, ?_⟩
      exact ⟨_, rfl, k _ _ _ (Int.emod_nonneg _ (by omega)) (Int.emod_lt_of_pos _ hm)⟩
    · refine ⟨_, rfl, st, _, _, _, rfl, rfl, SqL.of hst, a1 _ _, _, _, rfl, rfl, .inr ⟨by decide, by decide⟩, _, _, rfl, rfl, _, _, rfl, rfl, (by show (0 : Int) < 2305843009213693951; decide), _, rfl, st, _, _, 1, rfl, rfl, hst, rfl, ?_⟩
      have h2 : (upd H st (.lst ([V.int d, V.int z].set 1 (V.int ((z * 48271 + 1013904223) % 2305843009213693951))))) st = some (.lst [V.int d, V.int ((z * 48271 + 1013904223) % 2305843009213693951)]) := upd_same
      refine ⟨_, rfl, st, _, _, _, rfl, rfl, SqL.of h2, a1 _ _, _, _, rfl, rfl, .inr ⟨by decide, by decide⟩, _, _, rfl, rfl, (by show (0 : Int) < 2147483629; decide), _, rfl, st, _, _, _, rfl, rfl, SqL.of h2, a1 _ _, _, _, rfl, rfl, ⟨by decide, by decide +kernel⟩, _, _, rfl, rfl, _, rfl, _, _, rfl, rfl, hm, ?_⟩
      exact k _ _ _ (Int.emod_nonneg _ (by omega)) (Int.emod_lt_of_pos _ hm)
end
abbrev alpha : Str := "abcdefghijklmnopqrstuvwxyz"
theorem alpha_at {i : Int} (h0 : 0 ≤ i) (h1 : i < 26) : atI alpha.cps.toList i = some (97 + i.toNat) := by
  obtain ⟨k, rfl, hk⟩ := nat_of (z := i) (n := 26) h0 h1
  have := (by decide +kernel : ∀ k : Fin 26, alpha.cps.toList[k.val]? = some (97 + k.val)) ⟨k, hk⟩
  exact atI_nat this
theorem alpha_len : alpha.length = 26 := by decide +kernel
theorem len_le {α : Type} [BEq α] [LawfulBEq α] : ∀ {l1 l2 : List α}, l1.Nodup → (∀ x ∈ l1, x ∈ l2) → l1.length ≤ l2.length
  | [], _, _, _ => Nat.zero_le _
  | a :: l1, l2, nd, h => by
    rw [List.nodup_cons] at nd
    have ha := h a List.mem_cons_self
    have := len_le (l1 := l1) (l2 := l2.erase a) nd.2 fun x hx => (List.mem_erase_of_ne (fun e => nd.1 (by rw [← e]; exact hx))).mpr (h x (List.mem_cons_of_mem _ hx))
    rw [List.length_erase_of_mem ha] at this
    have : 0 < l2.length := List.length_pos_of_mem ha
    rw [List.length_cons]
    omega
def Tried (k : Nat) (ts : List Str) : Prop := ∀ (j : Nat) (x : Str), ts[j]? = some x → ∃ r : Str, x = ⟨#[97 + (k + 7 * j) % 26]⟩ ++ r
theorem first_ne {a b : Nat} {r r' : Str} (e : (⟨#[a]⟩ : Str) ++ r = ⟨#[b]⟩ ++ r') : a = b := by
  have q : [a] ++ r.cps.toList = [b] ++ r'.cps.toList := by
    have := congrArg (fun s : Str => s.cps.toList) e
    have z : ∀ (a : Nat) (r : Str), ((⟨#[a]⟩ : Str) ++ r).cps.toList = [a] ++ r.cps.toList := fun a r => by
      show (#[a] ++ r.cps).toList = _
      rw [Array.toList_append]
    rw [← z, ← z]
    exact this
  injection q
theorem tried_nd {k : Nat} {ts : List Str} (h : Tried k ts) (hl : ts.length ≤ 26) : ts.Nodup := by
  refine List.pairwise_iff_getElem.mpr fun i j hi hj hij e => ?_
  obtain ⟨r, e1⟩ := h i _ (List.getElem?_eq_getElem hi)
  obtain ⟨r', e2⟩ := h j _ (List.getElem?_eq_getElem hj)
  rw [e1, e2] at e
  have := first_ne e
  omega
theorem Tried.snoc {k : Nat} {ts : List Str} (h : Tried k ts) {x r : Str} (e : x = ⟨#[97 + (k + 7 * ts.length) % 26]⟩ ++ r) : Tried k (ts ++ [x]) := fun j y hy => by
  by_cases hj : j < ts.length
  · rw [List.getElem?_append_left hj] at hy
    exact h j y hy
  · rw [List.getElem?_append_right (by omega)] at hy
    have z : j - ts.length = 0 := by
      have := get_lt hy
      simp at this
      omega
    rw [z] at hy
    cases hy
    have : j = ts.length := by omega
    rw [this]
    exact ⟨r, e⟩
theorem one_ne (a : Nat) (r : Str) : (⟨#[a]⟩ : Str) ++ r ≠ "" := fun e => by
  have := congrArg (fun s : Str => s.cps.toList.length) e
  have z : ((⟨#[a]⟩ : Str) ++ r).cps.toList.length = 1 + r.cps.toList.length := by
    show (#[a] ++ r.cps).toList.length = _
    rw [Array.toList_append, List.length_append]
    rfl
  have z2 : ("" : Str).cps.toList.length = 0 := by decide +kernel
  rw [z, z2] at this
  omega
theorem str_app (x y z : Str) : (x ++ y) ++ z = x ++ (y ++ z) := by
  show (⟨(x.cps ++ y.cps) ++ z.cps⟩ : Str) = ⟨x.cps ++ (y.cps ++ z.cps)⟩
  rw [Array.append_assoc]
theorem inV_str {x : Str} {xs : List Str} : inV (.str x) (xs.map V.str) = decide (x ∈ xs) := by
  unfold inV
  rw [List.any_map]
  by_cases h : x ∈ xs
  · rw [decide_eq_true h, List.any_eq_true]
    exact ⟨x, h, by simp [eqV]⟩
  · rw [decide_eq_false h, List.any_eq_false]
    intro y hy
    simp only [Function.comp, eqV, beq_iff_eq]
    intro e
    exact h (by rw [← e]; exact hy)
theorem flat_strs (ss : List Str) : (ss.map V.str).all flatV = true := by
  rw [List.all_map]
  exact List.all_eq_true.mpr fun _ _ => rfl
def spLNames : Sp := fun vs H Q _ => ∃ (st : Addr) (d z : Int) (m : Nat), vs = [.ref st, .int m] ∧ H st = some (.lst [.int d, .int z]) ∧ m ≤ 20 ∧ ∀ (l : Addr) (nms : List Str) (d' z' : Int) (H' : Hp), H l = none → Kp st H H' → H' st = some (.lst [.int d', .int z']) → H' l = some (.lst (nms.map V.str)) → nms.length = m → (∀ x ∈ nms, x.length ≤ 60) → Q (.ref l) H'
section
variable {P : Program} {w : World} {K : PySem.W.Frag} {mg : Str → Option Value} {base : Heap}
theorem scLNames : FnScope ["_law_stream_here", "_law_many", "_law_letters", "_law_names_here", "_law_k", "_law_name", "_law_j", "_law_turn", "_law_other"] ["_law_stream_here", "_law_many"] (defScope sLNames) := ⟨rfl, rfl, rfl, by decide +kernel, rfl, by decide +kernel, by decide +kernel⟩
set_option maxHeartbeats 8000000 in
theorem ok_lnames {f f1 : Addr} {fd d1 : FuncData} (F : Fun K "_law_names" "_law_names" sLNames f fd) (N : Names mg)
    (G1 : FnOk P w K mg base CX0 1 f1 d1 ["_law_stream_here", "_law_many"] spTake) (b1 : Binds K d1 ["_law_stream_here", "_law_many"] []) (m1 : mg "_law_take" = some (.ref f1)) (k1 : PySem.W.keepIn K (.ref f1) = true) :
    FnOk P w K mg base CX0 2 f fd ["_law_stream_here", "_law_many"] spLNames := by
  refine F.ok scLNames (fun vs H Q E h => ?_) (fun cdv A outer s H vs Q E hr h => ?_)
  · obtain ⟨st, d, z, m, e, _⟩ := h
    rw [e]
    rfl
  · obtain ⟨st, d, z, m, e, hst, hm, k⟩ := h
    subst e
    refine ⟨_, pss_cons (ps_set (i := 2) scLNames.nd rfl (Or.inl rfl) pe_str)
      (pss_cons (ps_set (i := 3) scLNames.nd rfl (Or.inl rfl) (pe_lst pa_nil))
      (pss_cons (ps_for PassesOwn.never rfl (pi_range1 rfl N.range (pa_cons (pv 1) pa_nil)) (pg_name (i := 4) scLNames.nd rfl (Or.inl rfl))
        (pss_cons (ps_set (i := 5) scLNames.nd rfl (Or.inl rfl) pe_str)
        (pss_cons (ps_for PassesOwn.never rfl (pi_range1 rfl N.range (pa_cons (pe_call G1 hr (by rfl) m1 k1 b1 .nil pass0 (pa_cons (pv 0) (pa_cons pe_int pa_nil))) pa_nil)) (pg_name (i := 6) scLNames.nd rfl (Or.inl rfl))
          (pss_one (ps_set (i := 5) scLNames.nd rfl (Or.inl rfl) (pe_op op_add_str (pv 5) (pe_ix ix_str (pv 2) (pe_call G1 hr (by rfl) m1 k1 b1 .nil pass0 (pa_cons (pv 0) (pa_cons pe_int pa_nil))) (fun _ _ => rfl))))))
        (pss_cons (ps_set (i := 7) scLNames.nd rfl (Or.inl rfl) (pv 4))
        (pss_cons (ps_while PassesOwn.never (pw_or (pt_cmpR (r := rIn K false) op_in_seq (pv 5) (pv 3) (by rfl)) (pw_or1 (pt_cmpR op_eq (pv 5) pe_str (nomark _)))).pt
          (pss_cons (ps_set (i := 8) scLNames.nd rfl (Or.inl rfl) (pe_ix ix_str (pv 2) (pe_op op_mod (pe_op op_add (pe_op op_fdiv (pv 7) pe_int) (pe_callB call_len_str (by rfl) N.len PySem.boot_len (pa_cons (pv 5) pa_nil))) pe_int) (fun _ _ => rfl)))
          (pss_cons (ps_set (i := 5) scLNames.nd rfl (Or.inl rfl) (pe_op op_add_str (pe_op op_add_str (pe_ix ix_str (pv 2) (pe_op op_mod (pv 7) pe_int) (fun _ _ => rfl)) (pv 8)) (pe_slice sl_str (pv 5) po_none (po_some pe_int))))
          (pss_one (ps_set (i := 7) scLNames.nd rfl (Or.inl rfl) (pe_op op_add (pv 7) pe_int))))))
        (pss_one (ps_expr (pe_bm PySem.F.plainAttrs_list PySem.F.slot_list_append PySem.F.type_list_append mt_append (pv 3) (pa_cons (pv 5) pa_nil)))))))))
      (pss_one (ps_ret (pv 3))))), ?_⟩
    refine ⟨smallE (by simp), fun l hl => ?_⟩
    have nst : l ≠ st := Ne.symm (ne_of_none hst hl)
    refine ⟨_, rfl, (m : Int), rfl, by omega, by omega, ?_⟩
    have en : ((m : Int)).toNat = m := by omega
    rw [en]
    refine for_range (n := m) (fun i σ H2 => ∃ (u4 u5 u6 u7 u8 : Option V) (nms : List Str) (d2 z2 : Int), σ = [some (.ref st), some (.int m), some (.str alpha), some (.ref l), u4, u5, u6, u7, u8] ∧ Kp st H H2 ∧ H2 st = some (.lst [.int d2, .int z2]) ∧ H2 l = some (.lst (nms.map V.str)) ∧ nms.length = i ∧ ∀ x ∈ nms, x.length ≤ 60) ⟨_, _, _, _, _, [], d, z, rfl, Kp.put (Kp.refl _) hl, by rw [upd_ne (Ne.symm nst)]; exact hst, upd_same, rfl, fun x hx => nomatch hx⟩ ?_ ?_
    · rintro i σ H2 hi ⟨u4, u5, u6, u7, u8, nms, d2, z2, rfl, kp2, hs2, hl2, hlen, hnd⟩
      have ei : (0 : Int) + (i : Int) = (i : Int) := Int.zero_add _
      refine ⟨_, rfl, st, d2, z2, 8, rfl, hs2, by decide, by decide, fun v0 d3 z3 v00 v01 => ?_⟩
      rw [ei]
      have hs3 : (upd H2 st (.lst [.int d3, .int z3])) st = some (.lst [.int d3, .int z3]) := upd_same
      have hl3 : (upd H2 st (.lst [.int d3, .int z3])) l = some (.lst (nms.map V.str)) := by rw [upd_ne nst]; exact hl2
      have kp3 : Kp st H (upd H2 st (.lst [.int d3, .int z3])) := kp2.trans Kp.store
      generalize upd H2 st (.lst [.int d3, .int z3]) = H3 at *
      refine ⟨v0, rfl, by omega, by omega, ?_⟩
      refine for_range (n := v0.toNat) (fun j σ H4 => ∃ (v6 : Option V) (nm : Str) (d4 z4 : Int), σ = [some (.ref st), some (.int m), some (.str alpha), some (.ref l), some (.int i), some (.str nm), v6, u7, u8] ∧ Kp st H H4 ∧ H4 st = some (.lst [.int d4, .int z4]) ∧ H4 l = some (.lst (nms.map V.str)) ∧ nm.length ≤ j) ⟨_, "", d3, z3, rfl, kp3, hs3, hl3, by decide +kernel⟩ ?_ ?_
      · rintro j σ H4 hj ⟨v6, nm, d4, z4, rfl, kp4, hs4, hl4, hnm⟩
        refine ⟨_, rfl, _, rfl, _, rfl, st, d4, z4, 26, rfl, hs4, by decide, by decide, fun v d5 z5 v50 v51 => ?_⟩
        refine ⟨alpha, _, _, rfl, rfl, smallE (by rw [alpha_len]; omega), alpha_at v50 v51, _, _, rfl, rfl, smallE (by show nm.length + 1 ≤ 100000; omega), ?_⟩
        exact ⟨_, _, d5, z5, rfl, kp4.trans Kp.store, upd_same, by rw [upd_ne nst]; exact hl4, by rw [Str.length_append]; show nm.length + 1 ≤ j + 1; omega⟩
      rintro σ H4 ⟨v6, nm, d4, z4, rfl, kp4, hs4, hl4, hnm⟩
      refine ⟨_, rfl, ?_⟩
      refine ⟨fun m' σ H5 => ∃ (nm : Str) (t : Nat) (ts : List Str) (v8 : Option V), H5 = H4 ∧ σ = [some (.ref st), some (.int m), some (.str alpha), some (.ref l), some (.int i), some (.str nm), v6, some (.int ((i + 7 * t : Nat) : Int)), v8] ∧ nm.length ≤ 7 + 2 * t ∧ t ≤ nms.length + 1 ∧ Tried i ts ∧ (∀ x ∈ ts, x ∈ nms) ∧ ((t = 0 ∧ ts = []) ∨ (t = ts.length + 1 ∧ ∃ r, nm = ⟨#[97 + (i + 7 * ts.length) % 26]⟩ ++ r)) ∧ m' = nms.length + 2 - t,
        ⟨nms.length + 2, nm, 0, [], _, rfl, rfl, by omega, by omega, (fun j x e => nomatch e), (fun x e => nomatch e), .inl ⟨rfl, rfl⟩, rfl⟩, ?_⟩
      rintro m' σ H5 ⟨nm, t, ts, v8, rfl, rfl, hnm, ht, htr, hts, hcase, rfl⟩
      -- once more
      have again : (nm ∈ nms ∨ nm = "") → ∃ N : St → Hp → Prop, (∀ σ' H', N σ' H' → ∃ m', m' < nms.length + 2 - t ∧ ∃ (nm : Str) (t : Nat) (ts : List Str) (v8 : Option V), H' = H5 ∧ σ' = [some (.ref st), some (.int m), some (.str alpha), some (.ref l), some (.int i), some (.str nm), v6, some (.int ((i + 7 * t : Nat) : Int)), v8] ∧ nm.length ≤ 7 + 2 * t ∧ t ≤ nms.length + 1 ∧ Tried i ts ∧ (∀ x ∈ ts, x ∈ nms) ∧ ((t = 0 ∧ ts = []) ∨ (t = ts.length + 1 ∧ ∃ r, nm = ⟨#[97 + (i + 7 * ts.length) % 26]⟩ ++ r)) ∧ m' = nms.length + 2 - t) ∧
          ∀ nm2 r : Str, nm2 = ⟨#[97 + (i + 7 * t) % 26]⟩ ++ r → nm2.length ≤ 2 + nm.length → ∀ v8, N [some (.ref st), some (.int m), some (.str alpha), some (.ref l), some (.int i), some (.str nm2), v6, some (.int ((i + 7 * (t + 1) : Nat) : Int)), v8] H5 := fun hin => by
        obtain ⟨ts', h1, h2, h3, h4⟩ : ∃ ts' : List Str, Tried i ts' ∧ (∀ x ∈ ts', x ∈ nms) ∧ ts'.length = t ∧ t ≤ nms.length := by
          rcases hcase with ⟨rfl, rfl⟩ | ⟨et, r, er⟩
          · exact ⟨[], htr, hts, rfl, Nat.zero_le _⟩
          · have hin' : nm ∈ nms := hin.resolve_right fun e => one_ne _ r (by rw [← er]; exact e)
            have hT := htr.snoc er
            have hS : ∀ x ∈ ts ++ [nm], x ∈ nms := fun x hx => by
              rcases List.mem_append.mp hx with q | q
              · exact hts x q
              · rw [List.mem_singleton.mp q]; exact hin'
            have hL : (ts ++ [nm]).length = t := by rw [List.length_append, et]; rfl
            refine ⟨ts ++ [nm], hT, hS, hL, ?_⟩
            rw [← hL]
            exact len_le (tried_nd hT (by rw [hL]; omega)) hS
        refine ⟨fun σ' H' => H' = H5 ∧ ∃ (nm2 r : Str) (v8 : Option V), nm2 = ⟨#[97 + (i + 7 * t) % 26]⟩ ++ r ∧ nm2.length ≤ 2 + nm.length ∧ σ' = [some (.ref st), some (.int m), some (.str alpha), some (.ref l), some (.int i), some (.str nm2), v6, some (.int ((i + 7 * (t + 1) : Nat) : Int)), v8], ?_, fun nm2 r e1 e2 v8 => ⟨rfl, nm2, r, v8, e1, e2, rfl⟩⟩
        rintro σ' H' ⟨rfl, nm2, r, v8, e1, e2, rfl⟩
        exact ⟨nms.length + 2 - (t + 1), by omega, nm2, t + 1, ts', v8, rfl, rfl, by omega, by omega, h1, h2, .inr ⟨by omega, r, by rw [h3]; exact e1⟩, rfl⟩
      refine ⟨_, rfl, _, rfl, l, _, rfl, .inl (SqL.of hl4), rfl, flat_strs nms, _, rfl, ?_⟩
      show if inV (.str nm) (nms.map V.str) = true then _ else _
      rw [inV_str]
      refine ite2 (fun h1 => iteT ?_) (fun h1 => ?_)
      · obtain ⟨N, hN, hgo⟩ := again (.inl (of_decide_eq_true h1))
        refine ⟨N, hN, ?_⟩
        refine ⟨_, rfl, _, rfl, _, _, rfl, rfl, ⟨by decide, by decide⟩, _, rfl, nm, rfl, smallE (by omega), _, _, rfl, rfl, _, _, rfl, rfl, (by show (0 : Int) < 26; decide), alpha, _, _, rfl, rfl, smallE (by rw [alpha_len]; omega), alpha_at (by omega) (by omega), ?_⟩
        refine ⟨_, rfl, _, rfl, _, _, rfl, rfl, (by show (0 : Int) < 26; decide), alpha, _, _, rfl, rfl, smallE (by rw [alpha_len]; omega), alpha_at (by omega) (by omega), _, rfl, _, _, rfl, rfl, smallE (by show 1 + 1 ≤ 100000; omega), _, rfl, _, rfl, nm, rfl, smallE (by omega), fun y hy => ?_⟩
        refine ⟨_, _, rfl, rfl, smallE (by show 2 + y.length ≤ 100000; omega), ?_⟩
        refine ⟨_, rfl, _, _, rfl, rfl, ?_⟩
        have et : ((i + 7 * t : Nat) : Int) + 7 = ((i + 7 * (t + 1) : Nat) : Int) := by omega
        have ea : (((i + 7 * t : Nat) : Int) % 26).toNat = (i + 7 * t) % 26 := by omega
        show N [_, _, _, _, _, _, _, some (V.int (((i + 7 * t : Nat) : Int) + 7)), _] H5
        rw [et]
        refine hgo _ (⟨#[97 + ((((i + 7 * t : Nat) : Int) / 26 + (nm.length : Int)) % 26).toNat]⟩ ++ y) ?_ (by rw [Str.length_append, Str.length_append]; show 1 + 1 + y.length ≤ 2 + nm.length; omega) _
        rw [str_app, ea]
      refine ⟨_, rfl, rfl, _, rfl, ite2 (fun h2 => ?_) (fun h2 => ?_)⟩
      · obtain ⟨N, hN, hgo⟩ := again (.inr (V.str.inj (of_decide_eq_true h2)))
        refine ⟨N, hN, ?_⟩
        refine ⟨_, rfl, _, rfl, _, _, rfl, rfl, ⟨by decide, by decide⟩, _, rfl, nm, rfl, smallE (by omega), _, _, rfl, rfl, _, _, rfl, rfl, (by show (0 : Int) < 26; decide), alpha, _, _, rfl, rfl, smallE (by rw [alpha_len]; omega), alpha_at (by omega) (by omega), ?_⟩
        refine ⟨_, rfl, _, rfl, _, _, rfl, rfl, (by show (0 : Int) < 26; decide), alpha, _, _, rfl, rfl, smallE (by rw [alpha_len]; omega), alpha_at (by omega) (by omega), _, rfl, _, _, rfl, rfl, smallE (by show 1 + 1 ≤ 100000; omega), _, rfl, _, rfl, nm, rfl, smallE (by omega), fun y hy => ?_⟩
        refine ⟨_, _, rfl, rfl, smallE (by show 2 + y.length ≤ 100000; omega), ?_⟩
        refine ⟨_, rfl, _, _, rfl, rfl, ?_⟩
        have et : ((i + 7 * t : Nat) : Int) + 7 = ((i + 7 * (t + 1) : Nat) : Int) := by omega
        have ea : (((i + 7 * t : Nat) : Int) % 26).toNat = (i + 7 * t) % 26 := by omega
        show N [_, _, _, _, _, _, _, some (V.int (((i + 7 * t : Nat) : Int) + 7)), _] H5
        rw [et]
        refine hgo _ (⟨#[97 + ((((i + 7 * t : Nat) : Int) / 26 + (nm.length : Int)) % 26).toNat]⟩ ++ y) ?_ (by rw [Str.length_append, Str.length_append]; show 1 + 1 + y.length ≤ 2 + nm.length; omega) _
        rw [str_app, ea]
      have hni : nm ∉ nms := fun z => h1 (decide_eq_true z)
      refine ⟨_, rfl, .inl ⟨rfl, _, SqL.of hl4⟩, _, rfl, l, _, _, rfl, rfl, hl4, small (by rw [List.length_map]; omega), ?_⟩
      refine ⟨_, _, _, _, _, nms ++ [nm], d4, z4, rfl, Kp.put kp4 hl, by rw [upd_ne (Ne.symm nst)]; exact hs4, by rw [upd_same, List.map_append]; rfl, by rw [List.length_append]; show nms.length + 1 = i + 1; omega, ?_⟩
      intro x hx
      rcases List.mem_append.mp hx with z | z
      · exact hnd x z
      · rw [List.mem_singleton.mp z]; omega
    · rintro σ H2 ⟨u4, u5, u6, u7, u8, nms, d2, z2, rfl, kp2, hs2, hl2, hlen, hnd⟩
      exact ⟨_, rfl, k l nms d2 z2 H2 hl kp2 hs2 hl2 hlen hnd⟩
end
end B08
namespace B08
open PySem L2 S2 DW
theorem goodN_of {x : Int} (h0 : 0 ≤ x) (h1 : x < 1000000000) : GoodN x := by unfold GoodN; omega
theorem KT.kp {st : Addr} {H H' : Hp} {xs : List V} (k : Kp st H H') (h : H st = some (.lst xs)) : KT H H' := fun b ys e => k b _ (ne_of e h (by intro z; cases z)) e
def spRange : Sp := fun vs H Q _ => ∃ (st : Addr) (d z : Int), vs = [.ref st] ∧ H st = some (.lst [.int d, .int z]) ∧ ∀ (t : Addr) (a b d' z' : Int) (H' : Hp), H t = none → Kp st H H' → H' st = some (.lst [.int d', .int z']) → H' t = some (.tup [.int a, .int b]) → GoodN a → GoodN b → Q (.ref t) H'
def spLWords : Sp := fun vs H Q _ => ∃ (st : Addr) (d z : Int), vs = [.ref st] ∧ H st = some (.lst [.int d, .int z]) ∧ ∀ (t : Addr) (ws : List (List Str)) (d' z' : Int) (H' : Hp), H t = none → Kp st H H' → H' st = some (.lst [.int d', .int z']) → WsAt H' t ws → GoodWs ws → Q (.ref t) H'
def spAnchor : Sp := fun vs H Q _ => ∃ (st : Addr) (d z : Int), vs = [.ref st] ∧ H st = some (.lst [.int d, .int z]) ∧ ∀ (t : Addr) (p : Str × Int) (d' z' : Int) (H' : Hp), H t = none → Kp st H H' → H' st = some (.lst [.int d', .int z']) → H' t = some (.tup [.str p.1, .int p.2]) → GoodA p → Q (.ref t) H'
theorem pow6 : (10 : Int) ^ Int.toNat 6 = 1000000 := by decide
abbrev sgn : Str := "abkxyzAZ019-=,.:;'^_~!#text"
theorem sgn_len : sgn.length = 27 := by decide +kernel
theorem sgn_at {i : Int} (h0 : 0 ≤ i) (h1 : i < 27) : ∃ c, atI sgn.cps.toList i = some c := by
  obtain ⟨k, rfl, hk⟩ := nat_of (z := i) (n := 27) h0 h1
  have hl : sgn.cps.toList.length = 27 := by decide +kernel
  exact ⟨_, atI_nat (List.getElem?_eq_getElem (by omega))⟩
theorem three_at {a b c v : Int} (h0 : 0 ≤ v) (h1 : v < 3) : ∃ x, atI [V.int a, .int b, .int c] v = some (.int x) ∧ (x = a ∨ x = b ∨ x = c) := by
  obtain ⟨k, rfl, hk⟩ := nat_of (z := v) (n := 3) h0 h1
  match k, hk with
  | 0, _ => exact ⟨a, rfl, .inl rfl⟩
  | 1, _ => exact ⟨b, rfl, .inr (.inl rfl)⟩
  | 2, _ => exact ⟨c, rfl, .inr (.inr rfl)⟩
theorem anch_at {v : Int} (h0 : 0 ≤ v) (h1 : v < 4) : ∃ x : Str, atI [V.str "start", .str "mid", .str "mid2", .str "end"] v = some (.str x) ∧ 44 ∉ x.cps.toList ∧ x.length ≤ 10 := by
  obtain ⟨k, rfl, hk⟩ := nat_of (z := v) (n := 4) h0 h1
  match k, hk with
  | 0, _ => exact ⟨"start", rfl, by decide +kernel, by decide +kernel⟩
  | 1, _ => exact ⟨"mid", rfl, by decide +kernel, by decide +kernel⟩
  | 2, _ => exact ⟨"mid2", rfl, by decide +kernel, by decide +kernel⟩
  | 3, _ => exact ⟨"end", rfl, by decide +kernel, by decide +kernel⟩
section
variable {P : Program} {w : World} {K : PySem.W.Frag} {mg : Str → Option Value} {base : Heap}
theorem scLRange : FnScope ["_law_stream_here", "_law_least"] ["_law_stream_here"] (defScope sLRange) := ⟨rfl, rfl, rfl, by decide +kernel, rfl, by decide +kernel, by decide +kernel⟩
set_option maxHeartbeats 4000000 in
theorem ok_lrange {f f1 : Addr} {fd d1 : FuncData} (F : Fun K "_law_range" "_law_range" sLRange f fd)
    (G1 : FnOk P w K mg base CX0 1 f1 d1 ["_law_stream_here", "_law_many"] spTake) (b1 : Binds K d1 ["_law_stream_here", "_law_many"] []) (m1 : mg "_law_take" = some (.ref f1)) (k1 : PySem.W.keepIn K (.ref f1) = true) : FnOk P w K mg base CX0 2 f fd ["_law_stream_here"] spRange := by
  refine F.ok scLRange (fun vs H Q E h => ?_) (fun cdv A outer s H vs Q E hr h => ?_)
  · obtain ⟨st, d, z, e, _⟩ := h
    rw [e]
    rfl
  · obtain ⟨st, d, z, e, hst, k⟩ := h
    subst e
    refine ⟨_, pss_cons (ps_if (pt_cmpR op_eq (pe_call G1 hr (by rfl) m1 k1 b1 .nil pass0 (pa_cons (pv 0) (pa_cons pe_int pa_nil))) pe_int (nomark _)) (pss_one (ps_ret (pe_tup (pa_cons pe_int (pa_cons (pe_op op_pow pe_int pe_int) pa_nil))))) pss_nil)
      (pss_cons (ps_set (i := 1) scLRange.nd rfl (Or.inl rfl) (pe_call G1 hr (by rfl) m1 k1 b1 .nil pass0 (pa_cons (pv 0) (pa_cons (pe_ix ix_list (pe_lst (pa_cons pe_int (pa_cons pe_int (pa_cons (pe_op op_add (pe_op op_pow pe_int pe_int) pe_int) pa_nil)))) (pe_call G1 hr (by rfl) m1 k1 b1 .nil pass0 (pa_cons (pv 0) (pa_cons pe_int pa_nil))) (fun _ _ => rfl)) pa_nil))))
      (pss_one (ps_ret (pe_tup (pa_cons (pv 1) (pa_cons (pe_op op_add (pv 1) (pe_call G1 hr (by rfl) m1 k1 b1 .nil pass0 (pa_cons (pv 0) (pa_cons (pe_op op_sub (pe_op op_add (pe_op op_pow pe_int pe_int) pe_int) (pv 1)) pa_nil)))) pa_nil)))))), ?_⟩
    refine seq_abs fun N1 hN1 => ?_
    refine ⟨_, rfl, st, d, z, 3, rfl, hst, by decide, by decide, fun v d1 z1 v0 v1 => ?_⟩
    have kp1 : Kp st H (upd H st (.lst [.int d1, .int z1])) := Kp.store
    have h1 : (upd H st (.lst [.int d1, .int z1])) st = some (.lst [.int d1, .int z1]) := upd_same
    generalize upd H st (.lst [.int d1, .int z1]) = H1 at *
    refine ⟨rfl, _, rfl, ite2 (fun _ => ?_) (fun _ => hN1 _ _ ?_)⟩
    · refine ⟨_, _, rfl, rfl, ⟨by decide, by decide, by decide⟩, (by show 2 ≤ sizeLine; decide), fun t ht => ?_⟩
      have nt : st ≠ t := fun z => by rw [← z, h1] at ht; cases ht
      exact k t _ _ d1 z1 _ (kp1.gone (Ne.symm nt) ht) (Kp.put kp1 (kp1.gone (Ne.symm nt) ht)) ((upd_ne nt).trans h1) upd_same goodN0 (by show GoodN ((10 : Int) ^ Int.toNat 6); rw [pow6]; exact goodN_of (by decide) (by decide))
    clear hN1 N1
    refine seq_abs fun N2 hN2 => ?_
    refine ⟨_, rfl, _, _, rfl, rfl, ⟨by decide, by decide, by decide⟩, _, _, rfl, rfl, (by show 3 ≤ sizeLine; decide), fun l hl => ?_⟩
    have nl : st ≠ l := fun z => by rw [← z, h1] at hl; cases hl
    have hl0 := kp1.gone (Ne.symm nl) hl
    have h2 : (upd H1 l (.lst [.int 20, .int 1000, .int (10 ^ Int.toNat 6 + 1)])) st = some (.lst [.int d1, .int z1]) := (upd_ne nl).trans h1
    have l2 : (upd H1 l (.lst [.int 20, .int 1000, .int (10 ^ Int.toNat 6 + 1)])) l = some (.lst [.int 20, .int 1000, .int (10 ^ Int.toNat 6 + 1)]) := upd_same
    have kp2 : Kp st H (upd H1 l (.lst [.int 20, .int 1000, .int (10 ^ Int.toNat 6 + 1)])) := Kp.put kp1 hl0
    generalize upd H1 l (.lst [.int 20, .int 1000, .int (10 ^ Int.toNat 6 + 1)]) = H2 at *
    refine ⟨_, rfl, st, d1, z1, 3, rfl, h2, by decide, by decide, fun v2 d2 z2 v20 v21 => ?_⟩
    have l3 : (upd H2 st (.lst [.int d2, .int z2])) l = some (.lst [.int 20, .int 1000, .int (10 ^ Int.toNat 6 + 1)]) := (upd_ne (Ne.symm nl)).trans l2
    have h3 : (upd H2 st (.lst [.int d2, .int z2])) st = some (.lst [.int d2, .int z2]) := upd_same
    have kp3 : Kp st H (upd H2 st (.lst [.int d2, .int z2])) := kp2.trans Kp.store
    generalize upd H2 st (.lst [.int d2, .int z2]) = H3 at *
    obtain ⟨x, hx, hxx⟩ := three_at (a := 20) (b := 1000) (c := 10 ^ Int.toNat 6 + 1) v20 v21
    rw [pow6] at hxx
    refine ⟨l, _, _, _, rfl, rfl, SqL.of l3, hx, st, d2, z2, x, rfl, h3, by omega, by omega, fun v3 d3 z3 v30 v31 => ?_⟩
    have h4 : (upd H3 st (.lst [.int d3, .int z3])) st = some (.lst [.int d3, .int z3]) := upd_same
    have kp4 : Kp st H (upd H3 st (.lst [.int d3, .int z3])) := kp3.trans Kp.store
    generalize upd H3 st (.lst [.int d3, .int z3]) = H4 at *
    refine hN2 _ _ ?_
    refine ⟨_, rfl, _, rfl, _, rfl, _, _, rfl, rfl, ⟨by decide, by decide, by decide⟩, _, _, rfl, rfl, _, rfl, _, _, rfl, rfl, st, d3, z3, _, rfl, h4, by rw [pow6]; omega, by rw [pow6]; omega, fun v4 d4 z4 v40 v41 => ?_⟩
    rw [pow6] at v41
    have h5 : (upd H4 st (.lst [.int d4, .int z4])) st = some (.lst [.int d4, .int z4]) := upd_same
    have kp5 : Kp st H (upd H4 st (.lst [.int d4, .int z4])) := kp4.trans Kp.store
    generalize upd H4 st (.lst [.int d4, .int z4]) = H5 at *
    refine ⟨_, _, rfl, rfl, (by show 2 ≤ sizeLine; decide), fun t ht => ?_⟩
    have nt : st ≠ t := fun z => by rw [← z, h5] at ht; cases ht
    exact k t v3 (v3 + v4) d4 z4 _ (kp5.gone (Ne.symm nt) ht) (Kp.put kp5 (kp5.gone (Ne.symm nt) ht)) ((upd_ne nt).trans h5) upd_same (goodN_of v30 (by omega)) (goodN_of (by omega) (by omega))
theorem scLAnchor : FnScope ["_law_stream_here", "_law_by"] ["_law_stream_here"] (defScope sLAnchor) := ⟨rfl, rfl, rfl, by decide +kernel, rfl, by decide +kernel, by decide +kernel⟩
set_option maxHeartbeats 4000000 in
theorem ok_lanchor {f f1 : Addr} {fd d1 : FuncData} (F : Fun K "_law_anchor" "_law_anchor" sLAnchor f fd)
    (G1 : FnOk P w K mg base CX0 1 f1 d1 ["_law_stream_here", "_law_many"] spTake) (b1 : Binds K d1 ["_law_stream_here", "_law_many"] []) (m1 : mg "_law_take" = some (.ref f1)) (k1 : PySem.W.keepIn K (.ref f1) = true) : FnOk P w K mg base CX0 2 f fd ["_law_stream_here"] spAnchor := by
  refine F.ok scLAnchor (fun vs H Q E h => ?_) (fun cdv A outer s H vs Q E hr h => ?_)
  · obtain ⟨st, d, z, e, _⟩ := h
    rw [e]
    rfl
  · obtain ⟨st, d, z, e, hst, k⟩ := h
    subst e
    refine ⟨_, pss_cons (ps_set (i := 1) scLAnchor.nd rfl (Or.inl rfl) (pe_op op_sub (pe_call G1 hr (by rfl) m1 k1 b1 .nil pass0 (pa_cons (pv 0) (pa_cons pe_int pa_nil))) pe_int))
      (pss_cons (ps_if (pt_cmpR op_eq (pe_call G1 hr (by rfl) m1 k1 b1 .nil pass0 (pa_cons (pv 0) (pa_cons pe_int pa_nil))) pe_int (nomark _)) (pss_one (ps_set (i := 1) scLAnchor.nd rfl (Or.inl rfl) (pe_op op_sub (pe_call G1 hr (by rfl) m1 k1 b1 .nil pass0 (pa_cons (pv 0) (pa_cons (pe_op op_add (pe_op op_mul pe_int (pe_op op_pow pe_int pe_int)) pe_int) pa_nil))) (pe_op op_pow pe_int pe_int)))) pss_nil)
      (pss_one (ps_ret (pe_tup (pa_cons (pe_ix ix_list (pe_lst (pa_cons pe_str (pa_cons pe_str (pa_cons pe_str (pa_cons pe_str pa_nil))))) (pe_call G1 hr (by rfl) m1 k1 b1 .nil pass0 (pa_cons (pv 0) (pa_cons pe_int pa_nil))) (fun _ _ => rfl)) (pa_cons (pv 1) pa_nil)))))), ?_⟩
    refine seq_abs fun N1 hN1 => ?_
    refine ⟨_, rfl, st, d, z, 7, rfl, hst, by decide, by decide, fun v d1 z1 v0 v1 => ?_⟩
    have kp1 : Kp st H (upd H st (.lst [.int d1, .int z1])) := Kp.store
    have h1 : (upd H st (.lst [.int d1, .int z1])) st = some (.lst [.int d1, .int z1]) := upd_same
    generalize upd H st (.lst [.int d1, .int z1]) = H1 at *
    refine ⟨_, _, rfl, rfl, hN1 _ _ ?_⟩
    clear hN1 N1
    refine seq_abs fun N2 hN2 => ?_
    -- the rest, whatever the number
    have fin : ∀ (b d2 z2 : Int) (H2 : Hp), Kp st H H2 → H2 st = some (.lst [.int d2, .int z2]) → GoodN b → N2 [some (.ref st), some (.int b)] H2 := fun b d2 z2 H2 kp2 h2 gb => by
      refine hN2 _ _ ?_
      refine ⟨(by show 4 ≤ sizeLine; decide), fun l hl => ?_⟩
      have nl : st ≠ l := fun z => by rw [← z, h2] at hl; cases hl
      have hl0 := kp2.gone (Ne.symm nl) hl
      have h3 : (upd H2 l (.lst [.str "start", .str "mid", .str "mid2", .str "end"])) st = some (.lst [.int d2, .int z2]) := (upd_ne nl).trans h2
      have l3 : (upd H2 l (.lst [.str "start", .str "mid", .str "mid2", .str "end"])) l = some (.lst [.str "start", .str "mid", .str "mid2", .str "end"]) := upd_same
      have kp3 : Kp st H (upd H2 l (.lst [.str "start", .str "mid", .str "mid2", .str "end"])) := Kp.put kp2 hl0
      generalize upd H2 l (.lst [.str "start", .str "mid", .str "mid2", .str "end"]) = H3 at *
      refine ⟨_, rfl, st, d2, z2, 4, rfl, h3, by decide, by decide, fun v4 d4 z4 v40 v41 => ?_⟩
      have l4 : (upd H3 st (.lst [.int d4, .int z4])) l = some (.lst [.str "start", .str "mid", .str "mid2", .str "end"]) := (upd_ne (Ne.symm nl)).trans l3
      have h4 : (upd H3 st (.lst [.int d4, .int z4])) st = some (.lst [.int d4, .int z4]) := upd_same
      have kp4 : Kp st H (upd H3 st (.lst [.int d4, .int z4])) := kp3.trans Kp.store
      generalize upd H3 st (.lst [.int d4, .int z4]) = H4 at *
      obtain ⟨x, hx, x1, x2⟩ := anch_at v40 v41
      refine ⟨l, _, _, _, rfl, rfl, SqL.of l4, hx, _, rfl, (by show 2 ≤ sizeLine; decide), fun t ht => ?_⟩
      have nt : st ≠ t := fun z => by rw [← z, h4] at ht; cases ht
      exact k t (x, b) d4 z4 _ (kp4.gone (Ne.symm nt) ht) (Kp.put kp4 (kp4.gone (Ne.symm nt) ht)) ((upd_ne nt).trans h4) upd_same ⟨x1, x2, gb⟩
    refine ⟨_, rfl, st, d1, z1, 4, rfl, h1, by decide, by decide, fun v2 d2 z2 v20 v21 => ?_⟩
    have kp2 : Kp st H (upd H1 st (.lst [.int d2, .int z2])) := kp1.trans Kp.store
    have h2 : (upd H1 st (.lst [.int d2, .int z2])) st = some (.lst [.int d2, .int z2]) := upd_same
    generalize upd H1 st (.lst [.int d2, .int z2]) = H2 at *
    refine ⟨rfl, _, rfl, ite2 (fun _ => ?_) (fun _ => fin _ d2 z2 H2 kp2 h2 (by unfold GoodN; omega))⟩
    refine ⟨_, rfl, _, _, rfl, rfl, ⟨by decide, by decide, by decide⟩, _, _, rfl, rfl, .inl ⟨by decide, by decide⟩, _, _, rfl, rfl, st, d2, z2, _, rfl, h2, by decide, by decide, fun v3 d3 z3 v30 v31 => ?_⟩
    have e2 : (2 : Int) * 10 ^ Int.toNat 6 + 1 = 2000001 := by decide
    rw [e2] at v31
    refine ⟨_, _, rfl, rfl, ⟨by decide, by decide, by decide⟩, _, _, rfl, rfl, ?_⟩
    exact fin _ d3 z3 _ (kp2.trans Kp.store) upd_same (by rw [pow6]; unfold GoodN; omega)
theorem scLWords : FnScope ["_law_stream_here", "_law_words_here", "_law_k", "_law_word", "_law_j", "_law_piece", "_law_i"] ["_law_stream_here"] (defScope sLWords) := ⟨rfl, rfl, rfl, by decide +kernel, rfl, by decide +kernel, by decide +kernel⟩
set_option maxHeartbeats 8000000 in
theorem ok_lwords {f f1 : Addr} {fd d1 : FuncData} (F : Fun K "_law_words" "_law_words" sLWords f fd) (N : Names mg)
    (G1 : FnOk P w K mg base CX0 1 f1 d1 ["_law_stream_here", "_law_many"] spTake) (b1 : Binds K d1 ["_law_stream_here", "_law_many"] []) (m1 : mg "_law_take" = some (.ref f1)) (k1 : PySem.W.keepIn K (.ref f1) = true) : FnOk P w K mg base CX0 2 f fd ["_law_stream_here"] spLWords := by
  refine F.ok scLWords (fun vs H Q E h => ?_) (fun cdv A outer s H vs Q E hr h => ?_)
  · obtain ⟨st, d, z, e, _⟩ := h
    rw [e]
    rfl
  · obtain ⟨st, d, z, e, hst, k⟩ := h
    subst e
    refine ⟨_, pss_cons (ps_set (i := 1) scLWords.nd rfl (Or.inl rfl) (pe_lst pa_nil))
      (pss_cons (ps_for PassesOwn.never rfl (pi_range1 (by rfl) N.range (pa_cons (pe_call G1 hr (by rfl) m1 k1 b1 .nil pass0 (pa_cons (pv 0) (pa_cons pe_int pa_nil))) pa_nil)) (pg_name (i := 2) scLWords.nd rfl (Or.inl rfl))
        (pss_cons (ps_set (i := 3) scLWords.nd rfl (Or.inl rfl) (pe_lst pa_nil))
        (pss_cons (ps_for PassesOwn.never rfl (pi_range1 (by rfl) N.range (pa_cons (pe_op op_add pe_int (pe_call G1 hr (by rfl) m1 k1 b1 .nil pass0 (pa_cons (pv 0) (pa_cons pe_int pa_nil)))) pa_nil)) (pg_name (i := 4) scLWords.nd rfl (Or.inl rfl))
          (pss_cons (ps_set (i := 5) scLWords.nd rfl (Or.inl rfl) pe_str)
          (pss_cons (ps_for PassesOwn.never rfl (pi_range1 (by rfl) N.range (pa_cons (pe_op op_add pe_int (pe_call G1 hr (by rfl) m1 k1 b1 .nil pass0 (pa_cons (pv 0) (pa_cons pe_int pa_nil)))) pa_nil)) (pg_name (i := 6) scLWords.nd rfl (Or.inl rfl))
            (pss_one (ps_set (i := 5) scLWords.nd rfl (Or.inl rfl) (pe_op op_add_str (pv 5) (pe_ix ix_str pe_str (pe_call G1 hr (by rfl) m1 k1 b1 .nil pass0 (pa_cons (pv 0) (pa_cons pe_int pa_nil))) (fun _ _ => rfl))))))
          (pss_one (ps_expr (pe_bm PySem.F.plainAttrs_list PySem.F.slot_list_append PySem.F.type_list_append mt_append (pv 3) (pa_cons (pv 5) pa_nil)))))))
        (pss_one (ps_expr (pe_bm PySem.F.plainAttrs_list PySem.F.slot_list_append PySem.F.type_list_append mt_append (pv 1) (pa_cons (pe_callTy call_tuple_of (by rfl) N.tuple PyProof.Rows.boot_tuple (pa_cons (pv 3) pa_nil)) pa_nil)))))))
      (pss_one (ps_ret (pe_callTy call_tuple_of (by rfl) N.tuple PyProof.Rows.boot_tuple (pa_cons (pv 1) pa_nil))))), ?_⟩
    refine seq_abs fun N0 hN0 => ?_
    refine ⟨smallE (by simp), fun lw hlw => hN0 _ _ ?_⟩
    clear hN0 N0
    have nw : lw ≠ st := Ne.symm (ne_of_none hst hlw)
    have kp1 : Kp st H (upd H lw (.lst [])) := Kp.put (Kp.refl _) hlw
    have s1 : (upd H lw (.lst [])) st = some (.lst [.int d, .int z]) := (upd_ne (Ne.symm nw)).trans hst
    have w1 : (upd H lw (.lst [])) lw = some (.lst (([] : List Addr).map V.ref)) := upd_same
    generalize upd H lw (.lst []) = H1 at *
    refine seq_abs fun N1 hN1 => ?_
    refine ⟨_, rfl, st, d, z, 4, rfl, s1, by decide, by decide, fun v0 d2 z2 v00 v01 => ?_⟩
    have kp2 : Kp st H (upd H1 st (.lst [.int d2, .int z2])) := kp1.trans Kp.store
    have s2 : (upd H1 st (.lst [.int d2, .int z2])) st = some (.lst [.int d2, .int z2]) := upd_same
    have w2 : (upd H1 st (.lst [.int d2, .int z2])) lw = some (.lst (([] : List Addr).map V.ref)) := (upd_ne nw).trans w1
    generalize upd H1 st (.lst [.int d2, .int z2]) = H2 at *
    refine ⟨v0, rfl, by omega, by omega, ?_⟩
    refine for_range (n := v0.toNat) (fun i σ H9 => ∃ (u2 u3 u4 u5 u6 : Option V) (as : List Addr) (ws : List (List Str)) (d9 z9 : Int), σ = [some (.ref st), some (.ref lw), u2, u3, u4, u5, u6] ∧ Kp st H H9 ∧ H9 st = some (.lst [.int d9, .int z9]) ∧ H9 lw = some (.lst (as.map V.ref)) ∧ RowsOf H9 as (ws.map strsV) ∧ as.length = i ∧ ∀ w ∈ ws, 1 ≤ w.length ∧ w.length ≤ 3 ∧ ∀ x ∈ w, 1 ≤ x.length ∧ x.length ≤ 4)
      ⟨_, _, _, _, _, [], [], d2, z2, rfl, kp2, s2, w2, RowsOf.nil, rfl, fun w hw => nomatch hw⟩ ?_ ?_
    · rintro i σ H3 hi ⟨u2, u3, u4, u5, u6, as, ws, d3, z3, rfl, kp3, s3, w3, r3, hl3, g3⟩
      refine seq_abs fun N4 hN4 => ?_
      refine ⟨smallE (by simp), fun lx hlx => hN4 _ _ ?_⟩
      clear hN4 N4
      have nx : lx ≠ st := Ne.symm (ne_of_none s3 hlx)
      have nxw : lw ≠ lx := ne_of_none w3 hlx
      have hlx0 := kp3.gone nx hlx
      have kp4 : Kp st H3 (upd H3 lx (.lst [])) := Kp.put (Kp.refl _) hlx
      have s4 : (upd H3 lx (.lst [])) st = some (.lst [.int d3, .int z3]) := (upd_ne (Ne.symm nx)).trans s3
      have x4 : (upd H3 lx (.lst [])) lx = some (.lst (([] : List Str).map V.str)) := upd_same
      generalize upd H3 lx (.lst []) = H4 at *
      refine seq_abs fun N2 hN2 => ?_
      refine ⟨_, rfl, st, d3, z3, 3, rfl, s4, by decide, by decide, fun v1 d5 z5 v10 v11 => ?_⟩
      have kp5 : Kp st H3 (upd H4 st (.lst [.int d5, .int z5])) := kp4.trans Kp.store
      have s5 : (upd H4 st (.lst [.int d5, .int z5])) st = some (.lst [.int d5, .int z5]) := upd_same
      have x5 : (upd H4 st (.lst [.int d5, .int z5])) lx = some (.lst (([] : List Str).map V.str)) := (upd_ne nx).trans x4
      generalize upd H4 st (.lst [.int d5, .int z5]) = H5 at *
      refine ⟨_, _, rfl, rfl, _, rfl, by omega, by omega, ?_⟩
      refine for_range (n := (1 + v1).toNat) (fun j σ H9 => ∃ (y4 y5 y6 : Option V) (xs : List Str) (d9 z9 : Int), σ = [some (.ref st), some (.ref lw), some (.int (0 + (i : Int))), some (.ref lx), y4, y5, y6] ∧ Kp st H3 H9 ∧ H9 st = some (.lst [.int d9, .int z9]) ∧ H9 lx = some (.lst (xs.map V.str)) ∧ xs.length = j ∧ ∀ x ∈ xs, 1 ≤ x.length ∧ x.length ≤ 4)
        ⟨_, _, _, [], d5, z5, rfl, kp5, s5, x5, rfl, fun x hx => nomatch hx⟩ ?_ ?_
      · rintro j σ H6 hj ⟨y4, y5, y6, xs, d6, z6, rfl, kp6, s6, x6, hl6, g6⟩
        refine seq_abs fun N5 hN5 => hN5 _ _ ?_
        clear hN5 N5
        refine seq_abs fun N3 hN3 => ?_
        refine ⟨_, rfl, st, d6, z6, 4, rfl, s6, by decide, by decide, fun v2 d7 z7 v20 v21 => ?_⟩
        have kp7 : Kp st H3 (upd H6 st (.lst [.int d7, .int z7])) := kp6.trans Kp.store
        have s7 : (upd H6 st (.lst [.int d7, .int z7])) st = some (.lst [.int d7, .int z7]) := upd_same
        have x7 : (upd H6 st (.lst [.int d7, .int z7])) lx = some (.lst (xs.map V.str)) := (upd_ne nx).trans x6
        generalize upd H6 st (.lst [.int d7, .int z7]) = H7 at *
        refine ⟨_, _, rfl, rfl, _, rfl, by omega, by omega, ?_⟩
        refine for_range (n := (1 + v2).toNat) (fun n σ H9 => ∃ (t6 : Option V) (pc : Str) (d9 z9 : Int), σ = [some (.ref st), some (.ref lw), some (.int (0 + (i : Int))), some (.ref lx), some (.int (0 + (j : Int))), some (.str pc), t6] ∧ Kp st H3 H9 ∧ H9 st = some (.lst [.int d9, .int z9]) ∧ H9 lx = some (.lst (xs.map V.str)) ∧ pc.length = n)
          ⟨_, "", d7, z7, rfl, kp7, s7, x7, by decide +kernel⟩ ?_ ?_
        · rintro n σ H8 hn ⟨t6, pc, d8, z8, rfl, kp8, s8, x8, hpc⟩
          refine ⟨_, rfl, _, rfl, st, d8, z8, 27, rfl, s8, by decide, by decide, fun v d9 z9 v90 v91 => ?_⟩
          obtain ⟨c, hc⟩ := sgn_at v90 v91
          refine ⟨sgn, _, _, rfl, rfl, smallE (by rw [sgn_len]; decide), hc, _, _, rfl, rfl, smallE (by show pc.length + 1 ≤ 100000; omega), ?_⟩
          exact ⟨_, _, d9, z9, rfl, kp8.trans Kp.store, upd_same, (upd_ne nx).trans x8, by rw [Str.length_append, hpc]; rfl⟩
        · rintro σ H8 ⟨t6, pc, d8, z8, rfl, kp8, s8, x8, hpc⟩
          refine hN3 _ _ ?_
          refine ⟨_, rfl, .inl ⟨rfl, _, SqL.of x8⟩, _, rfl, lx, _, _, rfl, rfl, x8, small (by rw [List.length_map]; omega), ?_⟩
          refine ⟨_, _, _, xs ++ [pc], d8, z8, rfl, fun b o hb e => ?_, (upd_ne (Ne.symm nx)).trans s8, by rw [upd_same, List.map_append]; rfl, by rw [List.length_append, hl6]; rfl, fun x hx => ?_⟩
          · rw [upd_ne (fun z => by rw [z, hlx] at e; cases e)]
            exact kp8 b o hb e
          · rcases List.mem_append.mp hx with z | z
            · exact g6 x z
            · rw [List.mem_singleton.mp z]; omega
      · rintro σ H6 ⟨y4, y5, y6, xs, d6, z6, rfl, kp6, s6, x6, hl6, g6⟩
        refine hN2 _ _ ?_
        have w6 : H6 lw = some (.lst (as.map V.ref)) := kp6 _ _ nw w3
        refine ⟨_, rfl, .inl ⟨rfl, _, SqL.of w6⟩, _, rfl, lx, _, rfl, .inl ⟨SqL.of x6, fun t ht => ?_⟩⟩
        have nt : st ≠ t := ne_of_none s6 ht
        have nwt : lw ≠ t := ne_of_none w6 ht
        have r6 := rowsKT r3 (KT.kp kp6 s3)
        refine ⟨lw, _, _, rfl, rfl, (upd_ne nwt).trans w6, small (by rw [List.length_map]; omega), ?_⟩
        refine ⟨_, _, _, _, _, as ++ [t], ws ++ [xs], d6, z6, rfl, ?_, ?_, by rw [upd_same, List.map_append]; rfl, ?_, by rw [List.length_append, hl3]; rfl, fun w hw => ?_⟩
        · have ht0 : H t = none := (kp3.trans kp6).gone (Ne.symm nt) ht
          exact Kp.put (Kp.put (kp3.trans kp6) ht0) hlw
        · rw [upd_ne (Ne.symm nw), upd_ne nt]; exact s6
        · rw [List.map_append]
          have ht1 : (upd H6 t (.tup (xs.map V.str))) t = some (.tup (strsV xs)) := upd_same
          have k1 : KT H6 (upd H6 t (.tup (xs.map V.str))) := KT.put ht
          have k2 : KT (upd H6 t (.tup (xs.map V.str))) (upd (upd H6 t (.tup (xs.map V.str))) lw (.lst (as.map V.ref ++ [V.ref t]))) := KT.lst ((upd_ne nwt).trans w6)
          exact RowsOf.snoc (rowsKT r6 (k1.trans k2)) (Same.refl _) (k2 _ _ ht1)
        · rcases List.mem_append.mp hw with z | z
          · exact g3 w z
          · rw [List.mem_singleton.mp z]
            exact ⟨by omega, by omega, g6⟩
    · rintro σ H3 ⟨u2, u3, u4, u5, u6, as, ws, d3, z3, rfl, kp3, s3, w3, r3, hl3, g3⟩
      refine hN1 _ _ ?_
      refine ⟨_, rfl, lw, _, rfl, .inl ⟨SqL.of w3, fun t ht => ?_⟩⟩
      have nt : st ≠ t := ne_of_none s3 ht
      have ht0 : H t = none := kp3.gone (Ne.symm nt) ht
      have hlw2 : ws.length ≤ 3 := by have := r3.1; rw [List.length_map] at this; omega
      exact k t ws d3 z3 _ ht0 (Kp.put kp3 ht0) ((upd_ne nt).trans s3) ⟨as, upd_same, rowsKT r3 (KT.put ht)⟩ ⟨hlw2, g3⟩
end
end B08
namespace B08
open PySem L2 S2 DW
theorem comp_rangeS {lo : Int} {n : Nat} {te : TE} {σ : St} {H : Hp} {Q : VK} (Pv : Addr → Nat → List V → Hp → Prop) (hn : n < sizeLine) (h0 : ∀ D, H D = none → Pv D 0 [] (upd H D (.lst [])))
    (hl : ∀ D i l H', Pv D i l H' → l.length ≤ i)
    (he : ∀ (D : Addr) (i : Nat) (l : List V) (H' : Hp) (Q' : VK), i < n → Pv D i l H' → (∀ y H3, H3 D = some (.lst l) → Pv D (i + 1) (l ++ [y]) (upd H3 D (.lst (l ++ [y]))) → Q' y H3) → te (some (.int (lo + i)) :: σ) H' Q')
    (hd : ∀ D l H', Pv D n l H' → Q (.ref D) H') : CompGo (Itr lo n) H σ ttAll te Q :=
  comp_rangeG Pv hn h0 hl (fun D i l H' Q1 hi pv hq => hq true H' (fun h => by cases h) (fun _ Q' k => he D i l H' Q' hi pv k)) hd
def KdC (kd : Str) : Prop := kd = "leaf" ∨ (∃ k, kd = (What.lined k 0 "" "").kd) ∨ kd = "table" ∨ kd = "words" ∨ kd = "flow" ∨ kd = "over"
def spLWhat : Sp := fun vs H Q _ => ∃ (st : Addr) (d z : Int) (kd : Str) (n : Nat), vs = [.ref st, .str kd, .int (n : Int)] ∧ H st = some (.lst [.int d, .int z]) ∧ KdC kd ∧ n ≤ 20 ∧
  ∀ (t : Addr) (wh : What) (d' z' : Int) (H' : Hp), H t = none → Kp st H H' → H' st = some (.lst [.int d', .int z']) → WhatAt H' t wh → wh.Good → wh.kd = kd → Fo.fits wh n → Q (.ref t) H'
theorem lr_at {v : Int} (h0 : 0 ≤ v) (h1 : v < 2) : ∃ x : Str, atI [V.str "left", .str "right"] v = some (.str x) ∧ (x = "left" ∨ x = "right") := by
  obtain ⟨k, rfl, hk⟩ := nat_of (z := v) (n := 2) h0 h1
  match k, hk with
  | 0, _ => exact ⟨"left", rfl, .inl rfl⟩
  | 1, _ => exact ⟨"right", rfl, .inr rfl⟩
theorem lr_len {x : Str} (h : x = "left" ∨ x = "right") : x.length ≤ 10 := by rcases h with z | z <;> rw [z] <;> decide +kernel
theorem al_at {v : Int} (h0 : 0 ≤ v) (h1 : v < 4) : ∃ x : Str, atI [V.str "start", .str "end", .str "mid", .str "mid2"] v = some (.str x) ∧ x.length ≤ 10 := by
  obtain ⟨k, rfl, hk⟩ := nat_of (z := v) (n := 4) h0 h1
  match k, hk with
  | 0, _ => exact ⟨"start", rfl, by decide +kernel⟩
  | 1, _ => exact ⟨"end", rfl, by decide +kernel⟩
  | 2, _ => exact ⟨"mid", rfl, by decide +kernel⟩
  | 3, _ => exact ⟨"mid2", rfl, by decide +kernel⟩
theorem lined_kd (k : Nat) (g : Int) (al sd : Str) : (What.lined k g al sd).kd = (What.lined k 0 "" "").kd := by
  match k with
  | 0 => rfl
  | 1 => rfl
  | k + 2 => rfl
theorem nst {H : Hp} {st t : Addr} {o : HO} (h : H st = some o) (ht : H t = none) : st ≠ t := ne_of_none h ht
section
variable {P : Program} {w : World} {K : PySem.W.Frag} {mg : Str → Option Value} {base : Heap}
abbrev nLWhat : List Str := ["_law_stream_here", "_law_kind", "_law_many", "_law_side", "_law_columns", "_law_spans", "_law_joint", "_law_sides"]
theorem scLWhat : FnScope nLWhat ["_law_stream_here", "_law_kind", "_law_many"] (defScope sLWhat) := ⟨rfl, rfl, rfl, by decide +kernel, rfl, by decide +kernel, by decide +kernel⟩
set_option maxHeartbeats 16000000 in
theorem ok_lwhat {f f1 f2 f3 : Addr} {fd d1 d2 d3 : FuncData} (F : Fun K "_law_what" "_law_what" sLWhat f fd) (N : Names mg)
    (G1 : FnOk P w K mg base CX0 1 f1 d1 ["_law_stream_here", "_law_many"] spTake) (b1 : Binds K d1 ["_law_stream_here", "_law_many"] []) (m1 : mg "_law_take" = some (.ref f1)) (k1 : PySem.W.keepIn K (.ref f1) = true)
    (G2 : FnOk P w K mg base CX0 2 f2 d2 ["_law_stream_here"] spLWords) (b2 : Binds K d2 ["_law_stream_here"] []) (m2 : mg "_law_words" = some (.ref f2)) (k2 : PySem.W.keepIn K (.ref f2) = true)
    (G3 : FnOk P w K mg base CX0 2 f3 d3 ["_law_stream_here"] spAnchor) (b3 : Binds K d3 ["_law_stream_here"] []) (m3 : mg "_law_anchor" = some (.ref f3)) (k3 : PySem.W.keepIn K (.ref f3) = true) : FnOk P w K mg base CX0 3 f fd ["_law_stream_here", "_law_kind", "_law_many"] spLWhat := by
  refine F.ok scLWhat (fun vs H Q E h => ?_) (fun cdv A outer s H vs Q E hr h => ?_)
  · obtain ⟨st, d, z, kd, n, e, _⟩ := h
    rw [e]
    rfl
  · obtain ⟨st, d, z, kd, n, e, hst, hk, hn, k⟩ := h
    subst e
    have hr1 := hr.mono (j := 1) (by decide)
    refine ⟨_, pss_cons (ps_set (i := 3) scLWhat.nd rfl (Or.inl rfl) (pe_ix ix_list (pe_lst (pa_cons pe_str (pa_cons pe_str pa_nil))) (pe_call G1 hr1 (by rfl) m1 k1 b1 .nil pass0 (pa_cons (pv 0) (pa_cons pe_int pa_nil))) (fun _ _ => rfl)))
      (pss_cons (ps_if (pt_cmpR op_eq (pv 1) pe_str (nomark _)) (pss_one (ps_ret (pe_tup (pa_cons (pe_call G1 hr1 (by rfl) m1 k1 b1 .nil pass0 (pa_cons (pv 0) (pa_cons pe_int pa_nil))) (pa_cons (pe_call G1 hr1 (by rfl) m1 k1 b1 .nil pass0 (pa_cons (pv 0) (pa_cons (pe_op op_add (pe_op op_pow pe_int pe_int) pe_int) pa_nil))) pa_nil))))) pss_nil)
      (pss_cons (ps_if (pt_cmpR (r := rIn K false) op_in_seq (pv 1) (pe_tup (pa_cons pe_str (pa_cons pe_str (pa_cons pe_str pa_nil)))) (by rfl)) (pss_one (ps_ret (pe_tup (pa_cons (pe_call G1 hr1 (by rfl) m1 k1 b1 .nil pass0 (pa_cons (pv 0) (pa_cons pe_int pa_nil))) (pa_cons (pe_ix ix_list (pe_lst (pa_cons pe_str (pa_cons pe_str (pa_cons pe_str (pa_cons pe_str pa_nil))))) (pe_call G1 hr1 (by rfl) m1 k1 b1 .nil pass0 (pa_cons (pv 0) (pa_cons pe_int pa_nil))) (fun _ _ => rfl)) (pa_cons (pv 3) pa_nil)))))) pss_nil)
      (pss_cons (ps_if (pt_cmpR op_eq (pv 1) pe_str (nomark _))
        (pss_cons (ps_set (i := 4) scLWhat.nd rfl (Or.inr rfl) (pe_op op_add pe_int (pe_call G1 hr1 (by rfl) m1 k1 b1 .nil pass0 (pa_cons (pv 0) (pa_cons pe_int pa_nil)))))
        (pss_cons (ps_setComp (i := 5) (compSc_mk (fs := defScope sLWhat) (N := nLWhat) rfl rfl (by decide +kernel)) rfl scLWhat.nd rfl (Or.inl rfl) (pi_range1 (by rfl) N.range (pa_cons (pv 2) pa_nil)) (fun _ _ _ _ _ => pts_nil)
          (fun _ _ _ _ _ => pe_tup (pa_cons (pe_op op_add pe_int (pe_call G1 hr1 (by rfl) m1 k1 b1 .nil pass0 (pa_cons (pv 1) (pa_cons (pv 5) pa_nil)))) (pa_cons (pe_op op_add pe_int (pe_call G1 hr1 (by rfl) m1 k1 b1 .nil pass0 (pa_cons (pv 1) (pa_cons pe_int pa_nil)))) pa_nil))) rfl)
        (pss_one (ps_ret (pe_tup (pa_cons (pv 4) (pa_cons (pe_call G1 hr1 (by rfl) m1 k1 b1 .nil pass0 (pa_cons (pv 0) (pa_cons pe_int pa_nil))) (pa_cons (pv 3) (pa_cons (pe_callTy call_tuple_of (by rfl) N.tuple PyProof.Rows.boot_tuple (pa_cons (pv 5) pa_nil)) pa_nil))))))))) pss_nil)
      (pss_cons (ps_set (i := 6) scLWhat.nd rfl (Or.inl rfl) (pe_ix ix_list (pe_lst (pa_cons pe_int (pa_cons pe_int (pa_cons (pe_op op_add pe_int (pe_call G1 hr1 (by rfl) m1 k1 b1 .nil pass0 (pa_cons (pv 0) (pa_cons pe_int pa_nil)))) pa_nil)))) (pe_call G1 hr1 (by rfl) m1 k1 b1 .nil pass0 (pa_cons (pv 0) (pa_cons pe_int pa_nil))) (fun _ _ => rfl)))
      (pss_cons (ps_if (pt_cmpR op_eq (pv 1) pe_str (nomark _)) (pss_one (ps_ret (pe_tup (pa_cons (pe_call G2 hr (by rfl) m2 k2 b2 .nil pass0 (pa_cons (pv 0) pa_nil)) (pa_cons (pv 6) pa_nil))))) pss_nil)
      (pss_cons (ps_if (pt_cmpR op_eq (pv 1) pe_str (nomark _))
        (pss_cons (ps_setComp (i := 7) (compSc_mk (fs := defScope sLWhat) (N := nLWhat) rfl rfl (by decide +kernel)) rfl scLWhat.nd rfl (Or.inl rfl) (pi_range1 (by rfl) N.range (pa_cons (pv 2) pa_nil)) (fun _ _ _ _ _ => pts_nil)
          (fun _ _ _ _ _ => pe_ix (r := rIxL K) ix_list (pe_lst (pa_cons pe_str (pa_cons pe_str pa_nil))) (pe_call G1 hr1 (by rfl) m1 k1 b1 .nil pass0 (pa_cons (pv 1) (pa_cons pe_int pa_nil))) (fun _ _ => rfl)) rfl)
        (pss_one (ps_ret (pe_tup (pa_cons (pe_callTy call_tuple_of (by rfl) N.tuple PyProof.Rows.boot_tuple (pa_cons (pv 7) pa_nil)) (pa_cons (pe_call G2 hr (by rfl) m2 k2 b2 .nil pass0 (pa_cons (pv 0) pa_nil)) (pa_cons (pv 6) pa_nil))))))) pss_nil)
      (pss_one (ps_ret (pe_callTy call_tuple_of (by rfl) N.tuple PyProof.Rows.boot_tuple (pa_cons (pe_comp (compSc_mk (fs := defScope sLWhat) (N := nLWhat) rfl rfl (by decide +kernel)) rfl (pi_range1 (by rfl) N.range (pa_cons (pe_op op_sub (pv 2) pe_int) pa_nil)) (fun _ _ _ _ _ => pts_nil)
          (fun _ _ _ _ _ => pe_tup (pa_cons (pe_call G3 hr (by rfl) m3 k3 b3 .nil pass0 (pa_cons (pv 1) pa_nil)) (pa_cons (pe_call G3 hr (by rfl) m3 k3 b3 .nil pass0 (pa_cons (pv 1) pa_nil)) pa_nil)))) pa_nil)))))))))), ?_⟩
    refine seq_abs fun N1 hN1 => ?_
    refine ⟨(by show 2 ≤ sizeLine; decide), fun l hl => ?_⟩
    have nl := nst hst hl
    have kp1 : Kp st H (upd H l (.lst [.str "left", .str "right"])) := Kp.put (Kp.refl _) hl
    have h1 : (upd H l (.lst [.str "left", .str "right"])) st = some (.lst [.int d, .int z]) := (upd_ne nl).trans hst
    have l1 : (upd H l (.lst [.str "left", .str "right"])) l = some (.lst [.str "left", .str "right"]) := upd_same
    generalize upd H l (.lst [.str "left", .str "right"]) = H1 at *
    refine ⟨_, rfl, st, d, z, 2, rfl, h1, by decide, by decide, fun v d2 z2 v0 v1 => ?_⟩
    have kp2 : Kp st H (upd H1 st (.lst [.int d2, .int z2])) := kp1.trans Kp.store
    have h2 : (upd H1 st (.lst [.int d2, .int z2])) st = some (.lst [.int d2, .int z2]) := upd_same
    have l2 : (upd H1 st (.lst [.int d2, .int z2])) l = some (.lst [.str "left", .str "right"]) := (upd_ne (Ne.symm nl)).trans l1
    generalize upd H1 st (.lst [.int d2, .int z2]) = H2 at *
    obtain ⟨sd, hsd, hlr⟩ := lr_at v0 v1
    refine ⟨l, _, _, _, rfl, rfl, SqL.of l2, hsd, hN1 _ _ ?_⟩
    clear hN1 N1 l2 l1 h1 kp1 hst hsd
    have lsd := lr_len hlr
    -- the joint, behind which three kinds are left
    refine seq_abs fun N2 hN2 => ?_
    by_cases c1 : kd = "leaf"
    · subst c1
      refine ⟨_, rfl, rfl, _, rfl, iteB keq ?_⟩
      refine ⟨_, rfl, st, d2, z2, 60, rfl, h2, by decide, by decide, fun a d3 z3 a0 a1 => ?_⟩
      refine ⟨_, rfl, _, _, rfl, rfl, ⟨by decide, by decide, by decide⟩, _, _, rfl, rfl, st, d3, z3, _, rfl, upd_same, by rw [pow6]; decide, by rw [pow6]; decide, fun b d4 z4 b0 b1 => ?_⟩
      rw [pow6] at b1
      have kp4 : Kp st H (upd (upd H2 st (.lst [.int d3, .int z3])) st (.lst [.int d4, .int z4])) := (kp2.trans Kp.store).trans Kp.store
      have h4 : (upd (upd H2 st (.lst [.int d3, .int z3])) st (.lst [.int d4, .int z4])) st = some (.lst [.int d4, .int z4]) := upd_same
      generalize upd (upd H2 st (.lst [.int d3, .int z3])) st (.lst [.int d4, .int z4]) = H4 at *
      refine ⟨(by show 2 ≤ sizeLine; decide), fun t ht => ?_⟩
      have nt := nst h4 ht
      have ht0 := kp4.gone (Ne.symm nt) ht
      exact k t (.leaf a b) d4 z4 _ ht0 (Kp.put kp4 ht0) ((upd_ne nt).trans h4) upd_same ⟨goodN_of a0 (by omega), goodN_of b0 (by omega)⟩ rfl trivial
    refine ⟨_, rfl, rfl, _, rfl, iteC (kne c1) (hN2 _ _ ?_)⟩
    clear hN2 N2
    refine seq_abs fun N3 hN3 => ?_
    refine ⟨_, rfl, (by show 3 ≤ sizeLine; decide), fun t3 ht3 => ?_⟩
    have n3 := nst h2 ht3
    have ht30 := kp2.gone (Ne.symm n3) ht3
    have kp3 : Kp st H (upd H2 t3 (.tup [.str "row", .str "column", .str "wrap"])) := Kp.put kp2 ht30
    have h3 : (upd H2 t3 (.tup [.str "row", .str "column", .str "wrap"])) st = some (.lst [.int d2, .int z2]) := (upd_ne n3).trans h2
    have t3' : (upd H2 t3 (.tup [.str "row", .str "column", .str "wrap"])) t3 = some (.tup [.str "row", .str "column", .str "wrap"]) := upd_same
    generalize upd H2 t3 (.tup [.str "row", .str "column", .str "wrap"]) = H3 at *
    refine ⟨t3, _, rfl, .inr (SqT.of t3'), rfl, rfl, _, rfl, ?_⟩
    by_cases c2 : ∃ n, kd = (What.lined n 0 "" "").kd
    · obtain ⟨ln, rfl⟩ := c2
      refine iteB in_lined ?_
      refine ⟨_, rfl, st, d2, z2, 4, rfl, h3, by decide, by decide, fun g d4 z4 g0 g1 => ?_⟩
      have kp4 : Kp st H (upd H3 st (.lst [.int d4, .int z4])) := kp3.trans Kp.store
      have h4 : (upd H3 st (.lst [.int d4, .int z4])) st = some (.lst [.int d4, .int z4]) := upd_same
      generalize upd H3 st (.lst [.int d4, .int z4]) = H4 at *
      refine ⟨(by show 4 ≤ sizeLine; decide), fun la hla => ?_⟩
      have na := nst h4 hla
      have hla0 := kp4.gone (Ne.symm na) hla
      have kp5 : Kp st H (upd H4 la (.lst [.str "start", .str "end", .str "mid", .str "mid2"])) := Kp.put kp4 hla0
      have h5 : (upd H4 la (.lst [.str "start", .str "end", .str "mid", .str "mid2"])) st = some (.lst [.int d4, .int z4]) := (upd_ne na).trans h4
      have a5 : (upd H4 la (.lst [.str "start", .str "end", .str "mid", .str "mid2"])) la = some (.lst [.str "start", .str "end", .str "mid", .str "mid2"]) := upd_same
      generalize upd H4 la (.lst [.str "start", .str "end", .str "mid", .str "mid2"]) = H5 at *
      refine ⟨_, rfl, st, d4, z4, 4, rfl, h5, by decide, by decide, fun x d6 z6 x0 x1 => ?_⟩
      have kp6 : Kp st H (upd H5 st (.lst [.int d6, .int z6])) := kp5.trans Kp.store
      have h6 : (upd H5 st (.lst [.int d6, .int z6])) st = some (.lst [.int d6, .int z6]) := upd_same
      have a6 : (upd H5 st (.lst [.int d6, .int z6])) la = some (.lst [.str "start", .str "end", .str "mid", .str "mid2"]) := (upd_ne (Ne.symm na)).trans a5
      generalize upd H5 st (.lst [.int d6, .int z6]) = H6 at *
      obtain ⟨al, hal, lal⟩ := al_at x0 x1
      refine ⟨la, _, _, _, rfl, rfl, SqL.of a6, hal, _, rfl, (by show 3 ≤ sizeLine; decide), fun t ht => ?_⟩
      have nt := nst h6 ht
      have ht0 := kp6.gone (Ne.symm nt) ht
      exact k t (.lined ln g al sd) d6 z6 _ ht0 (Kp.put kp6 ht0) ((upd_ne nt).trans h6) upd_same ⟨goodN_of g0 (by omega), lal, lsd⟩ (lined_kd ln g al sd) trivial
    have hk3 : kd = "table" ∨ kd = "words" ∨ kd = "flow" ∨ kd = "over" := by
      rcases hk with z | z | z
      · exact absurd z c1
      · exact absurd z c2
      · exact z
    have hin : inV (.str kd) L3 = false := by
      rcases hk3 with z | z | z | z <;> rw [z]
      · exact inTable
      · exact inWords
      · exact inFlow
      · exact inOver
    refine iteC hin (hN3 _ _ ?_)
    clear hN3 N3 t3' c1 c2 hk hin
    refine seq_abs fun N4 hN4 => ?_
    by_cases c3 : kd = "table"
    · subst c3
      refine ⟨_, rfl, rfl, _, rfl, iteB keq ?_⟩
      refine seq_abs fun M1 hM1 => ?_
      refine ⟨_, rfl, st, d2, z2, 12, rfl, h3, by decide, by decide, fun c d4 z4 c0 c1 => ?_⟩
      have kp4 : Kp st H (upd H3 st (.lst [.int d4, .int z4])) := kp3.trans Kp.store
      have h4 : (upd H3 st (.lst [.int d4, .int z4])) st = some (.lst [.int d4, .int z4]) := upd_same
      generalize upd H3 st (.lst [.int d4, .int z4]) = H4 at *
      refine ⟨_, _, rfl, rfl, hM1 _ _ ?_⟩
      clear hM1 M1
      refine seq_abs fun M2 hM2 => ?_
      refine ⟨_, rfl, _, rfl, by omega, by omega, ?_⟩
      have en : ((n : Int)).toNat = n := by omega
      rw [en]
      refine comp_rangeS (fun D i xs H9 => ∃ (as : List Addr) (sps : List (Int × Int)) (d9 z9 : Int), xs = as.map V.ref ∧ as.length = i ∧ Kp st H H9 ∧ H9 st = some (.lst [.int d9, .int z9]) ∧ H9 D = some (.lst xs) ∧ H D = none ∧ D ≠ st ∧ RowsOf H9 as (sps.map pairVs) ∧ ∀ p ∈ sps, GoodN p.1 ∧ GoodN p.2) (small (by omega)) (fun D hD => ?_) (fun D i xs H9 ⟨as, _, _, _, e1, e2, _⟩ => by rw [e1, List.length_map, e2]; exact Nat.le_refl _) ?_ ?_
      · have nD := nst h4 hD
        have hD0 := kp4.gone (Ne.symm nD) hD
        exact ⟨[], [], d4, z4, rfl, rfl, Kp.put kp4 hD0, (upd_ne nD).trans h4, upd_same, hD0, Ne.symm nD, RowsOf.nil, fun p hp => nomatch hp⟩
      · rintro D i xs H5 Q' hi ⟨as, sps, d5, z5, rfl, hl5, kp5, h5, hD5, hD0, nD, r5, g5⟩ kk
        refine ⟨_, rfl, _, rfl, st, d5, z5, _, rfl, h5, by omega, by omega, fun x d6 z6 x0 x1 => ?_⟩
        have kp6 : Kp st H5 (upd H5 st (.lst [.int d6, .int z6])) := Kp.store
        have h6 : (upd H5 st (.lst [.int d6, .int z6])) st = some (.lst [.int d6, .int z6]) := upd_same
        generalize upd H5 st (.lst [.int d6, .int z6]) = H6 at *
        refine ⟨_, _, rfl, rfl, _, rfl, st, d6, z6, 12, rfl, h6, by decide, by decide, fun y d7 z7 y0 y1 => ?_⟩
        have kp7 : Kp st H5 (upd H6 st (.lst [.int d7, .int z7])) := kp6.trans Kp.store
        have h7 : (upd H6 st (.lst [.int d7, .int z7])) st = some (.lst [.int d7, .int z7]) := upd_same
        generalize upd H6 st (.lst [.int d7, .int z7]) = H7 at *
        refine ⟨_, _, rfl, rfl, (by show 2 ≤ sizeLine; decide), fun t ht => ?_⟩
        have nt := nst h7 ht
        have hD7 : H7 D = some (.lst (as.map V.ref)) := kp7 _ _ nD hD5
        have nDt : D ≠ t := ne_of_none hD7 ht
        have ht0 : H t = none := (kp5.trans kp7).gone (Ne.symm nt) ht
        have r7 := rowsKT r5 (KT.kp kp7 h5)
        have k1 : KT H7 (upd H7 t (.tup [.int (1 + x), .int (1 + y)])) := KT.put ht
        have hDt : (upd H7 t (.tup [.int (1 + x), .int (1 + y)])) D = some (.lst (as.map V.ref)) := (upd_ne nDt).trans hD7
        have k2 : KT (upd H7 t (.tup [.int (1 + x), .int (1 + y)])) (upd (upd H7 t (.tup [.int (1 + x), .int (1 + y)])) D (.lst (as.map V.ref ++ [V.ref t]))) := KT.lst hDt
        refine kk _ _ hDt ⟨as ++ [t], sps ++ [(1 + x, 1 + y)], d7, z7, by rw [List.map_append]; rfl, by rw [List.length_append, hl5]; rfl, Kp.put (Kp.put (kp5.trans kp7) ht0) hD0, ?_, upd_same, hD0, nD, ?_, fun p hp => ?_⟩
        · rw [upd_ne (Ne.symm nD), upd_ne nt]; exact h7
        · rw [List.map_append]
          exact RowsOf.snoc (rowsKT r7 (k1.trans k2)) (Same.refl _) (k2 _ _ upd_same)
        · rcases List.mem_append.mp hp with z | z
          · exact g5 p z
          · rw [List.mem_singleton.mp z]; exact ⟨goodN_of (by omega) (by omega), goodN_of (by omega) (by omega)⟩
      · rintro D xs H5 ⟨as, sps, d5, z5, rfl, hl5, kp5, h5, hD5, hD0, nD, r5, g5⟩
        refine hM2 _ _ ?_
        refine ⟨_, rfl, _, rfl, st, d5, z5, 1001, rfl, h5, by decide, by decide, fun g d6 z6 g0 g1 => ?_⟩
        have kp6 : Kp st H (upd H5 st (.lst [.int d6, .int z6])) := kp5.trans Kp.store
        have h6 : (upd H5 st (.lst [.int d6, .int z6])) st = some (.lst [.int d6, .int z6]) := upd_same
        have hD6 : (upd H5 st (.lst [.int d6, .int z6])) D = some (.lst (as.map V.ref)) := (upd_ne nD).trans hD5
        have r6 := rowsKT r5 (KT.lst h5 (ys := [.int d6, .int z6]))
        generalize upd H5 st (.lst [.int d6, .int z6]) = H6 at *
        refine ⟨_, rfl, _, rfl, D, _, rfl, .inl ⟨SqL.of hD6, fun ts hts => ?_⟩⟩
        have nts := nst h6 hts
        have hts0 := kp6.gone (Ne.symm nts) hts
        have kp7 : Kp st H (upd H6 ts (.tup (as.map V.ref))) := Kp.put kp6 hts0
        have h7 : (upd H6 ts (.tup (as.map V.ref))) st = some (.lst [.int d6, .int z6]) := (upd_ne nts).trans h6
        have t7 : (upd H6 ts (.tup (as.map V.ref))) ts = some (.tup (as.map V.ref)) := upd_same
        have r7 := rowsKT r6 (KT.put (o := .tup (as.map V.ref)) hts)
        generalize upd H6 ts (.tup (as.map V.ref)) = H7 at *
        refine ⟨(by show 4 ≤ sizeLine; decide), fun t ht => ?_⟩
        have nt := nst h7 ht
        have ht0 := kp7.gone (Ne.symm nt) ht
        have kt := KT.put (o := .tup [.int (1 + c), .int g, .str sd, .ref ts]) ht
        refine k t (.table (1 + c) g sd sps) d6 z6 _ ht0 (Kp.put kp7 ht0) ((upd_ne nt).trans h7) ⟨ts, as, upd_same, kt _ _ t7, rowsKT r7 kt⟩ ⟨goodN_of (by omega) (by omega), goodN_of g0 (by omega), lsd, g5⟩ rfl ?_
        show sps.length = n
        have := r5.1
        rw [List.length_map] at this
        omega
    refine ⟨_, rfl, rfl, _, rfl, iteC (kne c3) (hN4 _ _ ?_)⟩
    clear hN4 N4
    refine seq_abs fun N5 hN5 => ?_
    refine ⟨_, rfl, st, d2, z2, 999, rfl, h3, by decide, by decide, fun jv d4 z4 j0 j1 => ?_⟩
    have kp4 : Kp st H (upd H3 st (.lst [.int d4, .int z4])) := kp3.trans Kp.store
    have h4 : (upd H3 st (.lst [.int d4, .int z4])) st = some (.lst [.int d4, .int z4]) := upd_same
    generalize upd H3 st (.lst [.int d4, .int z4]) = H4 at *
    refine ⟨_, _, rfl, rfl, (by show 3 ≤ sizeLine; decide), fun lj hlj => ?_⟩
    have nj := nst h4 hlj
    have hlj0 := kp4.gone (Ne.symm nj) hlj
    have kp5 : Kp st H (upd H4 lj (.lst [.int 50, .int 0, .int (1 + jv)])) := Kp.put kp4 hlj0
    have h5 : (upd H4 lj (.lst [.int 50, .int 0, .int (1 + jv)])) st = some (.lst [.int d4, .int z4]) := (upd_ne nj).trans h4
    have j5 : (upd H4 lj (.lst [.int 50, .int 0, .int (1 + jv)])) lj = some (.lst [.int 50, .int 0, .int (1 + jv)]) := upd_same
    generalize upd H4 lj (.lst [.int 50, .int 0, .int (1 + jv)]) = H5 at *
    refine ⟨_, rfl, st, d4, z4, 3, rfl, h5, by decide, by decide, fun y d6 z6 y0 y1 => ?_⟩
    have kp6 : Kp st H (upd H5 st (.lst [.int d6, .int z6])) := kp5.trans Kp.store
    have h6 : (upd H5 st (.lst [.int d6, .int z6])) st = some (.lst [.int d6, .int z6]) := upd_same
    have j6 : (upd H5 st (.lst [.int d6, .int z6])) lj = some (.lst [.int 50, .int 0, .int (1 + jv)]) := (upd_ne (Ne.symm nj)).trans j5
    generalize upd H5 st (.lst [.int d6, .int z6]) = H6 at *
    obtain ⟨jn, hj, hjj⟩ := three_at (a := 50) (b := 0) (c := 1 + jv) y0 y1
    refine ⟨lj, _, _, _, rfl, rfl, SqL.of j6, hj, hN5 _ _ ?_⟩
    have gj : GoodN jn := goodN_of (by omega) (by omega)
    clear hN5 N5 j6 j5 h5 kp5 hj hjj h4 kp4 h3 kp3 h2 kp2
    refine seq_abs fun N6 hN6 => ?_
    by_cases c4 : kd = "words"
    · subst c4
      refine ⟨_, rfl, rfl, _, rfl, iteB keq ?_⟩
      refine ⟨_, rfl, st, d6, z6, rfl, h6, fun tw ws d7 z7 H7 htw kp7 h7 hws gws => ?_⟩
      have kp8 := kp6.trans kp7
      refine ⟨_, rfl, (by show 2 ≤ sizeLine; decide), fun t ht => ?_⟩
      have nt := nst h7 ht
      have ht0 := kp8.gone (Ne.symm nt) ht
      exact k t (.words ws jn) d7 z7 _ ht0 (Kp.put kp8 ht0) ((upd_ne nt).trans h7) ⟨tw, upd_same, hws.keep (KT.put ht)⟩ ⟨gws, gj⟩ rfl trivial
    refine ⟨_, rfl, rfl, _, rfl, iteC (kne c4) (hN6 _ _ ?_)⟩
    clear hN6 N6
    refine seq_abs fun N7 hN7 => ?_
    by_cases c5 : kd = "flow"
    · subst c5
      refine ⟨_, rfl, rfl, _, rfl, iteB keq ?_⟩
      refine seq_abs fun M2 hM2 => ?_
      refine ⟨_, rfl, _, rfl, by omega, by omega, ?_⟩
      have en : ((n : Int)).toNat = n := by omega
      rw [en]
      refine comp_rangeS (fun D i xs H9 => ∃ (sds : List Str) (d9 z9 : Int), xs = sds.map V.str ∧ sds.length = i ∧ Kp st H H9 ∧ H9 st = some (.lst [.int d9, .int z9]) ∧ H9 D = some (.lst xs) ∧ H D = none ∧ D ≠ st ∧ ∀ s ∈ sds, s = "left" ∨ s = "right") (small (by omega)) (fun D hD => ?_) (fun D i xs H9 ⟨as, _, _, e1, e2, _⟩ => by rw [e1, List.length_map, e2]; exact Nat.le_refl _) ?_ ?_
      · have nD := nst h6 hD
        have hD0 := kp6.gone (Ne.symm nD) hD
        exact ⟨[], d6, z6, rfl, rfl, Kp.put kp6 hD0, (upd_ne nD).trans h6, upd_same, hD0, Ne.symm nD, fun p hp => nomatch hp⟩
      · rintro D i xs H7 Q' hi ⟨sds, d7, z7, rfl, hl7, kp7, h7, hD7, hD0, nD, g7⟩ kk
        refine ⟨(by show 2 ≤ sizeLine; decide), fun lb hlb => ?_⟩
        have nb := nst h7 hlb
        have nDb : D ≠ lb := ne_of_none hD7 hlb
        have hlb0 := kp7.gone (Ne.symm nb) hlb
        have kp8 : Kp st H (upd H7 lb (.lst [.str "left", .str "right"])) := Kp.put kp7 hlb0
        have h8 : (upd H7 lb (.lst [.str "left", .str "right"])) st = some (.lst [.int d7, .int z7]) := (upd_ne nb).trans h7
        have b8 : (upd H7 lb (.lst [.str "left", .str "right"])) lb = some (.lst [.str "left", .str "right"]) := upd_same
        have D8 : (upd H7 lb (.lst [.str "left", .str "right"])) D = some (.lst (sds.map V.str)) := (upd_ne nDb).trans hD7
        generalize upd H7 lb (.lst [.str "left", .str "right"]) = H8 at *
        refine ⟨_, rfl, st, d7, z7, 2, rfl, h8, by decide, by decide, fun x d9 z9 x0 x1 => ?_⟩
        obtain ⟨sx, hsx, hlx⟩ := lr_at x0 x1
        refine ⟨lb, _, _, _, rfl, rfl, SqL.of ((upd_ne (Ne.symm nb)).trans b8), hsx, ?_⟩
        refine kk _ _ ((upd_ne nD).trans D8) ⟨sds ++ [sx], d9, z9, by rw [List.map_append]; rfl, by rw [List.length_append, hl7]; rfl, Kp.put (kp8.trans Kp.store) hD0, by rw [upd_ne (Ne.symm nD), upd_same], upd_same, hD0, nD, fun p hp => ?_⟩
        rcases List.mem_append.mp hp with z | z
        · exact g7 p z
        · rw [List.mem_singleton.mp z]; exact hlx
      · rintro D xs H7 ⟨sds, d7, z7, rfl, hl7, kp7, h7, hD7, hD0, nD, g7⟩
        refine hM2 _ _ ?_
        refine ⟨_, rfl, D, _, rfl, .inl ⟨SqL.of hD7, fun ts hts => ?_⟩⟩
        have nts := nst h7 hts
        have hts0 := kp7.gone (Ne.symm nts) hts
        have kp8 : Kp st H (upd H7 ts (.tup (sds.map V.str))) := Kp.put kp7 hts0
        have h8 : (upd H7 ts (.tup (sds.map V.str))) st = some (.lst [.int d7, .int z7]) := (upd_ne nts).trans h7
        have t8 : (upd H7 ts (.tup (sds.map V.str))) ts = some (.tup (strsV sds)) := upd_same
        generalize upd H7 ts (.tup (sds.map V.str)) = H8 at *
        refine ⟨_, rfl, st, d7, z7, rfl, h8, fun tw ws d9 z9 H9 htw kp9 h9 hws gws => ?_⟩
        have t9 := kp9 _ _ (Ne.symm nts) t8
        refine ⟨_, rfl, (by show 3 ≤ sizeLine; decide), fun t ht => ?_⟩
        have nt := nst h9 ht
        have ht0 := (kp8.trans kp9).gone (Ne.symm nt) ht
        have kt := KT.put (o := .tup [.ref ts, .ref tw, .int jn]) ht
        exact k t (.flow sds ws jn) d9 z9 _ ht0 (Kp.put (kp8.trans kp9) ht0) ((upd_ne nt).trans h9) ⟨ts, tw, upd_same, kt _ _ t9, hws.keep kt⟩ ⟨g7, gws, gj⟩ rfl hl7
    refine ⟨_, rfl, rfl, _, rfl, iteC (kne c5) (hN7 _ _ ?_)⟩
    clear hN7 N7
    have c6 : kd = "over" := by
      rcases hk3 with z | z | z | z
      · exact absurd z c3
      · exact absurd z c4
      · exact absurd z c5
      · exact z
    subst c6
    refine ⟨_, rfl, _, _, rfl, rfl, _, rfl, by omega, by omega, ?_⟩
    have en : ((n : Int) - 1).toNat = n - 1 := by omega
    rw [en]
    refine comp_rangeS (fun D i xs H9 => ∃ (as : List Addr) (ps : List ((Str × Int) × (Str × Int))) (d9 z9 : Int), xs = as.map V.ref ∧ as.length = i ∧ ps.length = i ∧ Kp st H H9 ∧ H9 st = some (.lst [.int d9, .int z9]) ∧ H9 D = some (.lst xs) ∧ H D = none ∧ D ≠ st ∧ (∀ (i : Nat) (a : Addr) (p : (Str × Int) × (Str × Int)), as[i]? = some a → ps[i]? = some p → ∃ b c, H9 a = some (.tup [.ref b, .ref c]) ∧ H9 b = some (.tup [.str p.1.1, .int p.1.2]) ∧ H9 c = some (.tup [.str p.2.1, .int p.2.2])) ∧ ∀ p ∈ ps, GoodA p.1 ∧ GoodA p.2) (small (by omega)) (fun D hD => ?_) (fun D i xs H9 ⟨as, _, _, _, e1, e2, _⟩ => by rw [e1, List.length_map, e2]; exact Nat.le_refl _) ?_ ?_
    · have nD := nst h6 hD
      have hD0 := kp6.gone (Ne.symm nD) hD
      exact ⟨[], [], d6, z6, rfl, rfl, rfl, Kp.put kp6 hD0, (upd_ne nD).trans h6, upd_same, hD0, Ne.symm nD, (fun i a p e => nomatch e), fun p hp => nomatch hp⟩
    · rintro D i xs H7 Q' hi ⟨as, ps, d7, z7, rfl, hl7, hp7, kp7, h7, hD7, hD0, nD, r7, g7⟩ kk
      refine ⟨_, rfl, st, d7, z7, rfl, h7, fun ta pa d8 z8 H8 hta kp8 h8 ha8 ga => ?_⟩
      refine ⟨_, rfl, st, d8, z8, rfl, h8, fun tb pb d9 z9 H9 htb kp9 h9 hb9 gb => ?_⟩
      have nta : ta ≠ st := fun z => by rw [z, h7] at hta; cases hta
      have ha9 := kp9 _ _ nta ha8
      have kp79 := kp8.trans kp9
      have hD9 : H9 D = some (.lst (as.map V.ref)) := kp79 _ _ nD hD7
      refine ⟨(by show 2 ≤ sizeLine; decide), fun t ht => ?_⟩
      have nt := nst h9 ht
      have nDt : D ≠ t := ne_of_none hD9 ht
      have ht0 : H t = none := (kp7.trans kp79).gone (Ne.symm nt) ht
      have k0 := KT.kp kp79 h7
      have k1 : KT H9 (upd H9 t (.tup [.ref ta, .ref tb])) := KT.put ht
      have hDt : (upd H9 t (.tup [.ref ta, .ref tb])) D = some (.lst (as.map V.ref)) := (upd_ne nDt).trans hD9
      have k2 : KT (upd H9 t (.tup [.ref ta, .ref tb])) (upd (upd H9 t (.tup [.ref ta, .ref tb])) D (.lst (as.map V.ref ++ [V.ref t]))) := KT.lst hDt
      refine kk _ _ hDt ⟨as ++ [t], ps ++ [(pa, pb)], d9, z9, by rw [List.map_append]; rfl, by rw [List.length_append, hl7]; rfl, by rw [List.length_append, hp7]; rfl, Kp.put (Kp.put (kp7.trans kp79) ht0) hD0, ?_, upd_same, hD0, nD, ?_, fun p hp => ?_⟩
      · rw [upd_ne (Ne.symm nD), upd_ne nt]; exact h9
      · intro j a p ea ep
        by_cases hj : j < as.length
        · rw [List.getElem?_append_left hj] at ea
          rw [List.getElem?_append_left (by omega)] at ep
          obtain ⟨b, c, x1, x2, x3⟩ := r7 j a p ea ep
          have kk3 := k0.trans (k1.trans k2)
          exact ⟨b, c, kk3 _ _ x1, kk3 _ _ x2, kk3 _ _ x3⟩
        · have hj2 := get_lt ea
          rw [List.length_append, List.length_singleton] at hj2
          have ej : j = as.length := by omega
          subst ej
          rw [List.getElem?_append_right (Nat.le_refl _), Nat.sub_self] at ea
          rw [List.getElem?_append_right (by omega), show as.length - ps.length = 0 by omega] at ep
          cases ea
          cases ep
          have kk3 := k1.trans k2
          exact ⟨ta, tb, k2 _ _ upd_same, kk3 _ _ ha9, kk3 _ _ hb9⟩
      · rcases List.mem_append.mp hp with z | z
        · exact g7 p z
        · rw [List.mem_singleton.mp z]; exact ⟨ga, gb⟩
    · rintro D xs H7 ⟨as, ps, d7, z7, rfl, hl7, hp7, kp7, h7, hD7, hD0, nD, r7, g7⟩
      refine ⟨D, _, rfl, .inl ⟨SqL.of hD7, fun t ht => ?_⟩⟩
      have nt := nst h7 ht
      have ht0 := kp7.gone (Ne.symm nt) ht
      have kt := KT.put (o := .tup (as.map V.ref)) ht
      refine k t (.over ps) d7 z7 _ ht0 (Kp.put kp7 ht0) ((upd_ne nt).trans h7) ⟨as, upd_same, by omega, fun j a p ea ep => ?_⟩ g7 rfl (by show n ≤ ps.length + 1; omega)
      obtain ⟨b, c, x1, x2, x3⟩ := r7 j a p ea ep
      exact ⟨b, c, kt _ _ x1, kt _ _ x2, kt _ _ x3⟩
end
end B08
namespace B08
open PySem L2 S2 DW
def K2 (st ln : Addr) (H H' : Hp) : Prop := ∀ b o, b ≠ st → b ≠ ln → H b = some o → H' b = some o
theorem K2.trans {st ln : Addr} {H H1 H2 : Hp} (a : K2 st ln H H1) (b : K2 st ln H1 H2) : K2 st ln H H2 := fun c o n m h => b c o n m (a c o n m h)
theorem K2.kp {st ln : Addr} {H H' : Hp} (k : Kp st H H') : K2 st ln H H' := fun b o n _ h => k b o n h
theorem K2.put {st ln D : Addr} {H H' : Hp} {o : HO} (k : K2 st ln H H') (h : H D = none) : K2 st ln H (upd H' D o) := fun b o' n m hb => by
  rw [upd_ne (fun z => by rw [z, h] at hb; cases hb)]
  exact k b o' n m hb
theorem K2.gone {st ln D : Addr} {H H' : Hp} (k : K2 st ln H H') (n : D ≠ st) (m : D ≠ ln) (h : H' D = none) : H D = none := by
  cases e : H D with
  | none => rfl
  | some o => rw [k D o n m e] at h; cases h
theorem K2.st {st ln : Addr} {H : Hp} {o : HO} : K2 st ln H (upd H st o) := fun b o' n _ h => by rw [upd_ne n]; exact h
theorem K2.ln {st ln : Addr} {H : Hp} {o : HO} : K2 st ln H (upd H ln o) := fun b o' _ n h => by rw [upd_ne n]; exact h
theorem KT.k2 {st ln : Addr} {H H' : Hp} {xs ys : List V} (k : K2 st ln H H') (h : H st = some (.lst xs)) (h2 : H ln = some (.lst ys)) : KT H H' := fun b zs e => k b _ (ne_of e h (by intro z; cases z)) (ne_of e h2 (by intro z; cases z)) e
def spLBox (m : Nat) : Sp := fun vs H Q _ => ∃ (st ln : Addr) (d z : Int) (nms : List Str) (dp : Nat) (tb : Bool), vs = [.ref st, .ref ln, .int (dp : Int), .bl tb] ∧ st ≠ ln ∧ H st = some (.lst [.int d, .int z]) ∧ H ln = some (.lst (nms.map V.str)) ∧ nms ≠ [] ∧ nms.length ≤ 20 ∧ (∀ x ∈ nms, x.length ≤ 60) ∧ dp ≤ 8 ∧ 9 ≤ dp + m ∧
  ∀ (a : Addr) (bd : BoxD) (cs : Fo) (nms' : List Str) (d' z' : Int) (H' : Hp), H a = none → K2 st ln H H' → H' st = some (.lst [.int d', .int z']) → H' ln = some (.lst (nms'.map V.str)) → (∀ x ∈ nms', x.length ≤ 60) → nms'.length + (cs.cnt + 1) = nms.length → (Fo.cons a bd cs .nil).Ok H' → (Fo.cons a bd cs .nil).Good → cs.hgt + dp ≤ 8 → Q (.ref a) H'
theorem kd8_at {v : Int} (h0 : 0 ≤ v) (h1 : v < 8) : ∃ x : Str, atI [V.str "leaf", .str "row", .str "column", .str "wrap", .str "table", .str "words", .str "flow", .str "over"] v = some (.str x) ∧ KdC x := by
  obtain ⟨k, rfl, hk⟩ := nat_of (z := v) (n := 8) h0 h1
  match k, hk with
  | 0, _ => exact ⟨"leaf", rfl, .inl rfl⟩
  | 1, _ => exact ⟨"row", rfl, .inr (.inl ⟨0, rfl⟩)⟩
  | 2, _ => exact ⟨"column", rfl, .inr (.inl ⟨1, rfl⟩)⟩
  | 3, _ => exact ⟨"wrap", rfl, .inr (.inl ⟨2, rfl⟩)⟩
  | 4, _ => exact ⟨"table", rfl, .inr (.inr (.inl rfl))⟩
  | 5, _ => exact ⟨"words", rfl, .inr (.inr (.inr (.inl rfl)))⟩
  | 6, _ => exact ⟨"flow", rfl, .inr (.inr (.inr (.inr (.inl rfl))))⟩
  | 7, _ => exact ⟨"over", rfl, .inr (.inr (.inr (.inr (.inr rfl))))⟩
theorem lw_at {v : Int} (h0 : 0 ≤ v) (h1 : v < 2) : ∃ x : Str, atI [V.str "leaf", .str "words"] v = some (.str x) ∧ (x = "leaf" ∨ x = "words") := by
  obtain ⟨k, rfl, hk⟩ := nat_of (z := v) (n := 2) h0 h1
  match k, hk with
  | 0, _ => exact ⟨"leaf", rfl, .inl rfl⟩
  | 1, _ => exact ⟨"words", rfl, .inr rfl⟩
theorem alk_at {a v : Int} (h0 : 0 ≤ v) (h1 : v < 4) : ∃ x : Int, atI [V.int 0, .int 0, .int 1, .int a] v = some (.int x) ∧ (x = 0 ∨ x = 1 ∨ x = a) := by
  obtain ⟨k, rfl, hk⟩ := nat_of (z := v) (n := 4) h0 h1
  match k, hk with
  | 0, _ => exact ⟨0, rfl, .inl rfl⟩
  | 1, _ => exact ⟨0, rfl, .inl rfl⟩
  | 2, _ => exact ⟨1, rfl, .inr (.inl rfl)⟩
  | 3, _ => exact ⟨a, rfl, .inr (.inr rfl)⟩
theorem shr_at {a b c : Addr} {v : Int} (h0 : 0 ≤ v) (h1 : v < 3) : ∃ x : Addr, atI [V.ref a, .ref b, .ref c] v = some (.ref x) ∧ (x = a ∨ x = b ∨ x = c) := by
  obtain ⟨k, rfl, hk⟩ := nat_of (z := v) (n := 3) h0 h1
  match k, hk with
  | 0, _ => exact ⟨a, rfl, .inl rfl⟩
  | 1, _ => exact ⟨b, rfl, .inr (.inl rfl)⟩
  | 2, _ => exact ⟨c, rfl, .inr (.inr rfl)⟩
theorem or_go {u : TE} {i : Nat} {σ : St} {H : Hp} {Q : VK} {b : Bool} (hi : σ[i]? = some (some (.bl b))) (hu : ∀ Q' : VK, (∀ c : Bool, Q' (.bl c) H) → u σ H Q') (k : ∀ c : Bool, Q (.bl c) H) : tOrV (tVar i) u σ H Q :=
  ⟨.bl b, hi, b, rfl, by
    cases b with
    | true => exact k true
    | false => exact hu Q k⟩
section
variable {P : Program} {w : World} {K : PySem.W.Frag} {mg : Str → Option Value} {base : Heap}
abbrev nLBox : List Str := ["_law_stream_here", "_law_names_here", "_law_deep", "_law_tabled", "_law_name", "_law_kind", "_law_many", "_law_parts", "_law_k", "_law_alike", "_law_shares", "_law_rank", "_law_own"]
theorem scLBox : FnScope nLBox ["_law_stream_here", "_law_names_here", "_law_deep", "_law_tabled"] (defScope sLBox) := ⟨rfl, rfl, rfl, by decide +kernel, rfl, by decide +kernel, by decide +kernel⟩
set_option maxHeartbeats 16000000 in
theorem ok_lbox {f f1 f2 f3 : Addr} {fd d1 d2 d3 : FuncData} (F : Fun K "_law_box" "_law_box" sLBox f fd) (N : Names mg)
    (G1 : FnOk P w K mg base CX0 1 f1 d1 ["_law_stream_here", "_law_many"] spTake) (b1 : Binds K d1 ["_law_stream_here", "_law_many"] []) (m1 : mg "_law_take" = some (.ref f1)) (k1 : PySem.W.keepIn K (.ref f1) = true)
    (G2 : FnOk P w K mg base CX0 2 f2 d2 ["_law_stream_here"] spRange) (b2 : Binds K d2 ["_law_stream_here"] []) (m2 : mg "_law_range" = some (.ref f2)) (k2 : PySem.W.keepIn K (.ref f2) = true)
    (G3 : FnOk P w K mg base CX0 3 f3 d3 ["_law_stream_here", "_law_kind", "_law_many"] spLWhat) (b3 : Binds K d3 ["_law_stream_here", "_law_kind", "_law_many"] []) (m3 : mg "_law_what" = some (.ref f3)) (k3 : PySem.W.keepIn K (.ref f3) = true)
    (bF : Binds K fd ["_law_stream_here", "_law_names_here", "_law_deep", "_law_tabled"] []) (mF : mg "_law_box" = some (.ref f)) (kF : PySem.W.keepIn K (.ref f) = true) : ∀ m : Nat, FnOk P w K mg base CX0 (m + 4) f fd ["_law_stream_here", "_law_names_here", "_law_deep", "_law_tabled"] (spLBox m) := by
  intro m
  induction m with
  | zero =>
    refine F.ok scLBox (fun vs H Q E h => ?_) (fun cdv A outer s H vs Q E hr h => ?_)
    · obtain ⟨st, ln, d, z, nms, dp, tb, e, _⟩ := h
      rw [e]
      rfl
    · obtain ⟨st, ln, d, z, nms, dp, tb, e, _, _, _, _, _, _, h1, h2, _⟩ := h
      omega
  | succ m ih =>
    refine F.ok scLBox (fun vs H Q E h => ?_) (fun cdv A outer s H vs Q E hr h => ?_)
    · obtain ⟨st, ln, d, z, nms, dp, tb, e, _⟩ := h
      rw [e]
      rfl
    · obtain ⟨st, ln, d, z, nms, dp, tb, e, nsl, hst, hln, hne, hnl, hnn, hdp, hdm, k⟩ := h
      subst e
      have hr3 := hr.mono (j := 3) (by omega)
      have hr2 := hr.mono (j := 2) (by omega)
      have hr1 := hr.mono (j := 1) (by omega)
      have hu : (A.deeper (PyProof.Rows.envOfC "_law_box" (defScope sLBox) s.heap.objs.size f cdv)).units < cLine := by have := hr.units; omega
      refine ⟨_, pss_cons (ps_set (i := 4) scLBox.nd rfl (Or.inl rfl) (pe_bm0 PySem.F.plainAttrs_list PySem.F.slot_list_pop PySem.F.type_list_pop mt_pop (pv 1)))
        (pss_cons (ps_set (i := 5) scLBox.nd rfl (Or.inl rfl) (pe_ix ix_list (pe_lst (pa_cons pe_str (pa_cons pe_str (pa_cons pe_str (pa_cons pe_str (pa_cons pe_str (pa_cons pe_str (pa_cons pe_str (pa_cons pe_str pa_nil))))))))) (pe_call G1 hr1 (by rfl) m1 k1 b1 .nil pass0 (pa_cons (pv 0) (pa_cons pe_int pa_nil))) (fun _ _ => rfl)))
        (pss_cons (ps_set (i := 6) scLBox.nd rfl (Or.inl rfl) (pe_callB (call_min2 rfl) (by rfl) N.min PyProof.Rows.boot_min (pa_cons (pe_call G1 hr1 (by rfl) m1 k1 b1 .nil pass0 (pa_cons (pv 0) (pa_cons pe_int pa_nil))) (pa_cons (pe_callB call_len_seq (by rfl) N.len PySem.boot_len (pa_cons (pv 1) pa_nil)) pa_nil))))
        (pss_cons (ps_if (pw_or (pt_cmpR op_gt (pv 2) pe_int (nomark _)) (pw_or1 (pw_and (pt_cmpR op_eq (pv 6) pe_int (nomark _)) (pw_and1 (pt_cmpR op_eq (pv 5) pe_str (nomark _)))).pt)).pt
          (pss_one (ps_set (i := 5) scLBox.nd rfl (Or.inl rfl) (pe_ix ix_list (pe_lst (pa_cons pe_str (pa_cons pe_str pa_nil))) (pe_call G1 hr1 (by rfl) m1 k1 b1 .nil pass0 (pa_cons (pv 0) (pa_cons pe_int pa_nil))) (fun _ _ => rfl)))) pss_nil)
        (pss_cons (ps_if (pt_cmpR (r := rIn K false) op_in_seq (pv 5) (pe_tup (pa_cons pe_str (pa_cons pe_str pa_nil))) (by rfl)) (pss_one (ps_set (i := 6) scLBox.nd rfl (Or.inl rfl) pe_int)) pss_nil)
        (pss_cons (ps_set (i := 7) scLBox.nd rfl (Or.inl rfl) (pe_lst pa_nil))
        (pss_cons (ps_for PassesOwn.never rfl (pi_range1 (by rfl) N.range (pa_cons (pv 6) pa_nil)) (pg_name (i := 8) scLBox.nd rfl (Or.inl rfl))
          (pss_one (ps_if (pt_cmpR (op_neN hu) (pv 1) (pe_lst pa_nil) (nomark _))
            (pss_one (ps_expr (pe_bm PySem.F.plainAttrs_list PySem.F.slot_list_append PySem.F.type_list_append mt_append (pv 7) (pa_cons (pe_call ih hr (by rfl) mF kF bF .nil pass0 (pa_cons (pv 0) (pa_cons (pv 1) (pa_cons (pe_op op_add (pv 2) pe_int) (pa_cons (pe_or (pv 3) (pe_one (pe_cmpR op_eq (pv 5) pe_str (nomark _)))) pa_nil))))) pa_nil)))) pss_nil)))
        (pss_cons (ps_set (i := 9) scLBox.nd rfl (Or.inl rfl) pe_int)
        (pss_cons (ps_if (pw_and (pt_cmpR (r := rIn K false) op_in_seq (pv 5) (pe_tup (pa_cons pe_str (pa_cons pe_str (pa_cons pe_str (pa_cons pe_str pa_nil))))) (by rfl)) (pw_and1 (pt_not (pt_val (pv 3))))).pt
          (pss_one (ps_set (i := 9) scLBox.nd rfl (Or.inl rfl) (pe_ix ix_list (pe_lst (pa_cons pe_int (pa_cons pe_int (pa_cons pe_int (pa_cons (pe_op op_add pe_int (pe_call G1 hr1 (by rfl) m1 k1 b1 .nil pass0 (pa_cons (pv 0) (pa_cons pe_int pa_nil)))) pa_nil))))) (pe_call G1 hr1 (by rfl) m1 k1 b1 .nil pass0 (pa_cons (pv 0) (pa_cons pe_int pa_nil))) (fun _ _ => rfl)))) pss_nil)
        (pss_cons (ps_set (i := 10) scLBox.nd rfl (Or.inl rfl) (pe_ix ix_list (pe_lst (pa_cons (pe_tup (pa_cons pe_int (pa_cons pe_int pa_nil))) (pa_cons (pe_tup (pa_cons pe_int (pa_cons pe_int pa_nil))) (pa_cons (pe_tup (pa_cons (pe_call G1 hr1 (by rfl) m1 k1 b1 .nil pass0 (pa_cons (pv 0) (pa_cons pe_int pa_nil))) (pa_cons (pe_call G1 hr1 (by rfl) m1 k1 b1 .nil pass0 (pa_cons (pv 0) (pa_cons pe_int pa_nil))) pa_nil))) pa_nil)))) (pe_call G1 hr1 (by rfl) m1 k1 b1 .nil pass0 (pa_cons (pv 0) (pa_cons pe_int pa_nil))) (fun _ _ => rfl)))
        (pss_cons (ps_set (i := 11) scLBox.nd rfl (Or.inl rfl) (pe_op op_mul (pe_call G1 hr1 (by rfl) m1 k1 b1 .nil pass0 (pa_cons (pv 0) (pa_cons pe_int pa_nil))) (pe_call G1 hr1 (by rfl) m1 k1 b1 .nil pass0 (pa_cons (pv 0) (pa_cons pe_int pa_nil)))))
        (pss_cons (ps_set (i := 12) scLBox.nd rfl (Or.inl rfl) (pe_tup (pa_cons (pe_call G2 hr2 (by rfl) m2 k2 b2 .nil pass0 (pa_cons (pv 0) pa_nil)) (pa_cons (pe_call G2 hr2 (by rfl) m2 k2 b2 .nil pass0 (pa_cons (pv 0) pa_nil)) (pa_cons (pe_ix ix_tup (pv 10) pe_int (fun _ _ => rfl)) (pa_cons (pe_ix ix_tup (pv 10) pe_int (fun _ _ => rfl)) (pa_cons (pv 11) (pa_cons (pv 9) pa_nil))))))))
        (pss_one (ps_ret (pe_tup (pa_cons (pv 5) (pa_cons (pv 4) (pa_cons (pv 12) (pa_cons (pe_call G3 hr3 (by rfl) m3 k3 b3 .nil pass0 (pa_cons (pv 0) (pa_cons (pv 5) (pa_cons (pe_callB call_len_seq (by rfl) N.len PySem.boot_len (pa_cons (pv 7) pa_nil)) pa_nil)))) (pa_cons (pe_callTy call_tuple_of (by rfl) N.tuple PyProof.Rows.boot_tuple (pa_cons (pv 7) pa_nil)) pa_nil))))))))))))))))))), ?_⟩
      -- the name
      refine seq_abs fun N1 hN1 => ?_
      have hlast : (nms.map V.str)[(nms.map V.str).length - 1]? = some (.str (nms.getLast hne)) := by
        rw [List.length_map, List.getElem?_map, ← List.getLast?_eq_getElem?, List.getLast?_eq_some_getLast hne]
        rfl
      have hnm : (nms.getLast hne).length ≤ 60 := hnn _ (List.getLast_mem hne)
      generalize nms.getLast hne = nm at *
      refine ⟨_, rfl, .inl ⟨rfl, _, SqL.of hln⟩, ln, _, _, rfl, rfl, hln, hlast, hN1 _ _ ?_⟩
      clear hN1 N1
      have kA : K2 st ln H (upd H ln (.lst (nms.map V.str).dropLast)) := K2.ln
      have sA : (upd H ln (.lst (nms.map V.str).dropLast)) st = some (.lst [.int d, .int z]) := (upd_ne nsl).trans hst
      have nA : (upd H ln (.lst (nms.map V.str).dropLast)) ln = some (.lst (nms.dropLast.map V.str)) := by rw [upd_same, List.map_dropLast]
      have n0l : nms.dropLast.length + 1 = nms.length := by
        rw [List.length_dropLast]
        have := List.length_pos_iff.mpr hne
        omega
      have n0n : ∀ x ∈ nms.dropLast, x.length ≤ 60 := fun x hx => hnn x (List.dropLast_subset _ hx)
      generalize upd H ln (.lst (nms.map V.str).dropLast) = H1 at *
      generalize nms.dropLast = n0 at *
      -- the kind
      refine seq_abs fun N2 hN2 => ?_
      refine ⟨(by show 8 ≤ sizeLine; decide), fun l8 hl8 => ?_⟩
      have n8 := nst sA hl8
      have m8 := nst nA hl8
      have hl80 := kA.gone (Ne.symm n8) (Ne.symm m8) hl8
      have kB : K2 st ln H (upd H1 l8 (.lst [.str "leaf", .str "row", .str "column", .str "wrap", .str "table", .str "words", .str "flow", .str "over"])) := kA.put hl80
      have sB : (upd H1 l8 (.lst [.str "leaf", .str "row", .str "column", .str "wrap", .str "table", .str "words", .str "flow", .str "over"])) st = some (.lst [.int d, .int z]) := (upd_ne n8).trans sA
      have nB : (upd H1 l8 (.lst [.str "leaf", .str "row", .str "column", .str "wrap", .str "table", .str "words", .str "flow", .str "over"])) ln = some (.lst (n0.map V.str)) := (upd_ne m8).trans nA
      have l8B : (upd H1 l8 (.lst [.str "leaf", .str "row", .str "column", .str "wrap", .str "table", .str "words", .str "flow", .str "over"])) l8 = some (.lst [.str "leaf", .str "row", .str "column", .str "wrap", .str "table", .str "words", .str "flow", .str "over"]) := upd_same
      generalize upd H1 l8 (.lst [.str "leaf", .str "row", .str "column", .str "wrap", .str "table", .str "words", .str "flow", .str "over"]) = H2 at *
      refine ⟨_, rfl, st, d, z, 8, rfl, sB, by decide, by decide, fun v3 d3 z3 v30 v31 => ?_⟩
      have kC : K2 st ln H (upd H2 st (.lst [.int d3, .int z3])) := kB.trans K2.st
      have sC : (upd H2 st (.lst [.int d3, .int z3])) st = some (.lst [.int d3, .int z3]) := upd_same
      have nC : (upd H2 st (.lst [.int d3, .int z3])) ln = some (.lst (n0.map V.str)) := (upd_ne (Ne.symm nsl)).trans nB
      have l8C := (upd_ne (H := H2) (o := .lst [.int d3, .int z3]) (Ne.symm n8)).trans l8B
      generalize upd H2 st (.lst [.int d3, .int z3]) = H3 at *
      obtain ⟨kd0, hkd0, hkc0⟩ := kd8_at v30 v31
      refine ⟨l8, _, _, _, rfl, rfl, SqL.of l8C, hkd0, hN2 _ _ ?_⟩
      clear hN2 N2 l8C l8B nB sB kB nA sA kA hkd0
      -- how many
      refine seq_abs fun N3 hN3 => ?_
      refine ⟨_, rfl, st, d3, z3, 5, rfl, sC, by decide, by decide, fun v4 d4 z4 v40 v41 => ?_⟩
      have kD : K2 st ln H (upd H3 st (.lst [.int d4, .int z4])) := kC.trans K2.st
      have sD : (upd H3 st (.lst [.int d4, .int z4])) st = some (.lst [.int d4, .int z4]) := upd_same
      have nD : (upd H3 st (.lst [.int d4, .int z4])) ln = some (.lst (n0.map V.str)) := (upd_ne (Ne.symm nsl)).trans nC
      generalize upd H3 st (.lst [.int d4, .int z4]) = H4 at *
      refine ⟨_, rfl, ln, _, rfl, .inl (SqL.of nD), _, _, rfl, hN3 _ _ ?_⟩
      rw [List.length_map]
      have hmn : 0 ≤ (if (n0.length : Int) < v4 then (n0.length : Int) else v4) ∧ (if (n0.length : Int) < v4 then (n0.length : Int) else v4) ≤ 4 := by split <;> omega
      generalize (if (n0.length : Int) < v4 then (n0.length : Int) else v4) = mn0 at *
      clear hN3 N3 kC sC nC
      -- no parts so deep
      refine seq_abs fun N4 hN4 => ?_
      have go4 : ∀ (kd : Str) (dd zz : Int) (H5 : Hp), KdC kd → (dp = 8 → kd = "leaf" ∨ kd = "words") → K2 st ln H H5 → H5 st = some (.lst [.int dd, .int zz]) → H5 ln = some (.lst (n0.map V.str)) → N4 [some (.ref st), some (.ref ln), some (.int (dp : Int)), some (.bl tb), some (.str nm), some (.str kd), some (.int mn0), none, none, none, none, none, none] H5 := fun kd dd zz H5 hkd hk8 kE sE nE => by
        refine hN4 _ _ ?_
        clear hN4 N4
        refine seq_abs fun N5 hN5 => ?_
        refine ⟨_, rfl, (by show 2 ≤ sizeLine; decide), fun t2 ht2 => ?_⟩
        have n2 := nst sE ht2
        have m2' := nst nE ht2
        have ht20 := kE.gone (Ne.symm n2) (Ne.symm m2') ht2
        have kG : K2 st ln H (upd H5 t2 (.tup [.str "leaf", .str "words"])) := kE.put ht20
        have sG : (upd H5 t2 (.tup [.str "leaf", .str "words"])) st = some (.lst [.int dd, .int zz]) := (upd_ne n2).trans sE
        have nG : (upd H5 t2 (.tup [.str "leaf", .str "words"])) ln = some (.lst (n0.map V.str)) := (upd_ne m2').trans nE
        have tG : (upd H5 t2 (.tup [.str "leaf", .str "words"])) t2 = some (.tup ((["leaf", "words"] : List Str).map V.str)) := upd_same
        generalize upd H5 t2 (.tup [.str "leaf", .str "words"]) = H6 at *
        have go5 : ∀ mn : Int, 0 ≤ mn → mn ≤ 4 → (dp = 8 → mn = 0) → N5 [some (.ref st), some (.ref ln), some (.int (dp : Int)), some (.bl tb), some (.str nm), some (.str kd), some (.int mn), none, none, none, none, none, none] H6 := fun mn hm0 hm4 hm8 => by
          refine hN5 _ _ ?_
          clear hN5 N5
          -- the parts
          refine seq_abs fun N6 hN6 => ?_
          refine ⟨smallE (by simp), fun lp hlp => hN6 _ _ ?_⟩
          clear hN6 N6
          have np := nst sG hlp
          have mp := nst nG hlp
          have hlp0 := kG.gone (Ne.symm np) (Ne.symm mp) hlp
          have kI : K2 st ln H (upd H6 lp (.lst [])) := kG.put hlp0
          have sI : (upd H6 lp (.lst [])) st = some (.lst [.int dd, .int zz]) := (upd_ne np).trans sG
          have nI : (upd H6 lp (.lst [])) ln = some (.lst (n0.map V.str)) := (upd_ne mp).trans nG
          have pI : (upd H6 lp (.lst [])) lp = some (.lst (Fo.nil.tops.map V.ref)) := upd_same
          generalize upd H6 lp (.lst []) = H7 at *
          refine seq_abs fun N7 hN7 => ?_
          refine ⟨_, rfl, mn, rfl, by omega, by omega, ?_⟩
          refine for_range (n := mn.toNat) (fun i σ H9 => ∃ (u8 : Option V) (F9 : Fo) (n9 : List Str) (d9 z9 : Int), σ = [some (.ref st), some (.ref ln), some (.int (dp : Int)), some (.bl tb), some (.str nm), some (.str kd), some (.int mn), some (.ref lp), u8, none, none, none, none] ∧ K2 st ln H H9 ∧ H9 st = some (.lst [.int d9, .int z9]) ∧ H9 ln = some (.lst (n9.map V.str)) ∧ (∀ x ∈ n9, x.length ≤ 60) ∧ n9.length + (F9.cnt + 1) = nms.length ∧ H9 lp = some (.lst (F9.tops.map V.ref)) ∧ F9.Ok H9 ∧ F9.Good ∧ F9.hgt + dp ≤ 8 ∧ F9.tops.length ≤ i)
            ⟨none, .nil, n0, dd, zz, rfl, kI, sI, nI, n0n, n0l, pI, trivial, trivial, (by show 0 + dp ≤ 8; omega), Nat.le_refl _⟩ ?_ ?_
          · rintro i σ H8 hi ⟨u8, F8, n8', d8, z8, rfl, k8, s8, nn8, g8, c8, p8, ok8, good8, hg8, ht8⟩
            refine ⟨_, rfl, smallE (by simp), fun le hle => ?_⟩
            have ne1 := nst s8 hle
            have ne2 := nst nn8 hle
            have ne3 := nst p8 hle
            have hle0 := k8.gone (Ne.symm ne1) (Ne.symm ne2) hle
            have k9 : K2 st ln H (upd H8 le (.lst [])) := k8.put hle0
            have s9 : (upd H8 le (.lst [])) st = some (.lst [.int d8, .int z8]) := (upd_ne ne1).trans s8
            have nn9 : (upd H8 le (.lst [])) ln = some (.lst (n8'.map V.str)) := (upd_ne ne2).trans nn8
            have p9 : (upd H8 le (.lst [])) lp = some (.lst (F8.tops.map V.ref)) := (upd_ne ne3).trans p8
            have e9 : (upd H8 le (.lst [])) le = some (.lst []) := upd_same
            have ok9 := ok8.keep (KT.put (o := .lst []) hle)
            generalize upd H8 le (.lst []) = H9 at *
            refine ⟨ln, le, _, rfl, rfl, SqL.of nn9, SqL.of e9, _, rfl, ?_⟩
            cases n8' with
            | nil => exact iteF ⟨_, F8, [], d8, z8, rfl, k9, s9, nn9, g8, c8, p9, ok9, good8, hg8, by omega⟩
            | cons x r =>
              have hmp : 0 < mn.toNat := by omega
              have hdp8 : dp + 1 ≤ 8 := by
                rcases Nat.lt_or_ge dp 8 with z | z
                · omega
                · have := hm8 (by omega)
                  rw [this] at hmp
                  exact absurd hmp (by decide)
              refine iteT ⟨_, rfl, .inl ⟨rfl, _, SqL.of p9⟩, _, rfl, _, rfl, _, rfl, _, _, rfl, rfl, or_go rfl (fun Q' kq => ⟨_, rfl, rfl, kq _⟩) fun tb' => ?_⟩
              refine ⟨st, ln, d8, z8, x :: r, dp + 1, tb', by rw [Int.natCast_add]; rfl, nsl, s9, nn9, by simp, by omega, g8, hdp8, by omega, fun a bd cs nms' d' z' H' ha kk ss nn gg cc okk good hh => ?_⟩
              have hap : lp ≠ a := fun z => by rw [← z, p9] at ha; cases ha
              have pp : H' lp = some (.lst (F8.tops.map V.ref)) := kk _ _ (Ne.symm np) (Ne.symm mp) p9
              have k12 := k9.trans kk
              have ok12 := ok9.keep (KT.k2 kk s9 nn9)
              refine ⟨lp, _, _, rfl, rfl, pp, small (by rw [List.length_map]; omega), ?_⟩
              have ktl := KT.lst (ys := F8.tops.map V.ref ++ [V.ref a]) pp
              have hcn : (Fo.cons a bd cs .nil).cnt = cs.cnt + 0 + 1 := rfl
              refine ⟨_, F8.app (.cons a bd cs .nil), nms', d', z', rfl, k12.put hlp0, (upd_ne np).trans ss, (upd_ne mp).trans nn, gg, ?_, ?_, ?_, Fo.good_app.mpr ⟨good8, good⟩, ?_, ?_⟩
              · rw [Fo.cnt_app, hcn]
                rw [List.length_cons] at c8 cc
                omega
              · rw [upd_same, Fo.tops_app, List.map_append]
                rfl
              · exact Fo.ok_app.mpr ⟨ok12.keep ktl, okk.keep ktl⟩
              · rw [Fo.hgt_app]
                show max F8.hgt (max (cs.hgt + 1) 0) + dp ≤ 8
                omega
              · rw [Fo.tops_app, List.length_append]
                show F8.tops.length + 1 ≤ i + 1
                omega
          rintro σ H8 ⟨u8, F8, n8', d8, z8, rfl, k8, s8, nn8, g8, c8, p8, ok8, good8, hg8, ht8⟩
          refine hN7 _ _ ?_
          clear hN7 N7
          refine seq_abs fun N8 hN8 => hN8 _ _ ?_
          clear hN8 N8
          refine seq_abs fun N9 hN9 => ?_
          have go9 : ∀ (al d9 z9 : Int) (H9 : Hp), GoodN al → K2 st ln H H9 → H9 st = some (.lst [.int d9, .int z9]) → H9 ln = some (.lst (n8'.map V.str)) → H9 lp = some (.lst (F8.tops.map V.ref)) → F8.Ok H9 → N9 [some (.ref st), some (.ref ln), some (.int (dp : Int)), some (.bl tb), some (.str nm), some (.str kd), some (.int mn), some (.ref lp), u8, some (.int al), none, none, none] H9 := fun al d9 z9 H9 gal k9 s9 nn9 p9 ok9 => by
            refine hN9 _ _ ?_
            clear hN9 N9
            -- shares
            refine seq_abs fun N10 hN10 => ?_
            refine ⟨(by show 2 ≤ sizeLine; decide), fun t1 ht1 => ?_⟩
            have a1 := nst s9 ht1
            have a2 := nst nn9 ht1
            have a3 := nst p9 ht1
            have kt1 := KT.put (o := .tup [.int 1, .int 1]) ht1
            have k10 : K2 st ln H (upd H9 t1 (.tup [.int 1, .int 1])) := k9.put (k9.gone (Ne.symm a1) (Ne.symm a2) ht1)
            have s10 := (upd_ne (H := H9) (o := .tup [.int 1, .int 1]) a1).trans s9
            have nn10 := (upd_ne (H := H9) (o := .tup [.int 1, .int 1]) a2).trans nn9
            have p10 := (upd_ne (H := H9) (o := .tup [.int 1, .int 1]) a3).trans p9
            have t10 : (upd H9 t1 (.tup [.int 1, .int 1])) t1 = some (.tup [.int 1, .int 1]) := upd_same
            have ok10 := ok9.keep kt1
            generalize upd H9 t1 (.tup [.int 1, .int 1]) = H10 at *
            refine ⟨(by show 2 ≤ sizeLine; decide), fun t2 ht2 => ?_⟩
            have b1' := nst s10 ht2
            have b2' := nst nn10 ht2
            have b3' := nst p10 ht2
            have kt2 := KT.put (o := .tup [.int 0, .int 1]) ht2
            have k11 : K2 st ln H (upd H10 t2 (.tup [.int 0, .int 1])) := k10.put (k10.gone (Ne.symm b1') (Ne.symm b2') ht2)
            have s11 := (upd_ne (H := H10) (o := .tup [.int 0, .int 1]) b1').trans s10
            have nn11 := (upd_ne (H := H10) (o := .tup [.int 0, .int 1]) b2').trans nn10
            have p11 := (upd_ne (H := H10) (o := .tup [.int 0, .int 1]) b3').trans p10
            have t11 := kt2 _ _ t10
            have u11 : (upd H10 t2 (.tup [.int 0, .int 1])) t2 = some (.tup [.int 0, .int 1]) := upd_same
            have ok11 := ok10.keep kt2
            generalize upd H10 t2 (.tup [.int 0, .int 1]) = H11 at *
            refine ⟨_, rfl, st, d9, z9, 100, rfl, s11, by decide, by decide, fun x1 d12 z12 x10 x11 => ?_⟩
            have kt12 := KT.lst (ys := [.int d12, .int z12]) s11
            have k12 : K2 st ln H (upd H11 st (.lst [.int d12, .int z12])) := k11.trans K2.st
            have s12 : (upd H11 st (.lst [.int d12, .int z12])) st = some (.lst [.int d12, .int z12]) := upd_same
            have nn12 := (upd_ne (H := H11) (o := .lst [.int d12, .int z12]) (Ne.symm nsl)).trans nn11
            have p12 := (upd_ne (H := H11) (o := .lst [.int d12, .int z12]) (Ne.symm np)).trans p11
            generalize upd H11 st (.lst [.int d12, .int z12]) = H12 at *
            refine ⟨_, rfl, st, d12, z12, 100, rfl, s12, by decide, by decide, fun x2 d13 z13 x20 x21 => ?_⟩
            have kt13 := kt12.trans (KT.lst (ys := [.int d13, .int z13]) s12)
            have k13 : K2 st ln H (upd H12 st (.lst [.int d13, .int z13])) := k12.trans K2.st
            have s13 : (upd H12 st (.lst [.int d13, .int z13])) st = some (.lst [.int d13, .int z13]) := upd_same
            have nn13 := (upd_ne (H := H12) (o := .lst [.int d13, .int z13]) (Ne.symm nsl)).trans nn12
            have p13 := (upd_ne (H := H12) (o := .lst [.int d13, .int z13]) (Ne.symm np)).trans p12
            generalize upd H12 st (.lst [.int d13, .int z13]) = H13 at *
            refine ⟨(by show 2 ≤ sizeLine; decide), fun t3 ht3 => ?_⟩
            have c1' := nst s13 ht3
            have c2' := nst nn13 ht3
            have c3' := nst p13 ht3
            have kt14 := kt13.trans (KT.put (o := .tup [.int x1, .int x2]) ht3)
            have k14 : K2 st ln H (upd H13 t3 (.tup [.int x1, .int x2])) := k13.put (k13.gone (Ne.symm c1') (Ne.symm c2') ht3)
            have s14 := (upd_ne (H := H13) (o := .tup [.int x1, .int x2]) c1').trans s13
            have nn14 := (upd_ne (H := H13) (o := .tup [.int x1, .int x2]) c2').trans nn13
            have p14 := (upd_ne (H := H13) (o := .tup [.int x1, .int x2]) c3').trans p13
            have v14 : (upd H13 t3 (.tup [.int x1, .int x2])) t3 = some (.tup [.int x1, .int x2]) := upd_same
            generalize upd H13 t3 (.tup [.int x1, .int x2]) = H14 at *
            refine ⟨(by show 3 ≤ sizeLine; decide), fun ls hls => ?_⟩
            have d1' := nst s14 hls
            have d2' := nst nn14 hls
            have d3' := nst p14 hls
            have kt15 := kt14.trans (KT.put (o := .lst [.ref t1, .ref t2, .ref t3]) hls)
            have v15 := KT.put (o := .lst [.ref t1, .ref t2, .ref t3]) hls _ _ v14
            have k15 : K2 st ln H (upd H14 ls (.lst [.ref t1, .ref t2, .ref t3])) := k14.put (k14.gone (Ne.symm d1') (Ne.symm d2') hls)
            have s15 := (upd_ne (H := H14) (o := .lst [.ref t1, .ref t2, .ref t3]) d1').trans s14
            have nn15 := (upd_ne (H := H14) (o := .lst [.ref t1, .ref t2, .ref t3]) d2').trans nn14
            have p15 := (upd_ne (H := H14) (o := .lst [.ref t1, .ref t2, .ref t3]) d3').trans p14
            have l15 : (upd H14 ls (.lst [.ref t1, .ref t2, .ref t3])) ls = some (.lst [.ref t1, .ref t2, .ref t3]) := upd_same
            generalize upd H14 ls (.lst [.ref t1, .ref t2, .ref t3]) = H15 at *
            refine ⟨_, rfl, st, d13, z13, 3, rfl, s15, by decide, by decide, fun x3 d16 z16 x30 x31 => ?_⟩
            have kt16a := KT.lst (ys := [.int d16, .int z16]) s15
            have kt16 := kt15.trans kt16a
            have v16 := kt16a _ _ v15
            have k16 : K2 st ln H (upd H15 st (.lst [.int d16, .int z16])) := k15.trans K2.st
            have s16 : (upd H15 st (.lst [.int d16, .int z16])) st = some (.lst [.int d16, .int z16]) := upd_same
            have nn16 := (upd_ne (H := H15) (o := .lst [.int d16, .int z16]) (Ne.symm nsl)).trans nn15
            have p16 := (upd_ne (H := H15) (o := .lst [.int d16, .int z16]) (Ne.symm np)).trans p15
            have l16 := (upd_ne (H := H15) (o := .lst [.int d16, .int z16]) (Ne.symm d1')).trans l15
            generalize upd H15 st (.lst [.int d16, .int z16]) = H16 at *
            obtain ⟨tx, htx, htc⟩ := shr_at (a := t1) (b := t2) (c := t3) x30 x31
            refine ⟨ls, _, _, _, rfl, rfl, SqL.of l16, htx, hN10 _ _ ?_⟩
            have hsh : ∃ g1 g2 : Int, H16 tx = some (.tup [.int g1, .int g2]) ∧ GoodN g1 ∧ GoodN g2 := by
              rcases htc with z | z | z <;> rw [z]
              · exact ⟨_, _, kt16 _ _ t11, goodN_of (by decide) (by decide), goodN_of (by decide) (by decide)⟩
              · exact ⟨_, _, kt16 _ _ u11, goodN_of (by decide) (by decide), goodN_of (by decide) (by decide)⟩
              · exact ⟨_, _, v16, goodN_of x10 (by omega), goodN_of x20 (by omega)⟩
            obtain ⟨g1, g2, hsx, gg1, gg2⟩ := hsh
            have ok16 := ok11.keep kt16
            clear hN10 N10 htc htx l16 v16 kt16 kt16a kt15 kt14 kt13 kt12 v15 v14 t11 u11 t10 kt1 kt2 ok10 ok11 l15
            clear k15 s15 nn15 p15 k14 s14 nn14 p14 k13 s13 nn13 p13 k12 s12 nn12 p12 k11 s11 nn11 p11 k10 s10 nn10 p10
            -- rank
            refine seq_abs fun N11 hN11 => ?_
            refine ⟨_, rfl, st, d16, z16, 10, rfl, s16, by decide, by decide, fun r1 d17 z17 r10 r11 => ?_⟩
            refine ⟨_, rfl, st, d17, z17, 2, rfl, upd_same, by decide, by decide, fun r2 d18 z18 r20 r21 => ?_⟩
            have kt18 : KT H16 (upd (upd H16 st (.lst [.int d17, .int z17])) st (.lst [.int d18, .int z18])) := (KT.lst s16).trans (KT.lst upd_same)
            have k18 : K2 st ln H (upd (upd H16 st (.lst [.int d17, .int z17])) st (.lst [.int d18, .int z18])) := (k16.trans K2.st).trans K2.st
            have s18 : (upd (upd H16 st (.lst [.int d17, .int z17])) st (.lst [.int d18, .int z18])) st = some (.lst [.int d18, .int z18]) := upd_same
            have nn18 : (upd (upd H16 st (.lst [.int d17, .int z17])) st (.lst [.int d18, .int z18])) ln = some (.lst (n8'.map V.str)) := by rw [upd_ne (Ne.symm nsl), upd_ne (Ne.symm nsl)]; exact nn16
            have p18 : (upd (upd H16 st (.lst [.int d17, .int z17])) st (.lst [.int d18, .int z18])) lp = some (.lst (F8.tops.map V.ref)) := by rw [upd_ne (Ne.symm np), upd_ne (Ne.symm np)]; exact p16
            generalize upd (upd H16 st (.lst [.int d17, .int z17])) st (.lst [.int d18, .int z18]) = H18 at *
            have hrk : GoodN (r1 * r2) := by
              have e : r2 = 0 ∨ r2 = 1 := by omega
              rcases e with e | e <;> rw [e]
              · rw [Int.mul_zero]; exact goodN0
              · rw [Int.mul_one]; exact goodN_of r10 (by omega)
            refine ⟨_, _, rfl, rfl, .inl ⟨by omega, by omega⟩, hN11 _ _ ?_⟩
            clear hN11 N11
            -- own
            refine seq_abs fun N12 hN12 => ?_
            refine ⟨_, rfl, st, d18, z18, rfl, s18, fun ta w0 w1 d19 z19 H19 hta kp19 s19 a19 gw0 gw1 => ?_⟩
            have nta : ta ≠ st := fun z => by rw [z, s18] at hta; cases hta
            refine ⟨_, rfl, st, d19, z19, rfl, s19, fun tv h0 h1 d20 z20 H20 htv kp20 s20 v20 gh0 gh1 => ?_⟩
            have a20 := kp20 _ _ nta a19
            have kp1920 := kp19.trans kp20
            have k20 := k18.trans (K2.kp (ln := ln) kp1920)
            have nn20 := kp1920 _ _ (Ne.symm nsl) nn18
            have p20 := kp1920 _ _ (Ne.symm np) p18
            have kt20 := kt18.trans (KT.kp kp1920 s18)
            have sx20 := kt20 _ _ hsx
            refine ⟨_, rfl, tx, _, _, _, rfl, rfl, SqT.of sx20, atI_nat (j := 0) rfl, _, rfl, tx, _, _, _, rfl, rfl, SqT.of sx20, atI_nat (j := 1) rfl, _, rfl, _, rfl, (by show 6 ≤ sizeLine; decide), fun to hto => hN12 _ _ ?_⟩
            clear hN12 N12
            have e1' := nst s20 hto
            have e2' := nst nn20 hto
            have e3' := nst p20 hto
            have ktO := KT.put (o := .tup [.ref ta, .ref tv, .int g1, .int g2, .int (r1 * r2), .int al]) hto
            have k21 : K2 st ln H (upd H20 to (.tup [.ref ta, .ref tv, .int g1, .int g2, .int (r1 * r2), .int al])) := k20.put (k20.gone (Ne.symm e1') (Ne.symm e2') hto)
            have s21 := (upd_ne (H := H20) (o := .tup [.ref ta, .ref tv, .int g1, .int g2, .int (r1 * r2), .int al]) e1').trans s20
            have nn21 := (upd_ne (H := H20) (o := .tup [.ref ta, .ref tv, .int g1, .int g2, .int (r1 * r2), .int al]) e2').trans nn20
            have p21 := (upd_ne (H := H20) (o := .tup [.ref ta, .ref tv, .int g1, .int g2, .int (r1 * r2), .int al]) e3').trans p20
            have own21 : OwnAt (upd H20 to (.tup [.ref ta, .ref tv, .int g1, .int g2, .int (r1 * r2), .int al])) to ⟨w0, w1, h0, h1, g1, g2, r1 * r2, al⟩ := ⟨ta, tv, upd_same, ktO _ _ a20, ktO _ _ v20⟩
            have ok21 := (ok16.keep kt20).keep ktO
            generalize upd H20 to (.tup [.ref ta, .ref tv, .int g1, .int g2, .int (r1 * r2), .int al]) = H21 at *
            clear k20 s20 nn20 p20 a20 v20 sx20 kt20 kp1920 kp20 kp19 kt18 k18 s18 nn18 p18 ktO
            -- the box
            have htl : F8.tops.length ≤ 4 := by omega
            refine ⟨_, rfl, _, rfl, _, rfl, _, rfl, _, rfl, _, rfl, lp, _, rfl, .inl (SqL.of p21), st, d20, z20, kd, F8.tops.length, by rw [List.length_map]; rfl, s21, hkd, by omega, fun q wh d22 z22 H22 hq kp22 s22 hw22 gwh ekd fwh => ?_⟩
            have p22 := kp22 _ _ (Ne.symm np) p21
            have kt22 := KT.kp kp22 s21
            refine ⟨_, rfl, lp, _, rfl, .inl ⟨SqL.of p22, fun tp htp => ?_⟩⟩
            have nn22 := kp22 _ _ (Ne.symm nsl) nn21
            have f1' := nst s22 htp
            have f2' := nst nn22 htp
            have k22 := k21.trans (K2.kp (ln := ln) kp22)
            have kt23 := KT.put (o := .tup (F8.tops.map V.ref)) htp
            have k23 : K2 st ln H (upd H22 tp (.tup (F8.tops.map V.ref))) := k22.put (k22.gone (Ne.symm f1') (Ne.symm f2') htp)
            have s23 := (upd_ne (H := H22) (o := .tup (F8.tops.map V.ref)) f1').trans s22
            have nn23 := (upd_ne (H := H22) (o := .tup (F8.tops.map V.ref)) f2').trans nn22
            have tp23 : (upd H22 tp (.tup (F8.tops.map V.ref))) tp = some (.tup (F8.tops.map V.ref)) := upd_same
            have own23 := (own21.keep kt22).keep kt23
            have hw23 := hw22.keep kt23
            have ok23 := (ok21.keep kt22).keep kt23
            generalize upd H22 tp (.tup (F8.tops.map V.ref)) = H23 at *
            refine ⟨(by show 5 ≤ sizeLine; decide), fun a ha => ?_⟩
            have g1' := nst s23 ha
            have g2' := nst nn23 ha
            have ha0 := k23.gone (Ne.symm g1') (Ne.symm g2') ha
            have kt24 := KT.put (o := .tup [.str kd, .str nm, .ref to, .ref q, .ref tp]) ha
            refine k a ⟨nm, ⟨w0, w1, h0, h1, g1, g2, r1 * r2, al⟩, wh⟩ F8 n8' d22 z22 _ ha0 (k23.put ha0) ((upd_ne g1').trans s23) ((upd_ne g2').trans nn23) g8 c8 ⟨⟨to, q, tp, ?_, own23.keep kt24, hw23.keep kt24, kt24 _ _ tp23⟩, ok23.keep kt24, trivial⟩ ⟨⟨gwh, ⟨gw0, gw1, gh0, gh1, gg1, gg2, hrk, gal⟩, hnm, fwh⟩, good8, trivial⟩ hg8
            rw [upd_same]
            show some (HO.tup [V.str kd, .str nm, .ref to, .ref q, .ref tp]) = some (HO.tup [V.str wh.kd, .str nm, .ref to, .ref q, .ref tp])
            rw [ekd]
          clear hN9
          refine ⟨_, rfl, (by show 4 ≤ sizeLine; decide), fun t4 ht4 => ?_⟩
          have q1 := nst s8 ht4
          have q2 := nst nn8 ht4
          have q3 := nst p8 ht4
          have kt4 := KT.put (o := .tup [.str "leaf", .str "row", .str "column", .str "wrap"]) ht4
          have k9 : K2 st ln H (upd H8 t4 (.tup [.str "leaf", .str "row", .str "column", .str "wrap"])) := k8.put (k8.gone (Ne.symm q1) (Ne.symm q2) ht4)
          have s9 := (upd_ne (H := H8) (o := .tup [.str "leaf", .str "row", .str "column", .str "wrap"]) q1).trans s8
          have nn9 := (upd_ne (H := H8) (o := .tup [.str "leaf", .str "row", .str "column", .str "wrap"]) q2).trans nn8
          have p9 := (upd_ne (H := H8) (o := .tup [.str "leaf", .str "row", .str "column", .str "wrap"]) q3).trans p8
          have t9 : (upd H8 t4 (.tup [.str "leaf", .str "row", .str "column", .str "wrap"])) t4 = some (.tup [.str "leaf", .str "row", .str "column", .str "wrap"]) := upd_same
          have ok9 := ok8.keep kt4
          generalize upd H8 t4 (.tup [.str "leaf", .str "row", .str "column", .str "wrap"]) = H9 at *
          refine ⟨t4, _, rfl, .inr (SqT.of t9), rfl, rfl, _, rfl, ite2 (fun _ => ?_) (fun _ => iteF (go9 0 d8 z8 H9 goodN0 k9 s9 nn9 p9 ok9))⟩
          refine ⟨_, rfl, _, rfl, ite2 (fun _ => ?_) (fun _ => go9 0 d8 z8 H9 goodN0 k9 s9 nn9 p9 ok9)⟩
          refine ⟨_, rfl, st, d8, z8, 8, rfl, s9, by decide, by decide, fun y1 d10 z10 y10 y11 => ?_⟩
          have kt10 := KT.lst (ys := [.int d10, .int z10]) s9
          have k10 : K2 st ln H (upd H9 st (.lst [.int d10, .int z10])) := k9.trans K2.st
          have s10 : (upd H9 st (.lst [.int d10, .int z10])) st = some (.lst [.int d10, .int z10]) := upd_same
          have nn10 := (upd_ne (H := H9) (o := .lst [.int d10, .int z10]) (Ne.symm nsl)).trans nn9
          have p10 := (upd_ne (H := H9) (o := .lst [.int d10, .int z10]) (Ne.symm np)).trans p9
          have ok10 := ok9.keep kt10
          generalize upd H9 st (.lst [.int d10, .int z10]) = H10 at *
          refine ⟨_, _, rfl, rfl, (by show 4 ≤ sizeLine; decide), fun la hla => ?_⟩
          have r1 := nst s10 hla
          have r2 := nst nn10 hla
          have r3 := nst p10 hla
          have kt11 := KT.put (o := .lst [.int 0, .int 0, .int 1, .int (2 + y1)]) hla
          have k11 : K2 st ln H (upd H10 la (.lst [.int 0, .int 0, .int 1, .int (2 + y1)])) := k10.put (k10.gone (Ne.symm r1) (Ne.symm r2) hla)
          have s11 := (upd_ne (H := H10) (o := .lst [.int 0, .int 0, .int 1, .int (2 + y1)]) r1).trans s10
          have nn11 := (upd_ne (H := H10) (o := .lst [.int 0, .int 0, .int 1, .int (2 + y1)]) r2).trans nn10
          have p11 := (upd_ne (H := H10) (o := .lst [.int 0, .int 0, .int 1, .int (2 + y1)]) r3).trans p10
          have l11 : (upd H10 la (.lst [.int 0, .int 0, .int 1, .int (2 + y1)])) la = some (.lst [.int 0, .int 0, .int 1, .int (2 + y1)]) := upd_same
          have ok11 := ok10.keep kt11
          generalize upd H10 la (.lst [.int 0, .int 0, .int 1, .int (2 + y1)]) = H11 at *
          refine ⟨_, rfl, st, d10, z10, 4, rfl, s11, by decide, by decide, fun y2 d12 z12 y20 y21 => ?_⟩
          obtain ⟨al, hal, halc⟩ := alk_at (a := 2 + y1) y20 y21
          refine ⟨la, _, _, _, rfl, rfl, SqL.of ((upd_ne (Ne.symm r1)).trans l11), hal, ?_⟩
          exact go9 al d12 z12 _ (goodN_of (by omega) (by omega)) (k11.trans K2.st) upd_same ((upd_ne (Ne.symm nsl)).trans nn11) ((upd_ne (Ne.symm np)).trans p11) (ok11.keep (KT.lst s11))
        refine ⟨t2, _, rfl, .inr (SqT.of tG), rfl, rfl, _, rfl, ?_⟩
        show if inV (.str kd) ((["leaf", "words"] : List Str).map V.str) = true then _ else _
        rw [inV_str]
        refine ite2 (fun _ => go5 0 (by omega) (by omega) fun _ => rfl) (fun c => go5 mn0 hmn.1 hmn.2 fun h8 => absurd (decide_eq_true ?_) c)
        rcases hk8 h8 with z | z <;> rw [z] <;> simp
      -- what stands ahead of it
      have keep4 := fun (h8 : dp = 8 → kd0 = "leaf" ∨ kd0 = "words") => go4 kd0 d4 z4 H4 hkc0 h8 kD sD nD
      have draw4 : ∀ (l : Addr), H4 l = none → K2 st ln H (upd H4 l (.lst [.str "leaf", .str "words"])) ∧ (upd H4 l (.lst [.str "leaf", .str "words"])) st = some (.lst [.int d4, .int z4]) ∧ (upd H4 l (.lst [.str "leaf", .str "words"])) ln = some (.lst (n0.map V.str)) ∧ l ≠ st := fun l hl => by
        have u1 := nst sD hl
        have u2 := nst nD hl
        exact ⟨kD.put (kD.gone (Ne.symm u1) (Ne.symm u2) hl), (upd_ne u1).trans sD, (upd_ne u2).trans nD, Ne.symm u1⟩
      clear hN4
      refine ⟨_, rfl, _, _, rfl, rfl, _, rfl, ite2 (fun c => ?_) (fun c => ?_)⟩
      case' refine_2 =>
        have hd8 : dp ≠ 8 := fun e => c (decide_eq_true (by rw [e]; decide))
        refine ⟨_, rfl, rfl, _, rfl, ite2 (fun _ => ?_) (fun _ => iteF (keep4 fun e => absurd e hd8))⟩
        refine ⟨_, rfl, rfl, _, rfl, ite2 (fun _ => ?_) (fun _ => keep4 fun e => absurd e hd8)⟩
      case' refine_1 => refine iteT ?_
      all_goals
        refine ⟨(by show 2 ≤ sizeLine; decide), fun l hl => ?_⟩
        obtain ⟨x1, x2, x3, x4⟩ := draw4 l hl
        have x5 : (upd H4 l (.lst [.str "leaf", .str "words"])) l = some (.lst [.str "leaf", .str "words"]) := upd_same
        generalize upd H4 l (.lst [.str "leaf", .str "words"]) = H5 at *
        refine ⟨_, rfl, st, d4, z4, 2, rfl, x2, by decide, by decide, fun y d6 z6 y0 y1 => ?_⟩
        obtain ⟨kd, hkd, hkk⟩ := lw_at y0 y1
        refine ⟨l, _, _, _, rfl, rfl, SqL.of ((upd_ne x4).trans x5), hkd, ?_⟩
        exact go4 kd d6 z6 _ (by rcases hkk with z | z; exact .inl z; exact .inr (.inr (.inr (.inl z)))) (fun _ => hkk) (x1.trans K2.st) upd_same ((upd_ne (Ne.symm nsl)).trans x3)
end
end B08
namespace B08
open PySem L2 S2 DW
section
variable {X : Cx}
def rNeT0 (K : PySem.W.Frag) : R2 := fun x y H Q => ∃ (a b : Addr) (xs : List V), x = .ref a ∧ y = .ref b ∧ SqT K H a xs ∧ SqT K H b [] ∧ Q (.bl (!xs.isEmpty)) H
theorem op_neT0 (hu : X.A.units < cLine) : OpR X (compareOp .NotEq) (rNeT0 X.K) := by
  intro pins s σ H x y v u Q I rx ry h
  obtain ⟨a, b, xs, e1, e2, hA, hB, q⟩ := h
  subst e1 e2
  obtain rfl : v = Value.ref a := rx
  obtain rfl : u = Value.ref b := ry
  obtain ⟨its, r, pl, hz⟩ := I.tuple hA
  obtain ⟨its2, r2, pl2, hz2⟩ := I.tuple hB
  have l1 := r.length
  have l2 := r2.length
  rw [List.length_nil] at l2
  refine SeqAt.RcNeAt.tuples (e := fun _ => true) pl pl2 hu (fun j h1 h2 => by rw [List.size_toArray] at h2; omega) _ _ _ _ ⟨.bl _, H, I, rfl, ?_⟩
  have e1 : min its.toArray.size its2.toArray.size = 0 := by rw [List.size_toArray, List.size_toArray]; omega
  have e2 : (its.toArray.size == its2.toArray.size) = xs.isEmpty := by
    rw [List.size_toArray, List.size_toArray, ← l2]
    cases xs with
    | nil => rw [List.length_nil] at l1; rw [← l1]; rfl
    | cons x0 xs0 => rw [List.length_cons] at l1; rw [← l1]; rfl
  rw [e1, e2]
  exact q
end
theorem pair_eq (x y : Int × Int) : ((List.range [V.int x.1, .int x.2].length).all fun j => eqV ([V.int x.1, .int x.2].getD j .non) ([V.int y.1, .int y.2].getD j .non)) = decide (x = y) := by
  obtain ⟨a, b⟩ := x
  obtain ⟨c, d⟩ := y
  show ((a == c) && ((b == d) && true)) = _
  rw [Bool.eq_iff_iff]
  simp
theorem sint_eq (x y : Str × Int) : ((List.range [V.str x.1, .int x.2].length).all fun j => eqV ([V.str x.1, .int x.2].getD j .non) ([V.str y.1, .int y.2].getD j .non)) = decide (x = y) := by
  obtain ⟨a, b⟩ := x
  obtain ⟨c, d⟩ := y
  show ((a == c) && ((b == d) && true)) = _
  rw [Bool.eq_iff_iff]
  simp
theorem ne_pair {K : PySem.W.Frag} {H : Hp} {a b : Addr} {x y : Int × Int} {Q : VK} (ha : H a = some (.tup [.int x.1, .int x.2])) (hb : H b = some (.tup [.int y.1, .int y.2])) (k : Q (.bl (!decide (x = y))) H) : rDeep K true (.ref a) (.ref b) H Q := by
  refine ⟨a, b, _, _, fun j => eqV ([V.int x.1, .int x.2].getD j .non) ([V.int y.1, .int y.2].getD j .non), rfl, rfl, .inr ⟨SqT.of ha, SqT.of hb⟩, rfl, ?_, ?_⟩
  · intro j u v hu hv
    match j, hu, hv with
    | 0, hu, hv => cases hu; cases hv; exact .flat rfl rfl
    | 1, hu, hv => cases hu; cases hv; exact .flat rfl rfl
  · rw [if_pos rfl, pair_eq]
    exact k
theorem eqd_sint {K : PySem.W.Frag} {H : Hp} {n : Nat} {a b : Addr} {x y : Str × Int} (ha : H a = some (.tup [.str x.1, .int x.2])) (hb : H b = some (.tup [.str y.1, .int y.2])) (ne : a ≠ b) : EqD K H (n + 1) (.ref a) (.ref b) (decide (x = y)) := by
  rw [← sint_eq]
  refine .tup ne (SqT.of ha) (SqT.of hb) rfl _ fun j u v hu hv => ?_
  match j, hu, hv with
  | 0, hu, hv => cases hu; cases hv; exact .flat rfl rfl
  | 1, hu, hv => cases hu; cases hv; exact .flat rfl rfl
theorem ne_anch {K : PySem.W.Frag} {H : Hp} {a b a1 a2 b1 b2 : Addr} {x y : (Str × Int) × (Str × Int)} {Q : VK} (ha : H a = some (.tup [.ref a1, .ref a2])) (ha1 : H a1 = some (.tup [.str x.1.1, .int x.1.2])) (ha2 : H a2 = some (.tup [.str x.2.1, .int x.2.2]))
    (hb : H b = some (.tup [.ref b1, .ref b2])) (hb1 : H b1 = some (.tup [.str y.1.1, .int y.1.2])) (hb2 : H b2 = some (.tup [.str y.2.1, .int y.2.2])) (n1 : a1 ≠ b1) (n2 : a2 ≠ b2) (k : Q (.bl (!decide (x = y))) H) : rDeep K true (.ref a) (.ref b) H Q := by
  refine ⟨a, b, _, _, fun j => if j = 0 then decide (x.1 = y.1) else decide (x.2 = y.2), rfl, rfl, .inr ⟨SqT.of ha, SqT.of hb⟩, rfl, ?_, ?_⟩
  · intro j u v hu hv
    match j, hu, hv with
    | 0, hu, hv => cases hu; cases hv; exact eqd_sint ha1 hb1 n1
    | 1, hu, hv => cases hu; cases hv; exact eqd_sint ha2 hb2 n2
  · have e : ((List.range [V.ref a1, .ref a2].length).all fun j => if j = 0 then decide (x.1 = y.1) else decide (x.2 = y.2)) = decide (x = y) := by
      obtain ⟨x1, x2⟩ := x
      obtain ⟨y1, y2⟩ := y
      show (decide (x1 = y1) && (decide (x2 = y2) && true)) = _
      rw [Bool.eq_iff_iff]
      simp
    rw [if_pos rfl, e]
    exact k
def spLOwnW : Sp := fun vs H Q _ => ∃ (a : Addr) (o : Own), vs = [.ref a] ∧ OwnAt H a o ∧ o.Good ∧ ∀ (l : Addr) (H' : Hp), H l = none → Same H H' → H' l = some (.lst ((ownW o).map V.str)) → Q (.ref l) H'
def spLTextW : Sp := fun vs H Q _ => ∃ (q : Addr) (wh : What), vs = [.str wh.kd, .ref q] ∧ WhatAt H q wh ∧ wh.Good ∧ ∀ (l : Addr) (H' : Hp), H l = none → Same H H' → H' l = some (.lst ((txW wh).map V.str)) → Q (.ref l) H'
def spLWhatW : Sp := fun vs H Q _ => ∃ (q : Addr) (wh : What), vs = [.str wh.kd, .ref q] ∧ WhatAt H q wh ∧ wh.Good ∧ ∀ (l : Addr) (H' : Hp), H l = none → Same H H' → H' l = some (.lst ((whatW wh).map V.str)) → Q (.ref l) H'
def spLPartW : Sp := fun vs H Q _ => ∃ (q : Addr) (wh : What) (n i : Nat), vs = [.str wh.kd, .ref q, .int (i : Int)] ∧ WhatAt H q wh ∧ wh.Good ∧ Fo.fits wh n ∧ i < n ∧ ∀ (l : Addr) (H' : Hp), H l = none → Same H H' → H' l = some (.lst ((exW wh i).map V.str)) → Q (.ref l) H'
theorem len_eq1 : ("=" : Str).length = 1 := by decide +kernel
theorem len_dd : (".." : Str).length = 2 := by decide +kernel
theorem len_cm : ("," : Str).length = 1 := by decide +kernel
def preR (o : Own) : Nat → List Str
  | 0 => []
  | 1 => rW "wide" o.w0 o.w1
  | _ => rW "wide" o.w0 o.w1 ++ rW "high" o.h0 o.h1
def preN (o : Own) : Nat → List Str
  | 0 => rW "wide" o.w0 o.w1 ++ rW "high" o.h0 o.h1
  | 1 => rW "wide" o.w0 o.w1 ++ rW "high" o.h0 o.h1 ++ nW "grow" o.gr 0
  | 2 => rW "wide" o.w0 o.w1 ++ rW "high" o.h0 o.h1 ++ nW "grow" o.gr 0 ++ nW "shrink" o.sh 1
  | 3 => rW "wide" o.w0 o.w1 ++ rW "high" o.h0 o.h1 ++ nW "grow" o.gr 0 ++ nW "shrink" o.sh 1 ++ nW "rank" o.rk 0
  | _ => ownW o
theorem preR_len (o : Own) (i : Nat) : (preR o i).length ≤ 2 := by
  match i with
  | 0 => exact Nat.zero_le _
  | 1 => exact Nat.le_trans len1 (by decide)
  | i + 2 =>
    show (rW "wide" o.w0 o.w1 ++ rW "high" o.h0 o.h1).length ≤ 2
    rw [List.length_append]
    have h1 : (rW "wide" o.w0 o.w1).length ≤ 1 := len1
    have h2 : (rW "high" o.h0 o.h1).length ≤ 1 := len1
    omega
theorem ownW_len (o : Own) : (ownW o).length ≤ 6 := by
  unfold ownW
  simp only [List.length_append]
  have h1 : (rW "wide" o.w0 o.w1).length ≤ 1 := len1
  have h2 : (rW "high" o.h0 o.h1).length ≤ 1 := len1
  have h3 : (nW "grow" o.gr 0).length ≤ 1 := len1
  have h4 : (nW "shrink" o.sh 1).length ≤ 1 := len1
  have h5 : (nW "rank" o.rk 0).length ≤ 1 := len1
  have h6 : (nW "alike" o.al 0).length ≤ 1 := len1
  omega
theorem preN_len (o : Own) (i : Nat) : (preN o i).length ≤ 6 := by
  have h1 : (rW "wide" o.w0 o.w1).length ≤ 1 := len1
  have h2 : (rW "high" o.h0 o.h1).length ≤ 1 := len1
  have h3 : (nW "grow" o.gr 0).length ≤ 1 := len1
  have h4 : (nW "shrink" o.sh 1).length ≤ 1 := len1
  have h5 : (nW "rank" o.rk 0).length ≤ 1 := len1
  match i with
  | 0 => simp only [preN, List.length_append]; omega
  | 1 => simp only [preN, List.length_append]; omega
  | 2 => simp only [preN, List.length_append]; omega
  | 3 => simp only [preN, List.length_append]; omega
  | i + 4 => exact ownW_len o
section
variable {P : Program} {w : World} {K : PySem.W.Frag} {mg : Str → Option Value} {base : Heap}
theorem scLOwnW : FnScope ["_law_own", "_law_words_here", "_law_key", "_law_pair", "_law_number", "_law_plain"] ["_law_own"] (defScope sLOwnW) := ⟨rfl, rfl, rfl, by decide +kernel, rfl, by decide +kernel, by decide +kernel⟩
set_option maxHeartbeats 16000000 in
theorem ok_lownW {f : Addr} {fd : FuncData} (F : Fun K "_law_own_words" "_law_own_words" sLOwnW f fd) (N : Names mg) : FnOk P w K mg base CX0 1 f fd ["_law_own"] spLOwnW := by
  refine F.ok scLOwnW (fun vs H Q E h => ?_) (fun cdv A outer s H vs Q E hr h => ?_)
  · obtain ⟨a, o, e, _⟩ := h
    rw [e]
    rfl
  · obtain ⟨a, o, e, ⟨u, v, ha, hu', hv'⟩, ⟨g1, g2, g3, g4, g5, g6, g7, g8⟩, k⟩ := h
    subst e
    have hu : (A.deeper (PyProof.Rows.envOfC "_law_own_words" (defScope sLOwnW) s.heap.objs.size f cdv)).units + 20 < cLine := by have := hr.units; omega
    refine ⟨_, pss_cons (ps_set (i := 1) scLOwnW.nd rfl (Or.inl rfl) (pe_lst pa_nil))
      (pss_cons (ps_for PassesOwn.never rfl (pi_list (pe_lst (pa_cons (pe_tup (pa_cons pe_str (pa_cons (pe_ix ix_tup (pv 0) pe_int (fun _ _ => rfl)) pa_nil))) (pa_cons (pe_tup (pa_cons pe_str (pa_cons (pe_ix ix_tup (pv 0) pe_int (fun _ _ => rfl)) pa_nil))) pa_nil)))) (pg_tup rfl (pgs_cons (pg_name (i := 2) scLOwnW.nd rfl (Or.inl rfl)) (pgs_cons (pg_name (i := 3) scLOwnW.nd rfl (Or.inl rfl)) pgs_nil)))
        (pss_one (ps_if (pt_cmpR (op_neDeep hu) (pv 3) (pe_tup (pa_cons pe_int (pa_cons (pe_op op_pow pe_int pe_int) pa_nil))) (nomark _))
          (pss_one (ps_expr (pe_bm PySem.F.plainAttrs_list PySem.F.slot_list_append PySem.F.type_list_append mt_append (pv 1) (pa_cons (pe_op op_add_str (pe_op op_add_str (pe_op op_add_str (pe_op op_add_str (pv 2) pe_str) (pe_callTy call_strX (by rfl) N.str PyProof.Rows.boot_str (pa_cons (pe_ix ix_tup (pv 3) pe_int (fun _ _ => rfl)) pa_nil))) pe_str) (pe_callTy call_strX (by rfl) N.str PyProof.Rows.boot_str (pa_cons (pe_ix ix_tup (pv 3) pe_int (fun _ _ => rfl)) pa_nil))) pa_nil)))) pss_nil)))
      (pss_cons (ps_for PassesOwn.never rfl (pi_list (pe_lst (pa_cons (pe_tup (pa_cons pe_str (pa_cons (pe_ix ix_tup (pv 0) pe_int (fun _ _ => rfl)) (pa_cons pe_int pa_nil)))) (pa_cons (pe_tup (pa_cons pe_str (pa_cons (pe_ix ix_tup (pv 0) pe_int (fun _ _ => rfl)) (pa_cons pe_int pa_nil)))) (pa_cons (pe_tup (pa_cons pe_str (pa_cons (pe_ix ix_tup (pv 0) pe_int (fun _ _ => rfl)) (pa_cons pe_int pa_nil)))) (pa_cons (pe_tup (pa_cons pe_str (pa_cons (pe_ix ix_tup (pv 0) pe_int (fun _ _ => rfl)) (pa_cons pe_int pa_nil)))) pa_nil)))))) (pg_tup rfl (pgs_cons (pg_name (i := 2) scLOwnW.nd rfl (Or.inl rfl)) (pgs_cons (pg_name (i := 4) scLOwnW.nd rfl (Or.inl rfl)) (pgs_cons (pg_name (i := 5) scLOwnW.nd rfl (Or.inl rfl)) pgs_nil))))
        (pss_one (ps_if (pt_cmpR op_ne (pv 4) (pv 5) (nomark _))
          (pss_one (ps_expr (pe_bm PySem.F.plainAttrs_list PySem.F.slot_list_append PySem.F.type_list_append mt_append (pv 1) (pa_cons (pe_op op_add_str (pe_op op_add_str (pv 2) pe_str) (pe_callTy call_strX (by rfl) N.str PyProof.Rows.boot_str (pa_cons (pv 4) pa_nil))) pa_nil)))) pss_nil)))
      (pss_one (ps_ret (pv 1))))), ?_⟩
    refine seq_abs fun N1 hN1 => ?_
    refine ⟨smallE (by simp), fun l hl => hN1 _ _ ?_⟩
    clear hN1 N1
    have s1 : Same H (upd H l (.lst [])) := Same.put (Same.refl _) hl
    have l1 : (upd H l (.lst [])) l = some (.lst ((preR o 0).map V.str)) := upd_same
    generalize upd H l (.lst []) = H1 at *
    refine seq_abs fun N2 hN2 => ?_
    refine ⟨_, rfl, a, _, _, _, rfl, rfl, SqT.of (s1 _ _ ha), atI_nat (j := 0) rfl, (by show 2 ≤ sizeLine; decide), fun p1 hp1 => ?_⟩
    have s2 : Same H1 (upd H1 p1 (.tup [.str "wide", .ref u])) := Same.put (Same.refl _) hp1
    have q2 : (upd H1 p1 (.tup [.str "wide", .ref u])) p1 = some (.tup [.str "wide", .ref u]) := upd_same
    generalize upd H1 p1 (.tup [.str "wide", .ref u]) = H2 at *
    refine ⟨_, rfl, a, _, _, _, rfl, rfl, SqT.of (s2 _ _ (s1 _ _ ha)), atI_nat (j := 1) rfl, (by show 2 ≤ sizeLine; decide), fun p2 hp2 => ?_⟩
    have s3 : Same H2 (upd H2 p2 (.tup [.str "high", .ref v])) := Same.put (Same.refl _) hp2
    have q3 : (upd H2 p2 (.tup [.str "high", .ref v])) p2 = some (.tup [.str "high", .ref v]) := upd_same
    generalize upd H2 p2 (.tup [.str "high", .ref v]) = H3 at *
    refine ⟨(by show 2 ≤ sizeLine; decide), fun lx hlx => ?_⟩
    have s4 : Same H3 (upd H3 lx (.lst [.ref p1, .ref p2])) := Same.put (Same.refl _) hlx
    have q4 : (upd H3 lx (.lst [.ref p1, .ref p2])) lx = some (.lst [.ref p1, .ref p2]) := upd_same
    generalize upd H3 lx (.lst [.ref p1, .ref p2]) = H4 at *
    have S4 := s1.trans (s2.trans (s3.trans s4))
    have l4 := (s2.trans (s3.trans s4)) _ _ l1
    have p14 := (s3.trans s4) _ _ q2
    have p24 := s4 _ _ q3
    have nxl : lx ≠ l := fun z => by rw [z, (s2.trans s3) _ _ l1] at hlx; cases hlx
    refine ⟨lx, rfl, ⟨_, SqL.of q4⟩, for_list (K := K) (a := lx) (xs := [.ref p1, .ref p2]) (fun i σ H9 => ∃ (y2 y3 : Option V), σ = [some (.ref a), some (.ref l), y2, y3, none, none] ∧ Same H H9 ∧ H9 lx = some (.lst [.ref p1, .ref p2]) ∧ H9 p1 = some (.tup [.str "wide", .ref u]) ∧ H9 p2 = some (.tup [.str "high", .ref v]) ∧ H9 l = some (.lst ((preR o i).map V.str)))
      ⟨_, _, rfl, S4, q4, p14, p24, l4⟩ (fun i σ H9 _ ⟨_, _, _, _, z, _⟩ => SqL.of z) ?_ ?_⟩
    · rintro i x σ H9 hx ⟨y2, y3, rfl, S9, x9, a9, b9, l9⟩
      obtain ⟨key, p, r, c, e, hkl, gc, ge, hp, hr', hpre, hxp⟩ : ∃ (key : Str) (p r : Addr) (c e : Int), key.length ≤ 10 ∧ GoodN c ∧ GoodN e ∧ H9 p = some (.tup [.str key, .ref r]) ∧ H9 r = some (.tup [.int c, .int e]) ∧ preR o (i + 1) = preR o i ++ rW key c e ∧ x = .ref p := by
        match i, hx with
        | 0, hx => exact ⟨"wide", p1, u, o.w0, o.w1, by decide +kernel, g1, g2, a9, S9 _ _ hu', rfl, (Option.some.inj hx).symm⟩
        | 1, hx => exact ⟨"high", p2, v, o.h0, o.h1, by decide +kernel, g3, g4, b9, S9 _ _ hv', rfl, (Option.some.inj hx).symm⟩
      subst hxp
      refine ⟨p, _, rfl, SqT.of hp, rfl, _, _, rfl, _, _, rfl, rfl, ?_⟩
      refine ⟨_, rfl, _, _, rfl, rfl, ⟨by decide, by decide, by decide⟩, (by show 2 ≤ sizeLine; decide), fun t ht => ?_⟩
      have s10 : Same H9 (upd H9 t (.tup [.int 0, .int (10 ^ Int.toNat 6)])) := Same.put (Same.refl _) ht
      have t10 : (upd H9 t (.tup [.int 0, .int (10 ^ Int.toNat 6)])) t = some (.tup [.int ((0, 1000000) : Int × Int).1, .int ((0, 1000000) : Int × Int).2]) := upd_same
      generalize upd H9 t (.tup [.int 0, .int (10 ^ Int.toNat 6)]) = H10 at *
      have S10 := S9.trans s10
      refine ne_pair (x := (c, e)) (s10 _ _ hr') t10 ⟨_, rfl, ?_⟩
      by_cases cc : (c, e) = ((0 : Int), (1000000 : Int))
      · rw [decide_eq_true cc]
        refine iteF ⟨_, _, rfl, S10, s10 _ _ x9, s10 _ _ a9, s10 _ _ b9, ?_⟩
        rw [hpre, show rW key c e = [] from if_pos cc, List.append_nil]
        exact s10 _ _ l9
      · rw [decide_eq_false cc]
        have n1 := nS_len gc
        have n2 := nS_len ge
        have hr10 := s10 _ _ hr'
        have hl10 := s10 _ _ l9
        have pl := preR_len o i
        refine iteT ⟨_, rfl, .inl ⟨rfl, _, SqL.of hl10⟩, _, rfl, _, _, rfl, rfl, smallE (by rw [len_eq1]; omega), _, rfl, r, _, _, _, rfl, rfl, SqT.of hr10, atI_nat (j := 0) rfl, _, rfl, gc, _, _, rfl, rfl, smallE (by rw [Str.length_append, len_eq1]; show _ + (nS c).length ≤ _; omega), _, _, rfl, rfl, smallE (by rw [Str.length_append, Str.length_append, len_eq1, len_dd]; show _ + (nS c).length + _ ≤ _; omega), _, rfl, r, _, _, _, rfl, rfl, SqT.of hr10, atI_nat (j := 1) rfl, _, rfl, ge, _, _, rfl, rfl, smallE (by rw [Str.length_append, Str.length_append, Str.length_append, len_eq1, len_dd]; show _ + (nS c).length + _ + (nS e).length ≤ _; omega), l, _, _, rfl, rfl, hl10, small (by rw [List.length_map]; omega), ?_⟩
        refine ⟨_, _, rfl, Same.put S10 hl, (upd_ne nxl).trans (s10 _ _ x9), (upd_ne (ne_of (s10 _ _ a9) hl10 (by intro z; cases z))).trans (s10 _ _ a9), (upd_ne (ne_of (s10 _ _ b9) hl10 (by intro z; cases z))).trans (s10 _ _ b9), ?_⟩
        rw [upd_same, hpre, show rW key c e = [(((key ++ "=") ++ nS c) ++ "..") ++ nS e] from if_neg cc, List.map_append]
        rfl
    · rintro σ H9 ⟨y2, y3, rfl, S9, x9, a9, b9, l9⟩
      refine hN2 _ _ ?_
      clear hN2 N2
      refine seq_abs fun N3 hN3 => ?_
      have S9' := S9
      refine ⟨_, rfl, a, _, _, _, rfl, rfl, SqT.of (S9 _ _ ha), atI_nat (j := 2) rfl, (by show 3 ≤ sizeLine; decide), fun t1 ht1 => ?_⟩
      have s10 : Same H9 (upd H9 t1 (.tup [.str "grow", .int o.gr, .int 0])) := Same.put (Same.refl _) ht1
      have c1 : (upd H9 t1 (.tup [.str "grow", .int o.gr, .int 0])) t1 = some (.tup [.str "grow", .int o.gr, .int 0]) := upd_same
      generalize upd H9 t1 (.tup [.str "grow", .int o.gr, .int 0]) = H10 at *
      have S10 := S9.trans s10
      refine ⟨_, rfl, a, _, _, _, rfl, rfl, SqT.of (S10 _ _ ha), atI_nat (j := 3) rfl, (by show 3 ≤ sizeLine; decide), fun t2 ht2 => ?_⟩
      have s11 : Same H10 (upd H10 t2 (.tup [.str "shrink", .int o.sh, .int 1])) := Same.put (Same.refl _) ht2
      have c2 : (upd H10 t2 (.tup [.str "shrink", .int o.sh, .int 1])) t2 = some (.tup [.str "shrink", .int o.sh, .int 1]) := upd_same
      generalize upd H10 t2 (.tup [.str "shrink", .int o.sh, .int 1]) = H11 at *
      have S11 := S10.trans s11
      refine ⟨_, rfl, a, _, _, _, rfl, rfl, SqT.of (S11 _ _ ha), atI_nat (j := 4) rfl, (by show 3 ≤ sizeLine; decide), fun t3 ht3 => ?_⟩
      have s12 : Same H11 (upd H11 t3 (.tup [.str "rank", .int o.rk, .int 0])) := Same.put (Same.refl _) ht3
      have c3 : (upd H11 t3 (.tup [.str "rank", .int o.rk, .int 0])) t3 = some (.tup [.str "rank", .int o.rk, .int 0]) := upd_same
      generalize upd H11 t3 (.tup [.str "rank", .int o.rk, .int 0]) = H12 at *
      have S12 := S11.trans s12
      refine ⟨_, rfl, a, _, _, _, rfl, rfl, SqT.of (S12 _ _ ha), atI_nat (j := 5) rfl, (by show 3 ≤ sizeLine; decide), fun t4 ht4 => ?_⟩
      have s13 : Same H12 (upd H12 t4 (.tup [.str "alike", .int o.al, .int 0])) := Same.put (Same.refl _) ht4
      have c4 : (upd H12 t4 (.tup [.str "alike", .int o.al, .int 0])) t4 = some (.tup [.str "alike", .int o.al, .int 0]) := upd_same
      generalize upd H12 t4 (.tup [.str "alike", .int o.al, .int 0]) = H13 at *
      have S13 := S12.trans s13
      refine ⟨(by show 4 ≤ sizeLine; decide), fun ly hly => ?_⟩
      have s14 : Same H13 (upd H13 ly (.lst [.ref t1, .ref t2, .ref t3, .ref t4])) := Same.put (Same.refl _) hly
      have c5 : (upd H13 ly (.lst [.ref t1, .ref t2, .ref t3, .ref t4])) ly = some (.lst [.ref t1, .ref t2, .ref t3, .ref t4]) := upd_same
      generalize upd H13 ly (.lst [.ref t1, .ref t2, .ref t3, .ref t4]) = H14 at *
      have S14 := S13.trans s14
      have l13 := (s10.trans (s11.trans (s12.trans s13))) _ _ l9
      have l14 := s14 _ _ l13
      have nyl : ly ≠ l := fun z => by rw [z, l13] at hly; cases hly
      have e1 := (s11.trans (s12.trans (s13.trans s14))) _ _ c1
      have e2 := (s12.trans (s13.trans s14)) _ _ c2
      have e3 := (s13.trans s14) _ _ c3
      have e4 := s14 _ _ c4
      refine ⟨ly, rfl, ⟨_, SqL.of c5⟩, for_list (K := K) (a := ly) (xs := [.ref t1, .ref t2, .ref t3, .ref t4]) (fun i σ H9 => ∃ (z2 z4 z5 : Option V), σ = [some (.ref a), some (.ref l), z2, y3, z4, z5] ∧ Same H H9 ∧ H9 ly = some (.lst [.ref t1, .ref t2, .ref t3, .ref t4]) ∧ H9 t1 = some (.tup [.str "grow", .int o.gr, .int 0]) ∧ H9 t2 = some (.tup [.str "shrink", .int o.sh, .int 1]) ∧ H9 t3 = some (.tup [.str "rank", .int o.rk, .int 0]) ∧ H9 t4 = some (.tup [.str "alike", .int o.al, .int 0]) ∧ H9 l = some (.lst ((preN o i).map V.str)))
        ⟨_, _, _, rfl, S14, c5, e1, e2, e3, e4, l14⟩ (fun i σ H9 _ ⟨_, _, _, _, _, z, _⟩ => SqL.of z) ?_ ?_⟩
      · rintro i x σ H9 hx ⟨z2, z4, z5, rfl, S9, x9, f1, f2, f3, f4, l9⟩
        obtain ⟨key, p, c, e, hkl, gc, hp, hpre, hxp⟩ : ∃ (key : Str) (p : Addr) (c e : Int), key.length ≤ 10 ∧ GoodN c ∧ H9 p = some (.tup [.str key, .int c, .int e]) ∧ preN o (i + 1) = preN o i ++ nW key c e ∧ x = .ref p := by
          match i, hx with
          | 0, hx => exact ⟨"grow", t1, o.gr, 0, by decide +kernel, g5, f1, rfl, (Option.some.inj hx).symm⟩
          | 1, hx => exact ⟨"shrink", t2, o.sh, 1, by decide +kernel, g6, f2, rfl, (Option.some.inj hx).symm⟩
          | 2, hx => exact ⟨"rank", t3, o.rk, 0, by decide +kernel, g7, f3, rfl, (Option.some.inj hx).symm⟩
          | 3, hx => exact ⟨"alike", t4, o.al, 0, by decide +kernel, g8, f4, by simp only [preN, ownW, List.append_assoc], (Option.some.inj hx).symm⟩
        subst hxp
        refine ⟨p, _, rfl, SqT.of hp, rfl, _, _, rfl, _, _, rfl, _, _, rfl, rfl, ?_⟩
        refine ⟨_, rfl, _, rfl, rfl, _, rfl, ?_⟩
        by_cases cc : c = e
        · rw [decide_eq_true (show V.int c = V.int e by rw [cc])]
          refine iteF ⟨_, _, _, rfl, S9, x9, f1, f2, f3, f4, ?_⟩
          rw [hpre, show nW key c e = [] from if_pos cc, List.append_nil]
          exact l9
        · rw [decide_eq_false (show ¬ V.int c = V.int e from fun z => cc (V.int.inj z))]
          have n1 := nS_len gc
          have pl := preN_len o i
          refine iteT ⟨_, rfl, .inl ⟨rfl, _, SqL.of l9⟩, _, rfl, _, _, rfl, rfl, smallE (by rw [len_eq1]; omega), _, rfl, _, rfl, gc, _, _, rfl, rfl, smallE (by rw [Str.length_append, len_eq1]; show _ + (nS c).length ≤ _; omega), l, _, _, rfl, rfl, l9, small (by rw [List.length_map]; omega), ?_⟩
          have nt : ∀ {t : Addr} {xs : List V}, H9 t = some (.tup xs) → t ≠ l := fun h => ne_of h l9 (by intro z; cases z)
          refine ⟨_, _, _, rfl, Same.put S9 hl, (upd_ne nyl).trans x9, (upd_ne (nt f1)).trans f1, (upd_ne (nt f2)).trans f2, (upd_ne (nt f3)).trans f3, (upd_ne (nt f4)).trans f4, ?_⟩
          rw [upd_same, hpre, show nW key c e = [(key ++ "=") ++ nS c] from if_neg cc, List.map_append]
          rfl
      · rintro σ H9 ⟨z2, z4, z5, rfl, S9, x9, f1, f2, f3, f4, l9⟩
        refine hN3 _ _ ?_
        exact ⟨_, rfl, k l H9 hl S9 l9⟩
end
end B08
namespace B08
open PySem L2 S2 DW
theorem comp_words {K : PySem.W.Frag} {H : Hp} {sw : Addr} {as : List Addr} {ws : List (List Str)} {σ : St} {Q : VK} (hs : H sw = some (.tup (as.map V.ref))) (hr' : RowsOf H as (ws.map strsV)) (hg : GoodWs ws)
    (hd : ∀ D H', H D = none → Same H H' → H' D = some (.lst ((ws.map (Txt.join "|")).map V.str)) → Q (.ref D) H') : CompGo (Itt K sw) H σ ttAll (tBM K "str" (rJoinT K) (tC (.str "|")) (tCons (tVar 0) tNil)) Q := by
  have hl : as.length = ws.length := by rw [hr'.1, List.length_map]
  have g1 := hg.1
  refine comp_mapT (wordAt H) hs (small (by rw [List.length_map]; omega)) (fun i x H' Q' ex s1 kk => ?_) fun D H' hD s1 hl' => ?_
  · rw [List.getElem?_map] at ex
    obtain ⟨p, hp, rfl⟩ := Option.map_eq_some_iff.mp ex
    have hi : i < ws.length := by rw [← hl]; exact get_lt hp
    have hy := hr'.2 i p _ hp (by rw [List.getElem?_map, List.getElem?_eq_getElem hi]; rfl)
    obtain ⟨w1, w2, w3⟩ := hg.2 _ (List.getElem_mem hi)
    rw [wordAt_of hy] at kk
    refine ⟨rfl, _, rfl, "|", p, ws[i], rfl, rfl, SqT.of (s1 _ _ hy), ?_, kk H' (Same.refl _)⟩
    have h1 := sum_le ws[i] (B := 4) fun y hy => (w3 y hy).2
    have e : ("|" : Str).length = 1 := by decide +kernel
    rw [e]
    omega
  · rw [words_map hr'] at hl'
    exact hd D H' hD s1 hl'
theorem ws_sum {ws : List (List Str)} (hg : GoodWs ws) : ((ws.map (Txt.join "|")).map (·.length)).sum + (ws.map (Txt.join "|")).length * (" " : Str).length ≤ 16777216 := by
  have g1 := hg.1
  have h1 := sum_le (ws.map (Txt.join "|")) (B := 15) fun y hy => by
    obtain ⟨v, hv, rfl⟩ := List.mem_map.mp hy
    obtain ⟨_, h2, h3⟩ := hg.2 v hv
    have := glue_len "|" v (B := 4) fun x hx => (h3 x hx).2
    have e : ("|" : Str).length = 1 := by decide +kernel
    rw [e] at this
    omega
  have e : (" " : Str).length = 1 := by decide +kernel
  rw [e]
  rw [List.length_map] at h1 ⊢
  omega
theorem lwo {k : Nat} {g : Int} {al sd : Str} : (What.lined k g al sd).kd ≠ "words" := lkt.2.2.2.2
theorem tw' : ("table" : Str) ≠ "words" := by decide +kernel
theorem tf' : ("table" : Str) ≠ "flow" := by decide +kernel
theorem lfw : ("leaf" : Str) ≠ "words" := by decide +kernel
theorem fo' : ("flow" : Str) ≠ "over" := by decide +kernel
theorem to' : ("table" : Str) ≠ "over" := by decide +kernel
section
variable {P : Program} {w : World} {K : PySem.W.Frag} {mg : Str → Option Value} {base : Heap}
theorem scLTextW : FnScope ["_law_kind", "_law_what_here"] ["_law_kind", "_law_what_here"] (defScope sLTextW) := ⟨rfl, rfl, rfl, by decide +kernel, rfl, by decide +kernel, by decide +kernel⟩
set_option maxHeartbeats 16000000 in
theorem ok_ltextW {f : Addr} {fd : FuncData} (F : Fun K "_law_text_words" "_law_text_words" sLTextW f fd) : FnOk P w K mg base CX0 1 f fd ["_law_kind", "_law_what_here"] spLTextW := by
  refine F.ok scLTextW (fun vs H Q E h => ?_) (fun cdv A outer s H vs Q E hr h => ?_)
  · obtain ⟨q, wh, e, _⟩ := h
    rw [e]
    rfl
  · obtain ⟨q, wh, e, hw, hg, k⟩ := h
    subst e
    have hu : (A.deeper (PyProof.Rows.envOfC "_law_text_words" (defScope sLTextW) s.heap.objs.size f cdv)).units < cLine := by have := hr.units; omega
    refine ⟨_, pss_cons (ps_if (pw_and (pt_cmpR op_eq (pv 0) pe_str (nomark _)) (pw_and1 (pt_cmpR (op_neT0 hu) (pe_ix ix_tup (pv 1) pe_int (fun _ _ => rfl)) (pe_tup pa_nil) (nomark _)))).pt
        (pss_one (ps_ret (pe_lst (pa_cons (pe_op op_add_str pe_str (pe_bm PySem.F.plainAttrs_str PySem.F.slot_str_join PySem.F.type_str_join mt_join pe_str (pa_cons (pe_comp (compSc_mk (fs := defScope sLTextW) (N := ["_law_kind", "_law_what_here"]) rfl rfl (by decide +kernel)) rfl (pi_tup (pe_ix ix_tup (pv 1) pe_int (fun _ _ => rfl))) (fun _ _ _ _ _ => pts_nil)
          (fun _ _ _ _ _ => pe_bmK (K := K) (r := rJoinT K) PySem.F.plainAttrs_str PySem.F.slot_str_join PySem.F.type_str_join mtr_joinK pe_str (pa_cons (pv 0) pa_nil))) pa_nil))) pa_nil)))) pss_nil)
      (pss_cons (ps_if (pw_and (pt_cmpR op_eq (pv 0) pe_str (nomark _)) (pw_and1 (pt_cmpR (op_neT0 hu) (pe_ix ix_tup (pv 1) pe_int (fun _ _ => rfl)) (pe_tup pa_nil) (nomark _)))).pt
        (pss_one (ps_ret (pe_lst (pa_cons (pe_op op_add_str pe_str (pe_bm PySem.F.plainAttrs_str PySem.F.slot_str_join PySem.F.type_str_join mt_join pe_str (pa_cons (pe_comp (compSc_mk (fs := defScope sLTextW) (N := ["_law_kind", "_law_what_here"]) rfl rfl (by decide +kernel)) rfl (pi_tup (pe_ix ix_tup (pv 1) pe_int (fun _ _ => rfl))) (fun _ _ _ _ _ => pts_nil)
          (fun _ _ _ _ _ => pe_bmK (K := K) (r := rJoinT K) PySem.F.plainAttrs_str PySem.F.slot_str_join PySem.F.type_str_join mtr_joinK pe_str (pa_cons (pv 0) pa_nil))) pa_nil))) pa_nil)))) pss_nil)
      (pss_one (ps_ret (pe_lst pa_nil)))), ?_⟩
    -- nothing to tell
    have put0 : ∀ {H1 : Hp}, Same H H1 → txW wh = [] → ∀ l, H1 l = none → Q (.ref l) (upd H1 l (.lst [])) := fun s1 e l hl => k l _ (s1.free hl) (Same.put s1 (s1.free hl)) (by rw [upd_same, e]; rfl)
    have el5 : ("text=" : Str).length = 5 := by decide +kernel
    cases wh with
    | leaf a b => exact ⟨_, rfl, rfl, _, rfl, iteC (kne lfw) (iteF ⟨_, rfl, rfl, _, rfl, iteC (kne lf') (iteF ⟨smallE (by simp), fun l hl => put0 (Same.refl _) rfl l hl⟩)⟩)⟩
    | lined n g al sd => exact ⟨_, rfl, rfl, _, rfl, iteC (kne lwo) (iteF ⟨_, rfl, rfl, _, rfl, iteC (kne lkt.2.1) (iteF ⟨smallE (by simp), fun l hl => put0 (Same.refl _) rfl l hl⟩)⟩)⟩
    | table c g sd sps => exact ⟨_, rfl, rfl, _, rfl, iteC (kne tw') (iteF ⟨_, rfl, rfl, _, rfl, iteC (kne tf') (iteF ⟨smallE (by simp), fun l hl => put0 (Same.refl _) rfl l hl⟩)⟩)⟩
    | over ps => exact ⟨_, rfl, rfl, _, rfl, iteC (kne ow) (iteF ⟨_, rfl, rfl, _, rfl, iteC (kne of') (iteF ⟨smallE (by simp), fun l hl => put0 (Same.refl _) rfl l hl⟩)⟩)⟩
    | words ws j =>
      obtain ⟨sp, hq, as, hs, hr'⟩ := hw
      have hl : as.length = ws.length := by rw [hr'.1, List.length_map]
      refine ⟨_, rfl, rfl, _, rfl, iteB keq ?_⟩
      refine ⟨_, rfl, q, _, _, _, rfl, rfl, SqT.of hq, atI_nat (j := 0) rfl, smallE (by simp), fun te hte => ?_⟩
      have s1 : Same H (upd H te (.tup [])) := Same.put (Same.refl _) hte
      have e1 : (upd H te (.tup [])) te = some (.tup []) := upd_same
      generalize upd H te (.tup []) = H1 at *
      refine ⟨sp, te, _, rfl, rfl, SqT.of (s1 _ _ hs), SqT.of e1, _, rfl, ?_⟩
      cases ws with
      | nil =>
        have ea : as = [] := List.eq_nil_of_length_eq_zero hl
        subst ea
        exact iteF ⟨_, rfl, rfl, _, rfl, iteC (kne wf') (iteF ⟨smallE (by simp), fun l hl => put0 s1 rfl l hl⟩)⟩
      | cons w0 wr =>
        have ea : ((as.map V.ref).isEmpty) = false := by
          cases as with
          | nil => cases hl
          | cons => rfl
        rw [ea]
        refine iteT ⟨rfl, _, rfl, q, _, _, _, rfl, rfl, SqT.of (s1 _ _ hq), atI_nat (j := 0) rfl, sp, rfl, ⟨_, SqT.of (s1 _ _ hs)⟩, comp_words (s1 _ _ hs) (rowsKT hr' (KT.same s1)) hg.1 fun D H2 hD s2 h2 => ?_⟩
        have wl := wtx_len hg.1
        refine ⟨" ", D, _, rfl, rfl, SqL.of h2, ws_sum hg.1, _, _, rfl, rfl, smallE (by rw [el5]; show 5 + (wtx (w0 :: wr)).length ≤ _; omega), (by show 1 ≤ sizeLine; decide), fun l hl => ?_⟩
        have S2 := s1.trans s2
        exact k l _ (S2.free hl) (Same.put S2 (S2.free hl)) upd_same
    | flow sds ws j =>
      obtain ⟨tp, sp, hq, ht, as, hs, hr'⟩ := hw
      have hl : as.length = ws.length := by rw [hr'.1, List.length_map]
      refine ⟨_, rfl, rfl, _, rfl, iteC (kne fw) (iteF ⟨_, rfl, rfl, _, rfl, iteB keq ?_⟩)⟩
      refine ⟨_, rfl, q, _, _, _, rfl, rfl, SqT.of hq, atI_nat (j := 1) rfl, smallE (by simp), fun te hte => ?_⟩
      have s1 : Same H (upd H te (.tup [])) := Same.put (Same.refl _) hte
      have e1 : (upd H te (.tup [])) te = some (.tup []) := upd_same
      generalize upd H te (.tup []) = H1 at *
      refine ⟨sp, te, _, rfl, rfl, SqT.of (s1 _ _ hs), SqT.of e1, _, rfl, ?_⟩
      cases ws with
      | nil =>
        have ea : as = [] := List.eq_nil_of_length_eq_zero hl
        subst ea
        exact iteF ⟨smallE (by simp), fun l hl => put0 s1 rfl l hl⟩
      | cons w0 wr =>
        have ea : ((as.map V.ref).isEmpty) = false := by
          cases as with
          | nil => cases hl
          | cons => rfl
        rw [ea]
        refine iteT ⟨rfl, _, rfl, q, _, _, _, rfl, rfl, SqT.of (s1 _ _ hq), atI_nat (j := 1) rfl, sp, rfl, ⟨_, SqT.of (s1 _ _ hs)⟩, comp_words (s1 _ _ hs) (rowsKT hr' (KT.same s1)) hg.2.1 fun D H2 hD s2 h2 => ?_⟩
        have wl := wtx_len hg.2.1
        refine ⟨" ", D, _, rfl, rfl, SqL.of h2, ws_sum hg.2.1, _, _, rfl, rfl, smallE (by rw [el5]; show 5 + (wtx (w0 :: wr)).length ≤ _; omega), (by show 1 ≤ sizeLine; decide), fun l hl => ?_⟩
        have S2 := s1.trans s2
        exact k l _ (S2.free hl) (Same.put S2 (S2.free hl)) upd_same
theorem scLPartW : FnScope ["_law_kind", "_law_what_here", "_law_at", "_law_one", "_law_other"] ["_law_kind", "_law_what_here", "_law_at"] (defScope sLPartW) := ⟨rfl, rfl, rfl, by decide +kernel, rfl, by decide +kernel, by decide +kernel⟩
set_option maxHeartbeats 16000000 in
theorem ok_lpartW {f : Addr} {fd : FuncData} (F : Fun K "_law_part_words" "_law_part_words" sLPartW f fd) (N : Names mg) : FnOk P w K mg base CX0 1 f fd ["_law_kind", "_law_what_here", "_law_at"] spLPartW := by
  refine F.ok scLPartW (fun vs H Q E h => ?_) (fun cdv A outer s H vs Q E hr h => ?_)
  · obtain ⟨q, wh, n, i, e, _⟩ := h
    rw [e]
    rfl
  · obtain ⟨q, wh, n, i, e, hw, hg, hf, hi, k⟩ := h
    subst e
    have hu : (A.deeper (PyProof.Rows.envOfC "_law_part_words" (defScope sLPartW) s.heap.objs.size f cdv)).units + 20 < cLine := by have := hr.units; omega
    refine ⟨_, pss_cons (ps_if (pw_and (pt_cmpR op_eq (pv 0) pe_str (nomark _)) (pw_and1 (pt_cmpR (op_neDeep hu) (pe_ix ix_tup (pe_ix ix_tup (pv 1) pe_int (fun _ _ => rfl)) (pv 2) (fun _ _ => rfl)) (pe_tup (pa_cons pe_int (pa_cons pe_int pa_nil))) (nomark _)))).pt
        (pss_one (ps_ret (pe_lst (pa_cons (pe_op op_add_str (pe_op op_add_str (pe_op op_add_str pe_str (pe_callTy call_strX (by rfl) N.str PyProof.Rows.boot_str (pa_cons (pe_ix ix_tup (pe_ix ix_tup (pe_ix ix_tup (pv 1) pe_int (fun _ _ => rfl)) (pv 2) (fun _ _ => rfl)) pe_int (fun _ _ => rfl)) pa_nil))) pe_str) (pe_callTy call_strX (by rfl) N.str PyProof.Rows.boot_str (pa_cons (pe_ix ix_tup (pe_ix ix_tup (pe_ix ix_tup (pv 1) pe_int (fun _ _ => rfl)) (pv 2) (fun _ _ => rfl)) pe_int (fun _ _ => rfl)) pa_nil))) pa_nil)))) pss_nil)
      (pss_cons (ps_if (pw_and (pt_cmpR op_eq (pv 0) pe_str (nomark _)) (pw_and1 (pt_cmpR op_ne (pe_ix ix_tup (pe_ix ix_tup (pv 1) pe_int (fun _ _ => rfl)) (pv 2) (fun _ _ => rfl)) pe_str (nomark _)))).pt (pss_one (ps_ret (pe_lst (pa_cons pe_str pa_nil)))) pss_nil)
      (pss_cons (ps_if (pw_and (pt_cmpR op_eq (pv 0) pe_str (nomark _)) (pw_and (pt_cmpR op_gt (pv 2) pe_int (nomark _)) (pw_and1 (pt_cmpR (op_neDeep hu) (pe_ix ix_tup (pv 1) (pe_op op_sub (pv 2) pe_int) (fun _ _ => rfl)) (pe_tup (pa_cons (pe_tup (pa_cons pe_str (pa_cons pe_int pa_nil))) (pa_cons (pe_tup (pa_cons pe_str (pa_cons pe_int pa_nil))) pa_nil))) (nomark _))))).pt
        (pss_cons (ps_asg (pe_ix ix_tup (pv 1) (pe_op op_sub (pv 2) pe_int) (fun _ _ => rfl)) (pg_tup rfl (pgs_cons (pg_name (i := 3) scLPartW.nd rfl (Or.inl rfl)) (pgs_cons (pg_name (i := 4) scLPartW.nd rfl (Or.inl rfl)) pgs_nil))))
        (pss_one (ps_ret (pe_lst (pa_cons (pe_op op_add_str (pe_op op_add_str (pe_op op_add_str (pe_op op_add_str (pe_op op_add_str (pe_op op_add_str (pe_op op_add_str pe_str (pe_ix ix_tup (pv 3) pe_int (fun _ _ => rfl))) pe_str) (pe_callTy call_strX (by rfl) N.str PyProof.Rows.boot_str (pa_cons (pe_ix ix_tup (pv 3) pe_int (fun _ _ => rfl)) pa_nil))) pe_str) (pe_ix ix_tup (pv 4) pe_int (fun _ _ => rfl))) pe_str) (pe_callTy call_strX (by rfl) N.str PyProof.Rows.boot_str (pa_cons (pe_ix ix_tup (pv 4) pe_int (fun _ _ => rfl)) pa_nil))) pa_nil))))) pss_nil)
      (pss_one (ps_ret (pe_lst pa_nil))))), ?_⟩
    have put0 : ∀ {H1 : Hp}, Same H H1 → exW wh i = [] → ∀ l, H1 l = none → Q (.ref l) (upd H1 l (.lst [])) := fun s1 e l hl => k l _ (s1.free hl) (Same.put s1 (s1.free hl)) (by rw [upd_same, e]; rfl)
    cases wh with
    | leaf a b => exact ⟨_, rfl, rfl, _, rfl, iteC (kne lt') (iteF ⟨_, rfl, rfl, _, rfl, iteC (kne lf') (iteF ⟨_, rfl, rfl, _, rfl, iteC (kne lo') (iteF ⟨smallE (by simp), fun l hl => put0 (Same.refl _) rfl l hl⟩)⟩)⟩)⟩
    | lined m g al sd => exact ⟨_, rfl, rfl, _, rfl, iteC (kne lkt.1) (iteF ⟨_, rfl, rfl, _, rfl, iteC (kne lkt.2.1) (iteF ⟨_, rfl, rfl, _, rfl, iteC (kne lkt.2.2.1) (iteF ⟨smallE (by simp), fun l hl => put0 (Same.refl _) rfl l hl⟩)⟩)⟩)⟩
    | words ws j => exact ⟨_, rfl, rfl, _, rfl, iteC (kne wt) (iteF ⟨_, rfl, rfl, _, rfl, iteC (kne wf') (iteF ⟨_, rfl, rfl, _, rfl, iteC (kne wo') (iteF ⟨smallE (by simp), fun l hl => put0 (Same.refl _) rfl l hl⟩)⟩)⟩)⟩
    | table c g sd sps =>
      obtain ⟨sp, as, hq, hs, hr'⟩ := hw
      have hl : as.length = sps.length := by rw [hr'.1, List.length_map]
      have hf' : sps.length = n := hf
      have hia : i < as.length := by omega
      have his : i < sps.length := by omega
      have hp1 : H as[i] = some (.tup [.int sps[i].1, .int sps[i].2]) := hr'.2 i as[i] _ (List.getElem?_eq_getElem hia) (by rw [List.getElem?_map, List.getElem?_eq_getElem his]; rfl)
      obtain ⟨g1, g2⟩ := hg.2.2.2 _ (List.getElem_mem his)
      have hat : atI (as.map V.ref) (i : Int) = some (.ref as[i]) := atI_nat (by rw [List.getElem?_map, List.getElem?_eq_getElem hia]; rfl)
      have egd : sps.getD i (1, 1) = sps[i] := by rw [List.getD_eq_getElem?_getD, List.getElem?_eq_getElem his]; rfl
      have eex : exW (.table c g sd sps) i = if sps[i] = (1, 1) then [] else [(("span=" ++ nS sps[i].1) ++ ",") ++ nS sps[i].2] := by
        show (if sps.getD i (1, 1) = (1, 1) then [] else [(("span=" ++ nS (sps.getD i (1, 1)).1) ++ ",") ++ nS (sps.getD i (1, 1)).2]) = _
        rw [egd]
      refine ⟨_, rfl, rfl, _, rfl, iteB keq ?_⟩
      refine ⟨_, rfl, q, _, _, _, rfl, rfl, SqT.of hq, atI_nat (j := 3) rfl, _, rfl, sp, _, _, _, rfl, rfl, SqT.of hs, hat, (by show 2 ≤ sizeLine; decide), fun t ht => ?_⟩
      have s1 : Same H (upd H t (.tup [.int 1, .int 1])) := Same.put (Same.refl _) ht
      have t1 : (upd H t (.tup [.int 1, .int 1])) t = some (.tup [.int ((1, 1) : Int × Int).1, .int ((1, 1) : Int × Int).2]) := upd_same
      generalize upd H t (.tup [.int 1, .int 1]) = H1 at *
      refine ne_pair (x := sps[i]) (s1 _ _ hp1) t1 ⟨_, rfl, ?_⟩
      by_cases cc : sps[i] = (1, 1)
      · rw [decide_eq_true cc]
        refine iteF ⟨_, rfl, rfl, _, rfl, iteC (kne tf') (iteF ⟨_, rfl, rfl, _, rfl, iteC (kne to') (iteF ⟨smallE (by simp), fun l hl => put0 s1 (by rw [eex, if_pos cc]) l hl⟩)⟩)⟩
      · rw [decide_eq_false cc]
        have n1 := nS_len g1
        have n2 := nS_len g2
        have e5 : ("span=" : Str).length = 5 := by decide +kernel
        refine iteT ⟨_, rfl, q, _, _, _, rfl, rfl, SqT.of (s1 _ _ hq), atI_nat (j := 3) rfl, _, rfl, sp, _, _, _, rfl, rfl, SqT.of (s1 _ _ hs), hat, as[i], _, _, _, rfl, rfl, SqT.of (s1 _ _ hp1), atI_nat (j := 0) rfl, _, rfl, g1, _, _, rfl, rfl, smallE (by rw [e5]; show 5 + (nS sps[i].1).length ≤ _; omega), _, _, rfl, rfl, smallE (by rw [Str.length_append, e5, len_cm]; show 5 + (nS sps[i].1).length + 1 ≤ _; omega), _, rfl, q, _, _, _, rfl, rfl, SqT.of (s1 _ _ hq), atI_nat (j := 3) rfl, _, rfl, sp, _, _, _, rfl, rfl, SqT.of (s1 _ _ hs), hat, as[i], _, _, _, rfl, rfl, SqT.of (s1 _ _ hp1), atI_nat (j := 1) rfl, _, rfl, g2, _, _, rfl, rfl, smallE (by rw [Str.length_append, Str.length_append, e5, len_cm]; show 5 + (nS sps[i].1).length + 1 + (nS sps[i].2).length ≤ _; omega), (by show 1 ≤ sizeLine; decide), fun l hl => ?_⟩
        exact k l _ (s1.free hl) (Same.put s1 (s1.free hl)) (by rw [upd_same, eex, if_neg cc]; rfl)
    | flow sds ws j =>
      obtain ⟨tp, sp, hq, ht, _⟩ := hw
      have hf' : sds.length = n := hf
      have his : i < sds.length := by omega
      have egd : sds.getD i "left" = sds[i] := by rw [List.getD_eq_getElem?_getD, List.getElem?_eq_getElem his]; rfl
      have eex : exW (.flow sds ws j) i = if sds[i] = "left" then [] else (["float=right"] : List Str) := by
        show (if sds.getD i "left" = "left" then [] else (["float=right"] : List Str)) = _
        rw [egd]
      refine ⟨_, rfl, rfl, _, rfl, iteC (kne ft) (iteF ⟨_, rfl, rfl, _, rfl, iteB keq ?_⟩)⟩
      refine ⟨_, rfl, q, _, _, _, rfl, rfl, SqT.of hq, atI_nat (j := 0) rfl, _, rfl, tp, _, _, _, rfl, rfl, SqT.of ht, atI_nat (j := i) (by unfold strsV; rw [List.getElem?_map, List.getElem?_eq_getElem his]; rfl), rfl, _, rfl, ?_⟩
      by_cases cc : sds[i] = "left"
      · rw [decide_eq_true (show V.str sds[i] = V.str "left" by rw [cc])]
        refine iteF ⟨_, rfl, rfl, _, rfl, iteC (kne fo') (iteF ⟨smallE (by simp), fun l hl => put0 (Same.refl _) (by rw [eex, if_pos cc]) l hl⟩)⟩
      · rw [kne cc]
        refine iteT ⟨(by show 1 ≤ sizeLine; decide), fun l hl => ?_⟩
        exact k l _ hl (Same.put (Same.refl _) hl) (by rw [upd_same, eex, if_neg cc]; rfl)
    | over ps =>
      obtain ⟨as, hq, hl, hr'⟩ := hw
      have hf' : n ≤ ps.length + 1 := hf
      refine ⟨_, rfl, rfl, _, rfl, iteC (kne ot) (iteF ⟨_, rfl, rfl, _, rfl, iteC (kne of') (iteF ⟨_, rfl, rfl, _, rfl, iteB keq ⟨_, rfl, _, _, rfl, rfl, _, rfl, ?_⟩⟩)⟩)⟩
      cases i with
      | zero => exact iteC (decide_eq_false (by decide)) (iteF ⟨smallE (by simp), fun l hl => put0 (Same.refl _) rfl l hl⟩)
      | succ i =>
        have his : i < ps.length := by omega
        have hia : i < as.length := by omega
        obtain ⟨b, c, x1, x2, x3⟩ := hr' i as[i] ps[i] (List.getElem?_eq_getElem hia) (List.getElem?_eq_getElem his)
        obtain ⟨g1, g2⟩ := hg _ (List.getElem_mem his)
        have hat : atI (as.map V.ref) (((i + 1 : Nat) : Int) - 1) = some (.ref as[i]) := atI_of (j := i) (by omega) (by rw [List.getElem?_map, List.getElem?_eq_getElem hia]; rfl)
        have egd : ps.getD i (("", 0), ("", 0)) = ps[i] := by rw [List.getD_eq_getElem?_getD, List.getElem?_eq_getElem his]; rfl
        have eex : exW (.over ps) (i + 1) = if ps[i] = (((("start" : Str), (0 : Int)), (("start" : Str), (0 : Int))) : (Str × Int) × (Str × Int)) then [] else [(((((("at=" ++ ps[i].1.1) ++ ",") ++ nS ps[i].1.2) ++ ",") ++ ps[i].2.1) ++ ",") ++ nS ps[i].2.2] := by
          rw [← egd]
          rfl
        refine iteB (decide_eq_true (by omega)) ⟨_, rfl, _, rfl, _, _, rfl, rfl, q, _, _, _, rfl, rfl, SqT.of hq, hat, (by show 2 ≤ sizeLine; decide), fun ta hta => ?_⟩
        have s1 : Same H (upd H ta (.tup [.str "start", .int 0])) := Same.put (Same.refl _) hta
        have a1 : (upd H ta (.tup [.str "start", .int 0])) ta = some (.tup [.str "start", .int 0]) := upd_same
        have nb : b ≠ ta := ne_of_none x2 hta
        generalize upd H ta (.tup [.str "start", .int 0]) = H1 at *
        refine ⟨(by show 2 ≤ sizeLine; decide), fun tb htb => ?_⟩
        have s2 : Same H1 (upd H1 tb (.tup [.str "start", .int 0])) := Same.put (Same.refl _) htb
        have b2 : (upd H1 tb (.tup [.str "start", .int 0])) tb = some (.tup [.str "start", .int 0]) := upd_same
        have nc : c ≠ tb := ne_of_none (s1 _ _ x3) htb
        generalize upd H1 tb (.tup [.str "start", .int 0]) = H2 at *
        refine ⟨(by show 2 ≤ sizeLine; decide), fun tc htc => ?_⟩
        have s3 : Same H2 (upd H2 tc (.tup [.ref ta, .ref tb])) := Same.put (Same.refl _) htc
        have c3 : (upd H2 tc (.tup [.ref ta, .ref tb])) tc = some (.tup [.ref ta, .ref tb]) := upd_same
        generalize upd H2 tc (.tup [.ref ta, .ref tb]) = H3 at *
        have S3 := s1.trans (s2.trans s3)
        refine ne_anch (x := ps[i]) (y := (("start", 0), ("start", 0))) (S3 _ _ x1) (S3 _ _ x2) (S3 _ _ x3) c3 ((s2.trans s3) _ _ a1) (s3 _ _ b2) nb nc ⟨_, rfl, ?_⟩
        by_cases cc : ps[i] = (((("start" : Str), (0 : Int)), (("start" : Str), (0 : Int))) : (Str × Int) × (Str × Int))
        · rw [decide_eq_true cc]
          refine iteF ⟨smallE (by simp), fun l hl => put0 S3 (by rw [eex, if_pos cc]) l hl⟩
        · rw [decide_eq_false cc]
          have n1 := nS_len g1.2.2
          have n2 := nS_len g2.2.2
          have m1 := g1.2.1
          have m2 := g2.2.1
          have e3 : ("at=" : Str).length = 3 := by decide +kernel
          have X1 := SqT.of (K := K) (S3 _ _ x1)
          have X2 := SqT.of (K := K) (S3 _ _ x2)
          have X3 := SqT.of (K := K) (S3 _ _ x3)
          refine iteT ⟨_, rfl, _, rfl, _, _, rfl, rfl, q, _, _, _, rfl, rfl, SqT.of (S3 _ _ hq), hat, as[i], _, rfl, X1, rfl, _, _, rfl, _, _, rfl, rfl, ?_⟩
          refine ⟨_, rfl, b, _, _, _, rfl, rfl, X2, atI_nat (j := 0) rfl, _, _, rfl, rfl, smallE (by rw [e3]; omega), _, _, rfl, rfl, smallE (by simp only [Str.length_append, e3, len_cm]; omega), _, rfl, b, _, _, _, rfl, rfl, X2, atI_nat (j := 1) rfl, _, rfl, g1.2.2, _, _, rfl, rfl, smallE (by simp only [Str.length_append, e3, len_cm]; show _ + (nS ps[i].1.2).length ≤ _; omega), _, _, rfl, rfl, smallE (by simp only [Str.length_append, e3, len_cm]; show _ + (nS ps[i].1.2).length + _ ≤ _; omega), _, rfl, c, _, _, _, rfl, rfl, X3, atI_nat (j := 0) rfl, _, _, rfl, rfl, smallE (by simp only [Str.length_append, e3, len_cm]; show _ + (nS ps[i].1.2).length + _ + _ ≤ _; omega), _, _, rfl, rfl, smallE (by simp only [Str.length_append, e3, len_cm]; show _ + (nS ps[i].1.2).length + _ + _ + _ ≤ _; omega), _, rfl, c, _, _, _, rfl, rfl, X3, atI_nat (j := 1) rfl, _, rfl, g2.2.2, _, _, rfl, rfl, smallE (by simp only [Str.length_append, e3, len_cm]; show _ + (nS ps[i].1.2).length + _ + _ + _ + (nS ps[i].2.2).length ≤ _; omega), (by show 1 ≤ sizeLine; decide), fun l hl => ?_⟩
          exact k l _ (S3.free hl) (Same.put S3 (S3.free hl)) (by rw [upd_same, eex, if_neg cc]; rfl)
end
end B08
namespace B08
open PySem L2 S2 DW
theorem in4 {kd : Str} (h : kd = "row" ∨ kd = "column" ∨ kd = "wrap" ∨ kd = "table") : inV (.str kd) [.str "row", .str "column", .str "wrap", .str "table"] = true := by
  rcases h with z | z | z | z <;> rw [z] <;> decide +kernel
theorem nin4 {kd : Str} (h : kd = "leaf" ∨ kd = "words" ∨ kd = "flow" ∨ kd = "over") : inV (.str kd) [.str "row", .str "column", .str "wrap", .str "table"] = false := by
  rcases h with z | z | z | z <;> rw [z] <;> decide +kernel
theorem in2 {kd : Str} (h : kd = "words" ∨ kd = "flow") : inV (.str kd) [.str "words", .str "flow"] = true := by
  rcases h with z | z <;> rw [z] <;> decide +kernel
theorem nin2 {kd : Str} (h : kd = "leaf" ∨ kd = "row" ∨ kd = "column" ∨ kd = "wrap" ∨ kd = "table" ∨ kd = "over") : inV (.str kd) [.str "words", .str "flow"] = false := by
  rcases h with z | z | z | z | z | z <;> rw [z] <;> decide +kernel
theorem lined3 (k : Nat) (g : Int) (al sd : Str) : (What.lined k g al sd).kd = "row" ∨ (What.lined k g al sd).kd = "column" ∨ (What.lined k g al sd).kd = "wrap" := by
  match k with
  | 0 => exact .inl rfl
  | 1 => exact .inr (.inl rfl)
  | k + 2 => exact .inr (.inr rfl)
def P2 : What → List Str → Prop
  | .leaf a b, W => W = whatW (.leaf a b)
  | _, W => W = []
def P3 (H3 : Hp) (q q' : Addr) : What → List Str → Prop
  | .leaf a b, W => W = whatW (.leaf a b) ∧ q' = q
  | .table c g sd _, W => W = (if c = 1 then [] else [("columns=" : Str) ++ nS c]) ∧ H3 q' = some (.tup [.int g, .str "start", .str sd])
  | _, W => W = [] ∧ q' = q
def P4 (q q' : Addr) : What → List Str → Prop
  | .words _ _, W => W = [] ∧ q' = q
  | .flow _ _ _, W => W = [] ∧ q' = q
  | wh, W => W = whatW wh
section
variable {P : Program} {w : World} {K : PySem.W.Frag} {mg : Str → Option Value} {base : Heap}
theorem scLWhatW : FnScope ["_law_kind", "_law_what_here", "_law_words_here"] ["_law_kind", "_law_what_here"] (defScope sLWhatW) := ⟨rfl, rfl, rfl, by decide +kernel, rfl, by decide +kernel, by decide +kernel⟩
set_option maxHeartbeats 16000000 in
theorem ok_lwhatW {f : Addr} {fd : FuncData} (F : Fun K "_law_what_words" "_law_what_words" sLWhatW f fd) (N : Names mg) : FnOk P w K mg base CX0 1 f fd ["_law_kind", "_law_what_here"] spLWhatW := by
  refine F.ok scLWhatW (fun vs H Q E h => ?_) (fun cdv A outer s H vs Q E hr h => ?_)
  · obtain ⟨q, wh, e, _⟩ := h
    rw [e]
    rfl
  · obtain ⟨q, wh, e, hw, hg, k⟩ := h
    subst e
    have hu : (A.deeper (PyProof.Rows.envOfC "_law_what_words" (defScope sLWhatW) s.heap.objs.size f cdv)).units + 20 < cLine := by have := hr.units; omega
    refine ⟨_, pss_cons (ps_set (i := 2) scLWhatW.nd rfl (Or.inl rfl) (pe_lst pa_nil))
      (pss_cons (ps_if (pw_and (pt_cmpR op_eq (pv 0) pe_str (nomark _)) (pw_and1 (pt_cmpR (op_neDeep hu) (pv 1) (pe_tup (pa_cons pe_int (pa_cons pe_int pa_nil))) (nomark _)))).pt
        (pss_one (ps_expr (pe_bm PySem.F.plainAttrs_list PySem.F.slot_list_append PySem.F.type_list_append mt_append (pv 2) (pa_cons (pe_op op_add_str (pe_op op_add_str (pe_op op_add_str pe_str (pe_callTy call_strX (by rfl) N.str PyProof.Rows.boot_str (pa_cons (pe_ix ix_tup (pv 1) pe_int (fun _ _ => rfl)) pa_nil))) pe_str) (pe_callTy call_strX (by rfl) N.str PyProof.Rows.boot_str (pa_cons (pe_ix ix_tup (pv 1) pe_int (fun _ _ => rfl)) pa_nil))) pa_nil)))) pss_nil)
      (pss_cons (ps_if (pt_cmpR op_eq (pv 0) pe_str (nomark _))
        (pss_cons (ps_if (pt_cmpR op_ne (pe_ix ix_tup (pv 1) pe_int (fun _ _ => rfl)) pe_int (nomark _)) (pss_one (ps_expr (pe_bm PySem.F.plainAttrs_list PySem.F.slot_list_append PySem.F.type_list_append mt_append (pv 2) (pa_cons (pe_op op_add_str pe_str (pe_callTy call_strX (by rfl) N.str PyProof.Rows.boot_str (pa_cons (pe_ix ix_tup (pv 1) pe_int (fun _ _ => rfl)) pa_nil))) pa_nil)))) pss_nil)
        (pss_one (ps_set (i := 1) scLWhatW.nd rfl (Or.inl rfl) (pe_tup (pa_cons (pe_ix ix_tup (pv 1) pe_int (fun _ _ => rfl)) (pa_cons pe_str (pa_cons (pe_ix ix_tup (pv 1) pe_int (fun _ _ => rfl)) pa_nil))))))) pss_nil)
      (pss_cons (ps_if (pt_cmpR (r := rIn K false) op_in_seq (pv 0) (pe_tup (pa_cons pe_str (pa_cons pe_str (pa_cons pe_str (pa_cons pe_str pa_nil))))) (by rfl))
        (pss_cons (ps_if (pt_cmpR op_ne (pe_ix ix_tup (pv 1) pe_int (fun _ _ => rfl)) pe_int (nomark _)) (pss_one (ps_expr (pe_bm PySem.F.plainAttrs_list PySem.F.slot_list_append PySem.F.type_list_append mt_append (pv 2) (pa_cons (pe_op op_add_str pe_str (pe_callTy call_strX (by rfl) N.str PyProof.Rows.boot_str (pa_cons (pe_ix ix_tup (pv 1) pe_int (fun _ _ => rfl)) pa_nil))) pa_nil)))) pss_nil)
        (pss_cons (ps_if (pt_cmpR op_ne (pe_ix ix_tup (pv 1) pe_int (fun _ _ => rfl)) pe_str (nomark _)) (pss_one (ps_expr (pe_bm PySem.F.plainAttrs_list PySem.F.slot_list_append PySem.F.type_list_append mt_append (pv 2) (pa_cons (pe_op op_add_str pe_str (pe_ix ix_tup (pv 1) pe_int (fun _ _ => rfl))) pa_nil)))) pss_nil)
        (pss_one (ps_if (pt_cmpR op_ne (pe_ix ix_tup (pv 1) pe_int (fun _ _ => rfl)) pe_str (nomark _)) (pss_one (ps_expr (pe_bm PySem.F.plainAttrs_list PySem.F.slot_list_append PySem.F.type_list_append mt_append (pv 2) (pa_cons (pe_op op_add_str pe_str (pe_ix ix_tup (pv 1) pe_int (fun _ _ => rfl))) pa_nil)))) pss_nil)))) pss_nil)
      (pss_cons (ps_if (pw_and (pt_cmpR (r := rIn K false) op_in_seq (pv 0) (pe_tup (pa_cons pe_str (pa_cons pe_str pa_nil))) (by rfl)) (pw_and1 (pt_cmpR op_ne (pe_ix ix_tup (pv 1) (pe_op op_sub (pe_callB call_len_seq (by rfl) N.len PySem.boot_len (pa_cons (pv 1) pa_nil)) pe_int) (fun _ _ => rfl)) pe_int (nomark _)))).pt
        (pss_one (ps_expr (pe_bm PySem.F.plainAttrs_list PySem.F.slot_list_append PySem.F.type_list_append mt_append (pv 2) (pa_cons (pe_op op_add_str pe_str (pe_callTy call_strX (by rfl) N.str PyProof.Rows.boot_str (pa_cons (pe_ix ix_tup (pv 1) (pe_op op_sub (pe_callB call_len_seq (by rfl) N.len PySem.boot_len (pa_cons (pv 1) pa_nil)) pe_int) (fun _ _ => rfl)) pa_nil))) pa_nil)))) pss_nil)
      (pss_one (ps_ret (pv 2))))))), ?_⟩
    refine seq_abs fun N1 hN1 => ?_
    refine ⟨smallE (by simp), fun l hl => hN1 _ _ ?_⟩
    clear hN1 N1
    have s1 : Same H (upd H l (.lst [])) := Same.put (Same.refl _) hl
    have l1 : (upd H l (.lst [])) l = some (.lst (([] : List Str).map V.str)) := upd_same
    generalize upd H l (.lst []) = H1 at *
    refine seq_abs fun N2 hN2 => ?_
    -- behind the leaf's words
    have go2 : ∀ (W : List Str) (H2 : Hp), Same H H2 → H2 l = some (.lst (W.map V.str)) → W.length ≤ 1 → P2 wh W → N2 [some (.str wh.kd), some (.ref q), some (.ref l)] H2 := fun W H2 S2 l2 hW1 hW => by
      refine hN2 _ _ ?_
      clear hN2 N2
      refine seq_abs fun N3 hN3 => ?_
      -- behind the table's
      have go3 : ∀ (q' : Addr) (W : List Str) (H3 : Hp), Same H H3 → H3 l = some (.lst (W.map V.str)) → W.length ≤ 1 → P3 H3 q q' wh W → N3 [some (.str wh.kd), some (.ref q'), some (.ref l)] H3 := fun q' W H3 S3 l3 hW1 hW => by
        refine hN3 _ _ ?_
        clear hN3 N3
        refine seq_abs fun N4 hN4 => ?_
        -- behind gap, align, side
        have go4 : ∀ (W : List Str) (H4 : Hp), Same H3 H4 ∨ True → Same H H4 → H4 l = some (.lst (W.map V.str)) → W.length ≤ 4 → P4 q q' wh W → N4 [some (.str wh.kd), some (.ref q'), some (.ref l)] H4 := fun W H4 _ S4 l4 hW1 hW => by
          refine hN4 _ _ ?_
          clear hN4 N4
          refine seq_abs fun N5 hN5 => ?_
          have fin : ∀ (W : List Str) (H5 : Hp), Same H H5 → H5 l = some (.lst (W.map V.str)) → W = whatW wh → N5 [some (.str wh.kd), some (.ref q'), some (.ref l)] H5 := fun W H5 S5 l5 hW => hN5 _ _ ⟨_, rfl, k l H5 hl S5 (by rw [l5, hW])⟩
          clear hN5
          refine ⟨_, rfl, (by show 2 ≤ sizeLine; decide), fun t ht => ?_⟩
          have s5 : Same H4 (upd H4 t (.tup [.str "words", .str "flow"])) := Same.put (Same.refl _) ht
          have t5 : (upd H4 t (.tup [.str "words", .str "flow"])) t = some (.tup [.str "words", .str "flow"]) := upd_same
          generalize upd H4 t (.tup [.str "words", .str "flow"]) = H5 at *
          have S5 := S4.trans s5
          have l5 := s5 _ _ l4
          refine ⟨t, _, rfl, .inr (SqT.of t5), rfl, rfl, _, rfl, ?_⟩
          have e6 : ("joint=" : Str).length = 6 := by decide +kernel
          cases wh with
          | leaf a b => exact iteC (nin2 (.inl rfl)) (iteF (fin W H5 S5 l5 hW))
          | lined n g al sd => exact iteC (nin2 (by rcases lined3 n g al sd with z | z | z; exact .inr (.inl z); exact .inr (.inr (.inl z)); exact .inr (.inr (.inr (.inl z))))) (iteF (fin W H5 S5 l5 hW))
          | table c g sd sps => exact iteC (nin2 (.inr (.inr (.inr (.inr (.inl rfl)))))) (iteF (fin W H5 S5 l5 hW))
          | over ps => exact iteC (nin2 (.inr (.inr (.inr (.inr (.inr rfl)))))) (iteF (fin W H5 S5 l5 hW))
          | words ws j =>
            obtain ⟨rfl, rfl⟩ := hW
            obtain ⟨sp, hq, _⟩ := hw
            have hq5 := SqT.of (K := K) (S5 _ _ hq)
            have gj := hg.2
            refine iteB (in2 (.inl rfl)) ⟨_, rfl, _, rfl, q', _, rfl, .inr hq5, _, _, rfl, rfl, q', _, _, _, rfl, rfl, hq5, atI_nat (j := 1) rfl, rfl, _, rfl, ?_⟩
            by_cases cc : j = 50
            · rw [decide_eq_true (show V.int j = V.int 50 by rw [cc])]
              exact iteF (fin [] H5 S5 l5 (show [] = jW j from (if_pos cc).symm))
            · rw [decide_eq_false (show ¬ V.int j = V.int 50 from fun z => cc (V.int.inj z))]
              have n1 := nS_len gj
              refine iteT ⟨_, rfl, .inl ⟨rfl, _, SqL.of l5⟩, _, rfl, _, rfl, q', _, rfl, .inr hq5, _, _, rfl, rfl, q', _, _, _, rfl, rfl, hq5, atI_nat (j := 1) rfl, _, rfl, gj, _, _, rfl, rfl, smallE (by rw [e6]; show 6 + (nS j).length ≤ _; omega), l, _, _, rfl, rfl, l5, (by show 0 < sizeLine; decide), ?_⟩
              exact fin ["joint=" ++ nS j] _ (Same.put S5 hl) upd_same (show _ = jW j from (if_neg cc).symm)
          | flow sds ws j =>
            obtain ⟨rfl, rfl⟩ := hW
            obtain ⟨tp, sp, hq, _⟩ := hw
            have hq5 := SqT.of (K := K) (S5 _ _ hq)
            have gj := hg.2.2
            refine iteB (in2 (.inr rfl)) ⟨_, rfl, _, rfl, q', _, rfl, .inr hq5, _, _, rfl, rfl, q', _, _, _, rfl, rfl, hq5, atI_nat (j := 2) rfl, rfl, _, rfl, ?_⟩
            by_cases cc : j = 50
            · rw [decide_eq_true (show V.int j = V.int 50 by rw [cc])]
              exact iteF (fin [] H5 S5 l5 (show [] = jW j from (if_pos cc).symm))
            · rw [decide_eq_false (show ¬ V.int j = V.int 50 from fun z => cc (V.int.inj z))]
              have n1 := nS_len gj
              refine iteT ⟨_, rfl, .inl ⟨rfl, _, SqL.of l5⟩, _, rfl, _, rfl, q', _, rfl, .inr hq5, _, _, rfl, rfl, q', _, _, _, rfl, rfl, hq5, atI_nat (j := 2) rfl, _, rfl, gj, _, _, rfl, rfl, smallE (by rw [e6]; show 6 + (nS j).length ≤ _; omega), l, _, _, rfl, rfl, l5, (by show 0 < sizeLine; decide), ?_⟩
              exact fin ["joint=" ++ nS j] _ (Same.put S5 hl) upd_same (show _ = jW j from (if_neg cc).symm)
        clear hN4
        refine ⟨_, rfl, (by show 4 ≤ sizeLine; decide), fun t ht => ?_⟩
        have s4 : Same H3 (upd H3 t (.tup [.str "row", .str "column", .str "wrap", .str "table"])) := Same.put (Same.refl _) ht
        have t4 : (upd H3 t (.tup [.str "row", .str "column", .str "wrap", .str "table"])) t = some (.tup [.str "row", .str "column", .str "wrap", .str "table"]) := upd_same
        generalize upd H3 t (.tup [.str "row", .str "column", .str "wrap", .str "table"]) = H4 at *
        have S4 := S3.trans s4
        have l4 := s4 _ _ l3
        refine ⟨t, _, rfl, .inr (SqT.of t4), rfl, rfl, _, rfl, ?_⟩
        by_cases hk : wh.kd = "row" ∨ wh.kd = "column" ∨ wh.kd = "wrap" ∨ wh.kd = "table"
        · obtain ⟨g, al, sd, q4, gg, ga, gs, hW4, hWn⟩ : ∃ (g : Int) (al sd : Str), H4 q' = some (.tup [.int g, .str al, .str sd]) ∧ GoodN g ∧ al.length ≤ 10 ∧ sd.length ≤ 10 ∧ whatW wh = W ++ (gW g ++ (aW al ++ sW sd)) ∧ (∀ W', W' = whatW wh → P4 q q' wh W') := by
            cases wh with
            | lined n g al sd =>
              obtain ⟨rfl, rfl⟩ := hW
              exact ⟨g, al, sd, S4 _ _ hw, hg.1, hg.2.1, hg.2.2, rfl, fun W' e => e⟩
            | table c g sd sps =>
              obtain ⟨rfl, h3⟩ := hW
              exact ⟨g, "start", sd, s4 _ _ h3, hg.2.1, by decide +kernel, hg.2.2.1, by rw [show aW "start" = [] from if_pos rfl, List.nil_append]; rfl, fun W' e => e⟩
            | leaf a b => exact absurd hk (by show ¬ (("leaf" : Str) = "row" ∨ ("leaf" : Str) = "column" ∨ ("leaf" : Str) = "wrap" ∨ ("leaf" : Str) = "table"); decide +kernel)
            | words ws j => exact absurd hk (by show ¬ (("words" : Str) = "row" ∨ ("words" : Str) = "column" ∨ ("words" : Str) = "wrap" ∨ ("words" : Str) = "table"); decide +kernel)
            | flow sds ws j => exact absurd hk (by show ¬ (("flow" : Str) = "row" ∨ ("flow" : Str) = "column" ∨ ("flow" : Str) = "wrap" ∨ ("flow" : Str) = "table"); decide +kernel)
            | over ps => exact absurd hk (by show ¬ (("over" : Str) = "row" ∨ ("over" : Str) = "column" ∨ ("over" : Str) = "wrap" ∨ ("over" : Str) = "table"); decide +kernel)
          have lg : (gW g).length ≤ 1 := len1
          have la : (aW al).length ≤ 1 := len1
          have ls : (sW sd).length ≤ 1 := len1
          refine iteB (in4 hk) ?_
          refine seq_abs fun M1 hM1 => ?_
          have g1 : ∀ (H5 : Hp), Same H H5 → H5 l = some (.lst ((W ++ gW g).map V.str)) → H5 q' = some (.tup [.int g, .str al, .str sd]) → M1 [some (.str wh.kd), some (.ref q'), some (.ref l)] H5 := fun H5 S5 l5 q5 => by
            refine hM1 _ _ ?_
            clear hM1 M1
            refine seq_abs fun M2 hM2 => ?_
            have g2 : ∀ (H6 : Hp), Same H H6 → H6 l = some (.lst ((W ++ (gW g ++ aW al)).map V.str)) → H6 q' = some (.tup [.int g, .str al, .str sd]) → M2 [some (.str wh.kd), some (.ref q'), some (.ref l)] H6 := fun H6 S6 l6 q6 => by
              refine hM2 _ _ ?_
              clear hM2 M2
              refine ⟨_, rfl, q', _, _, _, rfl, rfl, SqT.of q6, atI_nat (j := 2) rfl, rfl, _, rfl, ?_⟩
              by_cases cc : sd = "left"
              · rw [decide_eq_true (show V.str sd = V.str "left" by rw [cc])]
                exact iteF (go4 (W ++ (gW g ++ aW al)) H6 (.inr trivial) S6 l6 (by simp only [List.length_append]; omega) (hWn _ (by rw [hW4, show sW sd = [] from if_pos cc, List.append_nil])))
              · rw [kne cc]
                have e5 : ("side=" : Str).length = 5 := by decide +kernel
                refine iteT ⟨_, rfl, .inl ⟨rfl, _, SqL.of l6⟩, _, rfl, q', _, _, _, rfl, rfl, SqT.of q6, atI_nat (j := 2) rfl, _, _, rfl, rfl, smallE (by rw [e5]; omega), l, _, _, rfl, rfl, l6, small (by rw [List.length_map]; simp only [List.length_append]; omega), ?_⟩
                refine go4 (W ++ (gW g ++ aW al) ++ ["side=" ++ sd]) _ (.inr trivial) (Same.put S6 hl) (by rw [upd_same, List.map_append (l₂ := ["side=" ++ sd])]; rfl) (by simp only [List.length_append, List.length_singleton]; omega) (hWn _ ?_)
                rw [hW4, show sW sd = ["side=" ++ sd] from if_neg cc]
                simp only [List.append_assoc]
            clear hM2
            refine ⟨_, rfl, q', _, _, _, rfl, rfl, SqT.of q5, atI_nat (j := 1) rfl, rfl, _, rfl, ?_⟩
            by_cases cc : al = "start"
            · rw [decide_eq_true (show V.str al = V.str "start" by rw [cc])]
              exact iteF (g2 H5 S5 (by rw [show aW al = [] from if_pos cc, List.append_nil]; exact l5) q5)
            · rw [kne cc]
              have e6 : ("align=" : Str).length = 6 := by decide +kernel
              have nq : q' ≠ l := ne_of q5 l5 (by intro z; cases z)
              refine iteT ⟨_, rfl, .inl ⟨rfl, _, SqL.of l5⟩, _, rfl, q', _, _, _, rfl, rfl, SqT.of q5, atI_nat (j := 1) rfl, _, _, rfl, rfl, smallE (by rw [e6]; omega), l, _, _, rfl, rfl, l5, small (by rw [List.length_map]; simp only [List.length_append]; omega), ?_⟩
              refine g2 _ (Same.put S5 hl) ?_ ((upd_ne nq).trans q5)
              rw [upd_same, show aW al = ["align=" ++ al] from if_neg cc, ← List.append_assoc, List.map_append (l₂ := ["align=" ++ al])]
              rfl
          clear hM1
          refine ⟨_, rfl, q', _, _, _, rfl, rfl, SqT.of q4, atI_nat (j := 0) rfl, rfl, _, rfl, ?_⟩
          by_cases cc : g = 0
          · rw [decide_eq_true (show V.int g = V.int 0 by rw [cc])]
            exact iteF (g1 H4 S4 (by rw [show gW g = [] from if_pos cc, List.append_nil]; exact l4) q4)
          · rw [decide_eq_false (show ¬ V.int g = V.int 0 from fun z => cc (V.int.inj z))]
            have e4 : ("gap=" : Str).length = 4 := by decide +kernel
            have n1 := nS_len gg
            have nq : q' ≠ l := ne_of q4 l4 (by intro z; cases z)
            refine iteT ⟨_, rfl, .inl ⟨rfl, _, SqL.of l4⟩, _, rfl, q', _, _, _, rfl, rfl, SqT.of q4, atI_nat (j := 0) rfl, _, rfl, gg, _, _, rfl, rfl, smallE (by rw [e4]; show 4 + (nS g).length ≤ _; omega), l, _, _, rfl, rfl, l4, small (by rw [List.length_map]; omega), ?_⟩
            refine g1 _ (Same.put S4 hl) ?_ ((upd_ne nq).trans q4)
            rw [upd_same, show gW g = ["gap=" ++ nS g] from if_neg cc, List.map_append]
            rfl
        · cases wh with
          | lined n g al sd =>
            refine absurd ?_ hk
            rcases lined3 n g al sd with z | z | z
            · exact .inl z
            · exact .inr (.inl z)
            · exact .inr (.inr (.inl z))
          | table c g sd sps => exact absurd (.inr (.inr (.inr rfl))) hk
          | leaf a b => exact iteC (nin4 (.inl rfl)) (go4 W H4 (.inr trivial) S4 l4 (by omega) hW.1)
          | words ws j => exact iteC (nin4 (.inr (.inl rfl))) (go4 W H4 (.inr trivial) S4 l4 (by omega) hW)
          | flow sds ws j => exact iteC (nin4 (.inr (.inr (.inl rfl)))) (go4 W H4 (.inr trivial) S4 l4 (by omega) hW)
          | over ps => exact iteC (nin4 (.inr (.inr (.inr rfl)))) (go4 W H4 (.inr trivial) S4 l4 (by omega) hW.1)
      clear hN3
      cases wh with
      | leaf a b => exact ⟨_, rfl, rfl, _, rfl, iteC (kne lt') (go3 q W H2 S2 l2 hW1 ⟨hW, rfl⟩)⟩
      | lined n g al sd => exact ⟨_, rfl, rfl, _, rfl, iteC (kne lkt.1) (go3 q W H2 S2 l2 hW1 ⟨hW, rfl⟩)⟩
      | words ws j => exact ⟨_, rfl, rfl, _, rfl, iteC (kne wt) (go3 q W H2 S2 l2 hW1 ⟨hW, rfl⟩)⟩
      | flow sds ws j => exact ⟨_, rfl, rfl, _, rfl, iteC (kne ft) (go3 q W H2 S2 l2 hW1 ⟨hW, rfl⟩)⟩
      | over ps => exact ⟨_, rfl, rfl, _, rfl, iteC (kne ot) (go3 q W H2 S2 l2 hW1 ⟨hW, rfl⟩)⟩
      | table c g sd sps =>
        have hW0 : W = [] := hW
        subst hW0
        obtain ⟨sp, as, hq, _⟩ := hw
        refine ⟨_, rfl, rfl, _, rfl, iteB keq ?_⟩
        refine seq_abs fun M1 hM1 => ?_
        have g1 : ∀ (H5 : Hp), Same H H5 → H5 l = some (.lst ((if c = 1 then [] else ["columns=" ++ nS c] : List Str).map V.str)) → M1 [some (.str "table"), some (.ref q), some (.ref l)] H5 := fun H5 S5 l5 => by
          refine hM1 _ _ ?_
          have q5 := SqT.of (K := K) (S5 _ _ hq)
          refine ⟨_, rfl, q, _, _, _, rfl, rfl, q5, atI_nat (j := 1) rfl, _, rfl, q, _, _, _, rfl, rfl, q5, atI_nat (j := 2) rfl, (by show 3 ≤ sizeLine; decide), fun q' hq' => ?_⟩
          have nq : l ≠ q' := fun z => by rw [← z, l5] at hq'; cases hq'
          exact go3 q' _ _ (Same.put S5 (S5.free hq')) ((upd_ne nq).trans l5) len1 ⟨rfl, upd_same⟩
        clear hM1
        refine ⟨_, rfl, q, _, _, _, rfl, rfl, SqT.of (S2 _ _ hq), atI_nat (j := 0) rfl, rfl, _, rfl, ?_⟩
        by_cases cc : c = 1
        · rw [decide_eq_true (show V.int c = V.int 1 by rw [cc])]
          exact iteF (g1 H2 S2 (by rw [if_pos cc]; exact l2))
        · rw [decide_eq_false (show ¬ V.int c = V.int 1 from fun z => cc (V.int.inj z))]
          have e8 : ("columns=" : Str).length = 8 := by decide +kernel
          have n1 := nS_len hg.1
          refine iteT ⟨_, rfl, .inl ⟨rfl, _, SqL.of l2⟩, _, rfl, q, _, _, _, rfl, rfl, SqT.of (S2 _ _ hq), atI_nat (j := 0) rfl, _, rfl, hg.1, _, _, rfl, rfl, smallE (by rw [e8]; show 8 + (nS c).length ≤ _; omega), l, _, _, rfl, rfl, l2, (by show 0 < sizeLine; decide), ?_⟩
          exact g1 _ (Same.put S2 hl) (by rw [upd_same, if_neg cc]; rfl)
    clear hN2
    cases wh with
    | lined n g al sd => exact ⟨_, rfl, rfl, _, rfl, iteC (kne lkt.2.2.2.1) (iteF (go2 [] H1 s1 l1 (by decide) rfl))⟩
    | words ws j => exact ⟨_, rfl, rfl, _, rfl, iteC (kne wl) (iteF (go2 [] H1 s1 l1 (by decide) rfl))⟩
    | flow sds ws j => exact ⟨_, rfl, rfl, _, rfl, iteC (kne fl) (iteF (go2 [] H1 s1 l1 (by decide) rfl))⟩
    | over ps => exact ⟨_, rfl, rfl, _, rfl, iteC (kne ol) (iteF (go2 [] H1 s1 l1 (by decide) rfl))⟩
    | table c g sd sps => exact ⟨_, rfl, rfl, _, rfl, iteC (kne tl) (iteF (go2 [] H1 s1 l1 (by decide) rfl))⟩
    | leaf a b =>
      refine ⟨_, rfl, rfl, _, rfl, iteB keq ⟨_, rfl, (by show 2 ≤ sizeLine; decide), fun t ht => ?_⟩⟩
      have s2 : Same H1 (upd H1 t (.tup [.int 0, .int 0])) := Same.put (Same.refl _) ht
      have t2 : (upd H1 t (.tup [.int 0, .int 0])) t = some (.tup [.int ((0, 0) : Int × Int).1, .int ((0, 0) : Int × Int).2]) := upd_same
      generalize upd H1 t (.tup [.int 0, .int 0]) = H2 at *
      have S2 := s1.trans s2
      have l2 := s2 _ _ l1
      have q2 : H2 q = some (.tup [.int a, .int b]) := S2 _ _ hw
      refine ne_pair (x := (a, b)) q2 t2 ⟨_, rfl, ?_⟩
      by_cases cc : (a, b) = ((0 : Int), (0 : Int))
      · rw [decide_eq_true cc]
        exact iteF (go2 [] H2 S2 l2 (by decide) (show [] = _ from (if_pos cc).symm))
      · rw [decide_eq_false cc]
        have n1 := nS_len hg.1
        have n2 := nS_len hg.2
        have e5 : ("wish=" : Str).length = 5 := by decide +kernel
        refine iteT ⟨_, rfl, .inl ⟨rfl, _, SqL.of l2⟩, _, rfl, q, _, _, _, rfl, rfl, SqT.of q2, atI_nat (j := 0) rfl, _, rfl, hg.1, _, _, rfl, rfl, smallE (by rw [e5]; show 5 + (nS a).length ≤ _; omega), _, _, rfl, rfl, smallE (by rw [Str.length_append, e5, len_cm]; show 5 + (nS a).length + 1 ≤ _; omega), _, rfl, q, _, _, _, rfl, rfl, SqT.of q2, atI_nat (j := 1) rfl, _, rfl, hg.2, _, _, rfl, rfl, smallE (by rw [Str.length_append, Str.length_append, e5, len_cm]; show 5 + (nS a).length + 1 + (nS b).length ≤ _; omega), l, _, _, rfl, rfl, l2, (by show 0 < sizeLine; decide), ?_⟩
        exact go2 [(("wish=" ++ nS a) ++ ",") ++ nS b] _ (Same.put S2 hl) upd_same (Nat.le_refl 1) (show _ = _ from (if_neg cc).symm)
end
end B08
namespace B08
open PySem L2 S2 DW
def spLRows (m : Nat) : Sp := fun vs H Q _ => ∃ (a le : Addr) (d : BoxD) (cs : Fo) (n : Nat) (eh : What) (i : Nat), vs = [.ref a, .int (n : Int), .ref le] ∧ (Fo.cons a d cs .nil).Ok H ∧ (Fo.cons a d cs .nil).Good ∧ cs.hgt < m ∧ cs.cnt ≤ 100 ∧ n + m ≤ 100 ∧ eh.Good ∧ H le = some (.lst ((exW eh i).map V.str)) ∧
  ∀ (l : Addr) (H' : Hp), H l = none → Same H H' → H' l = some (.lst ((rowS d n eh i :: fRows cs (n + 1) d.wh 0).map V.str)) → Q (.ref l) H'
section
variable {P : Program} {w : World} {K : PySem.W.Frag} {mg : Str → Option Value} {base : Heap}
theorem scLRows : FnScope ["_law_box_here", "_law_deep", "_law_extra", "_law_kind", "_law_name", "_law_own", "_law_what_here", "_law_parts", "_law_words_here", "_law_rows_here", "_law_at", "_law_part"] ["_law_box_here", "_law_deep", "_law_extra"] (defScope sLRows) := ⟨rfl, rfl, rfl, by decide +kernel, rfl, by decide +kernel, by decide +kernel⟩
set_option maxHeartbeats 16000000 in
theorem ok_lrows {f f1 f2 f3 f4 : Addr} {fd d1 d2 d3 d4 : FuncData} (F : Fun K "_law_rows" "_law_rows" sLRows f fd) (N : Names mg)
    (G1 : FnOk P w K mg base CX0 1 f1 d1 ["_law_own"] spLOwnW) (b1 : Binds K d1 ["_law_own"] []) (m1 : mg "_law_own_words" = some (.ref f1)) (k1 : PySem.W.keepIn K (.ref f1) = true)
    (G2 : FnOk P w K mg base CX0 1 f2 d2 ["_law_kind", "_law_what_here"] spLWhatW) (b2 : Binds K d2 ["_law_kind", "_law_what_here"] []) (m2 : mg "_law_what_words" = some (.ref f2)) (k2 : PySem.W.keepIn K (.ref f2) = true)
    (G3 : FnOk P w K mg base CX0 1 f3 d3 ["_law_kind", "_law_what_here", "_law_at"] spLPartW) (b3 : Binds K d3 ["_law_kind", "_law_what_here", "_law_at"] []) (m3 : mg "_law_part_words" = some (.ref f3)) (k3 : PySem.W.keepIn K (.ref f3) = true)
    (G4 : FnOk P w K mg base CX0 1 f4 d4 ["_law_kind", "_law_what_here"] spLTextW) (b4 : Binds K d4 ["_law_kind", "_law_what_here"] []) (m4 : mg "_law_text_words" = some (.ref f4)) (k4 : PySem.W.keepIn K (.ref f4) = true)
    (bF : Binds K fd ["_law_box_here", "_law_deep", "_law_extra"] []) (mF : mg "_law_rows" = some (.ref f)) (kF : PySem.W.keepIn K (.ref f) = true) : ∀ m : Nat, FnOk P w K mg base CX0 (m + 2) f fd ["_law_box_here", "_law_deep", "_law_extra"] (spLRows m) := by
  intro m
  induction m with
  | zero =>
    refine F.ok scLRows (fun vs H Q E h => ?_) (fun cdv A outer s H vs Q E hr h => ?_)
    · obtain ⟨a, p, d, cs, n, eh, i, e, _⟩ := h
      rw [e]
      rfl
    · obtain ⟨a, p, d, cs, n, eh, i, e, _, _, hh, _⟩ := h
      exact absurd hh (Nat.not_lt_zero _)
  | succ m ih =>
    refine F.ok scLRows (fun vs H Q E h => ?_) (fun cdv A outer s H vs Q E hr h => ?_)
    · obtain ⟨a, p, d, cs, n, eh, i, e, _⟩ := h
      rw [e]
      rfl
    · obtain ⟨a, lx, d, cs, n, eh, i, e, ⟨hbox, okc, _⟩, ⟨⟨g1, g2, g3, g4⟩, gc, _⟩, hh, hc, hn, hge, hlx, k⟩ := h
      subst e
      have hr1 := hr.mono (j := 1) (by omega)
      refine ⟨_, pss_cons (ps_asg (pv 0) (pg_tup rfl (pgs_cons (pg_name (i := 3) scLRows.nd rfl (Or.inl rfl)) (pgs_cons (pg_name (i := 4) scLRows.nd rfl (Or.inl rfl)) (pgs_cons (pg_name (i := 5) scLRows.nd rfl (Or.inl rfl)) (pgs_cons (pg_name (i := 6) scLRows.nd rfl (Or.inl rfl)) (pgs_cons (pg_name (i := 7) scLRows.nd rfl (Or.inl rfl)) pgs_nil)))))))
        (pss_cons (ps_set (i := 8) scLRows.nd rfl (Or.inl rfl) (pe_op op_cat (pe_op op_cat (pe_op op_cat (pe_op op_cat (pe_lst (pa_cons (pv 3) (pa_cons (pv 4) pa_nil))) (pe_call G1 hr1 (by rfl) m1 k1 b1 .nil pass0 (pa_cons (pv 5) pa_nil))) (pe_call G2 hr1 (by rfl) m2 k2 b2 .nil pass0 (pa_cons (pv 3) (pa_cons (pv 6) pa_nil)))) (pv 2)) (pe_call G4 hr1 (by rfl) m4 k4 b4 .nil pass0 (pa_cons (pv 3) (pa_cons (pv 6) pa_nil)))))
        (pss_cons (ps_set (i := 9) scLRows.nd rfl (Or.inl rfl) (pe_lst (pa_cons (pe_op op_add_str (pe_op op_mulD pe_str (pv 1)) (pe_bm PySem.F.plainAttrs_str PySem.F.slot_str_join PySem.F.type_str_join mt_join pe_str (pa_cons (pv 8) pa_nil))) pa_nil)))
        (pss_cons (ps_for PassesOwn.never rfl (pi_enT (by rfl) N.enum (pa_cons (pv 7) pa_nil)) (pg_tup rfl (pgs_cons (pg_name (i := 10) scLRows.nd rfl (Or.inl rfl)) (pgs_cons (pg_name (i := 11) scLRows.nd rfl (Or.inl rfl)) pgs_nil)))
          (pss_one (ps_set (i := 9) scLRows.nd rfl (Or.inl rfl) (pe_op op_cat (pv 9) (pe_call ih hr (by rfl) mF kF bF .nil pass0 (pa_cons (pv 11) (pa_cons (pe_op op_add (pv 1) pe_int) (pa_cons (pe_call G3 hr1 (by rfl) m3 k3 b3 .nil pass0 (pa_cons (pv 3) (pa_cons (pv 6) (pa_cons (pv 10) pa_nil)))) pa_nil))))))))
        (pss_one (ps_ret (pv 9)))))), ?_⟩
      obtain ⟨ao, q, ap, ha, hao, hw, hap⟩ := id hbox
      refine seq_abs fun N1 hN1 => ?_
      refine ⟨_, rfl, a, _, rfl, SqT.of ha, rfl, _, _, rfl, _, _, rfl, _, _, rfl, _, _, rfl, _, _, rfl, rfl, hN1 _ _ ?_⟩
      clear hN1 N1
      have hrl := rowL_LB (i := i) g1 g2 g3 hge
      -- the words
      refine seq_abs fun N2 hN2 => ?_
      refine ⟨_, rfl, _, rfl, (by show 2 ≤ sizeLine; decide), fun l0 hl0 => ?_⟩
      have s1 : Same H (upd H l0 (.lst [.str d.wh.kd, .str d.nm])) := Same.put (Same.refl _) hl0
      have c1 : (upd H l0 (.lst [.str d.wh.kd, .str d.nm])) l0 = some (.lst ([d.wh.kd, d.nm].map V.str)) := upd_same
      generalize upd H l0 (.lst [.str d.wh.kd, .str d.nm]) = H1 at *
      refine ⟨_, rfl, ao, d.own, rfl, hao.keep (KT.same s1), g2, fun l2 H2 hl2 s2 c2 => ?_⟩
      have o6 := ownW_len d.own
      refine ⟨l0, l2, _, _, rfl, rfl, s2 _ _ c1, c2, smallE (by rw [List.length_map, List.length_map]; show 2 + _ ≤ _; omega), fun l3 hl3 => ?_⟩
      have S2 := s1.trans s2
      have s3 : Same H2 (upd H2 l3 (.lst ([d.wh.kd, d.nm].map V.str ++ (ownW d.own).map V.str))) := Same.put (Same.refl _) hl3
      have c3 : (upd H2 l3 (.lst ([d.wh.kd, d.nm].map V.str ++ (ownW d.own).map V.str))) l3 = some (.lst ((d.wh.kd :: d.nm :: ownW d.own).map V.str)) := upd_same
      generalize upd H2 l3 (.lst ([d.wh.kd, d.nm].map V.str ++ (ownW d.own).map V.str)) = H3 at *
      have S3 := S2.trans s3
      refine ⟨_, rfl, _, rfl, q, d.wh, rfl, hw.keep (KT.same S3), g1, fun l4 H4 hl4 s4 c4 => ?_⟩
      have hrl2 := hrl.2
      unfold rowL at hrl2
      simp only [List.length_cons, List.length_append] at hrl2
      refine ⟨l3, l4, _, _, rfl, rfl, s4 _ _ c3, c4, smallE (by rw [List.length_map, List.length_map, List.length_cons, List.length_cons]; omega), fun l5 hl5 => ?_⟩
      have S4 := S3.trans s4
      have s5 : Same H4 (upd H4 l5 (.lst ((d.wh.kd :: d.nm :: ownW d.own).map V.str ++ (whatW d.wh).map V.str))) := Same.put (Same.refl _) hl5
      have c5 : (upd H4 l5 (.lst ((d.wh.kd :: d.nm :: ownW d.own).map V.str ++ (whatW d.wh).map V.str))) l5 = some (.lst ((d.wh.kd :: d.nm :: (ownW d.own ++ whatW d.wh)).map V.str)) := by rw [upd_same, ← List.map_append]; rfl
      generalize upd H4 l5 (.lst ((d.wh.kd :: d.nm :: ownW d.own).map V.str ++ (whatW d.wh).map V.str)) = H5 at *
      have S5 := S4.trans s5
      refine ⟨_, rfl, l5, lx, _, _, rfl, rfl, c5, S5 _ _ hlx, smallE (by rw [List.length_map, List.length_map, List.length_cons, List.length_cons, List.length_append]; omega), fun l6 hl6 => ?_⟩
      have s6 : Same H5 (upd H5 l6 (.lst ((d.wh.kd :: d.nm :: (ownW d.own ++ whatW d.wh)).map V.str ++ (exW eh i).map V.str))) := Same.put (Same.refl _) hl6
      have c6 : (upd H5 l6 (.lst ((d.wh.kd :: d.nm :: (ownW d.own ++ whatW d.wh)).map V.str ++ (exW eh i).map V.str))) l6 = some (.lst ((d.wh.kd :: d.nm :: (ownW d.own ++ (whatW d.wh ++ exW eh i))).map V.str)) := by rw [upd_same, ← List.map_append, List.cons_append, List.cons_append, List.append_assoc]
      generalize upd H5 l6 (.lst ((d.wh.kd :: d.nm :: (ownW d.own ++ whatW d.wh)).map V.str ++ (exW eh i).map V.str)) = H6 at *
      have S6 := S5.trans s6
      refine ⟨_, rfl, _, rfl, q, d.wh, rfl, hw.keep (KT.same S6), g1, fun l7 H7 hl7 s7 c7 => ?_⟩
      refine ⟨l6, l7, _, _, rfl, rfl, s7 _ _ c6, c7, smallE (by rw [List.length_map, List.length_map, List.length_cons, List.length_cons, List.length_append, List.length_append]; omega), fun l8 hl8 => hN2 _ _ ?_⟩
      clear hN2 N2
      have S7 := S6.trans s7
      have s8 : Same H7 (upd H7 l8 (.lst ((d.wh.kd :: d.nm :: (ownW d.own ++ (whatW d.wh ++ exW eh i))).map V.str ++ (txW d.wh).map V.str))) := Same.put (Same.refl _) hl8
      have c8 : (upd H7 l8 (.lst ((d.wh.kd :: d.nm :: (ownW d.own ++ (whatW d.wh ++ exW eh i))).map V.str ++ (txW d.wh).map V.str))) l8 = some (.lst ((rowL d eh i).map V.str)) := by
        rw [upd_same, ← List.map_append, List.cons_append, List.cons_append, List.append_assoc, List.append_assoc]
        rfl
      generalize upd H7 l8 (.lst ((d.wh.kd :: d.nm :: (ownW d.own ++ (whatW d.wh ++ exW eh i))).map V.str ++ (txW d.wh).map V.str)) = H8 at *
      have S8 := S7.trans s8
      clear c1 c2 c3 c4 c5 c6 c7 s1 s2 s3 s4 s5 s6 s7 s8 S2 S3 S4 S5 S6 S7
      -- the row
      refine seq_abs fun N3 hN3 => ?_
      have rg := glue_len " " (rowL d eh i) hrl.1
      have e1 : (" " : Str).length = 1 := by decide +kernel
      rw [e1] at rg
      have rg2 : (rowL d eh i).length * 81 ≤ 18 * 81 := Nat.mul_le_mul_right _ hrl.2
      refine ⟨_, rfl, "  ", n, rfl, rfl, by omega, by rw [len_two]; decide, by rw [len_two]; decide, rfl, _, rfl, " ", l8, rowL d eh i, rfl, rfl, SqL.of c8, ?_, _, _, rfl, rfl, smallE (by rw [repS_len, len_two]; omega), (by show 1 ≤ sizeLine; decide), fun l hl => hN3 _ _ ?_⟩
      · have := sum_le (rowL d eh i) hrl.1
        have := hrl.2
        rw [e1]
        omega
      clear hN3 N3
      have hl0' : H l = none := S8.free hl
      have s9 : Same H (upd H8 l (.lst [.str (repS "  " n ++ Txt.join " " (rowL d eh i))])) := Same.put S8 hl0'
      have h9 : (upd H8 l (.lst [.str (repS "  " n ++ Txt.join " " (rowL d eh i))])) l = some (.lst ((rowS d n eh i :: fRows .nil (n + 1) d.wh 0).map V.str)) := upd_same
      generalize upd H8 l (.lst [.str (repS "  " n ++ Txt.join " " (rowL d eh i))]) = H9 at *
      refine seq_abs fun N4 hN4 => ?_
      refine ⟨_, rfl, ap, rfl, ⟨_, SqT.of (s9 _ _ hap)⟩, ?_⟩
      refine for_en (Sq := fun H xs => SqT K H ap xs) (k := 0) (xs := cs.tops.map V.ref) (fun j σ H9 => ∃ (F1 F2 : Fo) (lr : Addr) (u10 u11 : Option V), σ = [some (.ref a), some (.int (n : Int)), some (.ref lx), some (.str d.wh.kd), some (.str d.nm), some (.ref ao), some (.ref q), some (.ref ap), some (.ref l8), some (.ref lr), u10, u11] ∧ cs = F1.app F2 ∧ F1.tops.length = j ∧ Same H H9 ∧ H lr = none ∧ H9 lr = some (.lst ((rowS d n eh i :: fRows F1 (n + 1) d.wh 0).map V.str)))
        ⟨.nil, cs, l, none, none, rfl, rfl, rfl, s9, hl0', h9⟩ (fun j σ H9 _ ⟨_, _, _, _, _, _, _, _, z, _⟩ => SqT.of (z _ _ hap)) ?_ ?_
      · rintro j x t σ H10 hx ht ⟨F1, F2, lr, u10, u11, rfl, ecs, hj, S10, hlr, h10⟩
        rw [List.getElem?_map, ecs, Fo.tops_app, List.getElem?_append_right (by omega), hj, Nat.sub_self] at hx
        cases F2 with
        | nil => cases hx
        | cons c dc cc as =>
          have ex : V.ref c = x := Option.some.inj hx
          subst ex
          have ht9 : (upd H10 t (.tup [.int (0 + (j : Int)), .ref c])) t = some (.tup [.int (0 + (j : Int)), .ref c]) := upd_same
          have s11 : Same H10 (upd H10 t (.tup [.int (0 + (j : Int)), .ref c])) := Same.put (Same.refl _) ht
          have h11 := s11 _ _ h10
          have S11 := S10.trans s11
          generalize upd H10 t (.tup [.int (0 + (j : Int)), .ref c]) = H11 at *
          have okc' := okc.keep (KT.same S11)
          have gc' := gc
          have hc' := hc
          have hh' := hh
          rw [ecs] at okc' gc' hc' hh'
          rw [Fo.ok_app] at okc'
          rw [Fo.good_app] at gc'
          rw [Fo.cnt_app] at hc'
          rw [Fo.hgt_app] at hh'
          obtain ⟨-, bc, occ, -⟩ := okc'
          obtain ⟨-, gd, gcc, -⟩ := gc'
          have hcc : F1.cnt + (cc.cnt + as.cnt + 1) ≤ 100 := hc'
          have hhc : max F1.hgt (max (cc.hgt + 1) as.hgt) < m + 1 := hh'
          have hjt : j < cs.tops.length := by
            rw [ecs, Fo.tops_app, List.length_append, hj]
            show j < j + (as.tops.length + 1)
            omega
          refine ⟨t, _, rfl, SqT.of ht9, rfl, _, _, rfl, _, _, rfl, rfl, ?_⟩
          refine ⟨_, rfl, _, rfl, _, rfl, _, _, rfl, rfl, _, rfl, _, rfl, _, rfl, ?_⟩
          refine ⟨q, d.wh, cs.tops.length, j, by rw [show (0 : Int) + (j : Int) = (j : Int) from Int.zero_add _]; rfl, hw.keep (KT.same S11), g1, g4, hjt, fun lp H12 hlp s12 h12 => ?_⟩
          have S12 := S11.trans s12
          refine ⟨c, lp, dc, cc, n + 1, d.wh, j, rfl, ⟨bc.keep (KT.same s12), occ.keep (KT.same s12), trivial⟩, ⟨gd, gcc, trivial⟩, by omega, by omega, by omega, g1, h12, fun lz H13 hlz s13 h13 => ?_⟩
          have hl1 := fRows_len 0 noEh F1 (n + 1) d.wh 0
          have hl2 := fRows_len 0 noEh cc (n + 1 + 1) dc.wh 0
          refine ⟨lr, lz, _, _, rfl, rfl, (s12.trans s13) _ _ h11, h13, smallE (by rw [List.length_map, List.length_map, List.length_cons, List.length_cons]; omega), fun ln hln => ?_⟩
          have S13 := S12.trans s13
          refine ⟨F1.app (.cons c dc cc .nil), as, ln, _, _, rfl, by rw [ecs, Fo.app_app]; rfl, by rw [Fo.tops_app, List.length_append, hj]; rfl, Same.put S13 (S13.free hln), S13.free hln, ?_⟩
          rw [upd_same, fRows_app, ← List.map_append]
          rw [hj, Nat.zero_add]
          show some (HO.lst (((rowS d n eh i :: fRows F1 (n + 1) d.wh 0) ++ (rowS dc (n + 1) d.wh j :: fRows cc (n + 1 + 1) dc.wh 0)).map V.str)) = some (HO.lst ((rowS d n eh i :: (fRows F1 (n + 1) d.wh 0 ++ (rowS dc (n + 1) d.wh j :: (fRows cc (n + 1 + 1) dc.wh 0 ++ [])))).map V.str))
          rw [List.append_nil]
          rfl
      · rintro σ H10 ⟨F1, F2, lr, u10, u11, rfl, ecs, hj, S10, hlr, h10⟩
        refine hN4 _ _ ?_
        have e2 : F2 = .nil := by
          have e := congrArg (fun F => F.tops.length) ecs
          have e' : cs.tops.length = (F1.app F2).tops.length := e
          rw [Fo.tops_app, List.length_append, hj, List.length_map] at e'
          cases F2 with
          | nil => rfl
          | cons c dc cc as =>
            have : (Fo.cons c dc cc as).tops.length = as.tops.length + 1 := rfl
            omega
        subst e2
        rw [Fo.app_nil] at ecs
        subst ecs
        exact ⟨_, rfl, k lr H10 hlr S10 h10⟩
theorem scLDue : FnScope ["_law_tree"] ["_law_tree"] (defScope sLDue) := ⟨rfl, rfl, rfl, by decide +kernel, rfl, by decide +kernel, by decide +kernel⟩
set_option maxHeartbeats 4000000 in
theorem ok_ldue {f f1 : Addr} {fd d1 : FuncData} (F : Fun K "_law_due" "_law_due" sLDue f fd)
    (G1 : FnOk P w K mg base CX0 14 f1 d1 ["_law_box_here", "_law_deep", "_law_extra"] (spLRows 12)) (b1 : Binds K d1 ["_law_box_here", "_law_deep", "_law_extra"] []) (m1 : mg "_law_rows" = some (.ref f1)) (k1 : PySem.W.keepIn K (.ref f1) = true) : FnOk P w K mg base CX0 15 f fd ["_law_tree"] spTreeText := by
  refine F.ok scLDue (fun vs H Q E h => ?_) (fun cdv A outer s H vs Q E hr h => ?_)
  · obtain ⟨a, d, cs, e, _⟩ := h
    rw [e]
    rfl
  · obtain ⟨a, d, cs, e, hok, hg, hh, hc, k⟩ := h
    subst e
    refine ⟨_, pss_one (ps_ret (pe_bm PySem.F.plainAttrs_str PySem.F.slot_str_join PySem.F.type_str_join mt_join pe_str (pa_cons (pe_call G1 hr (by rfl) m1 k1 b1 .nil pass0 (pa_cons (pv 0) (pa_cons pe_int (pa_cons (pe_lst pa_nil) pa_nil)))) pa_nil))), ?_⟩
    refine ⟨rfl, _, rfl, smallE (by simp), fun p hp => ?_⟩
    have s1 : Same H (upd H p (.lst [])) := Same.put (Same.refl _) hp
    have h1 : (upd H p (.lst [])) p = some (.lst ((exW noEh 0).map V.str)) := upd_same
    generalize upd H p (.lst []) = H1 at *
    refine ⟨a, p, d, cs, 0, noEh, 0, rfl, hok.keep (KT.same s1), hg, hh, by omega, by decide, noEh_good, h1, fun l H2 hl s2 h2 => ?_⟩
    refine ⟨"\n", l, _, rfl, rfl, SqL.of h2, ?_, k H2 (s1.trans s2)⟩
    have e : ("\n" : Str).length = 1 := by decide +kernel
    obtain ⟨⟨g1, g2, g3, _⟩, gc, _⟩ := hg
    have hb : LB 2000 (rowS d 0 noEh 0 :: fRows cs (0 + 1) d.wh 0) := LB.app (a := [rowS d 0 noEh 0]) (LB.one (rowS_len (by decide) g1 g2 g3 noEh_good)) (fRows_LB cs 1 d.wh 0 gc g1 (by omega))
    have h3 := sum_le _ hb
    have h4 := fRows_len 0 noEh cs (0 + 1) d.wh 0
    rw [List.length_cons, h4] at h3
    rw [e, List.length_cons, h4]
    have : (cs.cnt + 1) * 2000 ≤ 21 * 2000 := Nat.mul_le_mul_right _ (by omega)
    omega
end
end B08
namespace B08
open PySem L2 S2 DW
theorem kit_str {K : PySem.W.Frag} : PySem.W.kitOne K (.type "str") (.type "str") = some true := by rfl
def spLaw (K : PySem.W.Frag) : Sp := fun vs H Q _ => ∃ (a : Addr) (ns : List Int), vs = [.ref a] ∧ SqL K H a (ns.map V.int) ∧ ns.length ≤ 63 ∧ ∀ H', Q (.bl true) H'
section
variable {P : Program} {w : World} {K : PySem.W.Frag} {mg : Str → Option Value} {base : Heap}
abbrev nLaw : List Str := ["_law_script", "_law_stream_here", "_law_names_here", "_law_one", "_law_other", "_law_found"]
theorem scLaw : FnScope nLaw ["_law_script"] (defScope sLaw) := ⟨rfl, rfl, rfl, by decide +kernel, rfl, by decide +kernel, by decide +kernel⟩
set_option maxHeartbeats 16000000 in
theorem ok_law {f f1 f2 f3 f4 f5 f6 : Addr} {fd d1 d2 d3 d4 d5 d6 : FuncData} (F : Fun K "law" "law" sLaw f fd) (N : Names mg)
    (G1 : FnOk P w K mg base CX0 1 f1 d1 ["_law_script"] (spStream K)) (b1 : Binds K d1 ["_law_script"] []) (m1 : mg "_law_stream" = some (.ref f1)) (k1 : PySem.W.keepIn K (.ref f1) = true)
    (G2 : FnOk P w K mg base CX0 1 f2 d2 ["_law_stream_here", "_law_many"] spTake) (b2 : Binds K d2 ["_law_stream_here", "_law_many"] []) (m2 : mg "_law_take" = some (.ref f2)) (k2 : PySem.W.keepIn K (.ref f2) = true)
    (G3 : FnOk P w K mg base CX0 2 f3 d3 ["_law_stream_here", "_law_many"] spLNames) (b3 : Binds K d3 ["_law_stream_here", "_law_many"] []) (m3 : mg "_law_names" = some (.ref f3)) (k3 : PySem.W.keepIn K (.ref f3) = true)
    (G4 : FnOk P w K mg base CX0 12 f4 d4 ["_law_stream_here", "_law_names_here", "_law_deep", "_law_tabled"] (spLBox 8)) (b4 : Binds K d4 ["_law_stream_here", "_law_names_here", "_law_deep", "_law_tabled"] []) (m4 : mg "_law_box" = some (.ref f4)) (k4 : PySem.W.keepIn K (.ref f4) = true)
    (G5 : FnOk P w K mg base CX0 17 f5 d5 ["tree"] spTreeText) (b5 : Binds K d5 ["tree"] []) (m5 : mg "tree_text" = some (.ref f5)) (k5 : PySem.W.keepIn K (.ref f5) = true)
    (G6 : FnOk P w K mg base CX0 15 f6 d6 ["_law_tree"] spTreeText) (b6 : Binds K d6 ["_law_tree"] []) (m6 : mg "_law_due" = some (.ref f6)) (k6 : PySem.W.keepIn K (.ref f6) = true) :
    FnOk P w K mg base CX0 18 f fd ["_law_script"] (spLaw K) := by
  refine F.ok scLaw (fun vs H Q E h => ?_) (fun cdv A outer s H vs Q E hr h => ?_)
  · obtain ⟨a, ns, e, _⟩ := h
    rw [e]
    rfl
  · obtain ⟨a, ns, e, hS, hn, k⟩ := h
    subst e
    have hr1 := hr.mono (j := 1) (by decide)
    have hr2 := hr.mono (j := 2) (by decide)
    have hr12 := hr.mono (j := 12) (by decide)
    have hr15 := hr.mono (j := 15) (by decide)
    refine ⟨_, pss_cons (ps_set (i := 1) scLaw.nd rfl (Or.inl rfl) (pe_call G1 hr1 (by rfl) m1 k1 b1 .nil pass0 (pa_cons (pv 0) pa_nil)))
      (pss_cons (ps_set (i := 2) scLaw.nd rfl (Or.inl rfl) (pe_call G3 hr2 (by rfl) m3 k3 b3 .nil pass0 (pa_cons (pv 1) (pa_cons (pe_op op_add pe_int (pe_call G2 hr1 (by rfl) m2 k2 b2 .nil pass0 (pa_cons (pv 1) (pa_cons pe_int pa_nil)))) pa_nil))))
      (pss_cons (ps_set (i := 3) scLaw.nd rfl (Or.inl rfl) (pe_call G4 hr12 (by rfl) m4 k4 b4 .nil pass0 (pa_cons (pv 1) (pa_cons (pe_callTy call_list_of (by rfl) N.list PyProof.Rows.boot_list (pa_cons (pv 2) pa_nil)) (pa_cons pe_int (pa_cons pe_bl pa_nil))))))
      (pss_cons (ps_set (i := 4) scLaw.nd rfl (Or.inl rfl) (pe_call G4 hr12 (by rfl) m4 k4 b4 .nil pass0 (pa_cons (pv 1) (pa_cons (pe_callTy call_list_of (by rfl) N.list PyProof.Rows.boot_list (pa_cons (pv 2) pa_nil)) (pa_cons pe_int (pa_cons pe_bl pa_nil))))))
      (pss_cons (ps_set (i := 5) scLaw.nd rfl (Or.inl rfl) (pe_call G5 hr (by rfl) m5 k5 b5 .nil pass0 (pa_cons (pv 3) pa_nil)))
      (pss_cons (ps_if (pw_or (pt_not (pt_val (pe_callB call_isinst (by rfl) N.inst PyProof.Rows.boot_isinstance (pa_cons (pv 5) (pa_cons (pe_bltn (v := .ty "str") (by rfl) N.str PyProof.Rows.boot_str rfl (by decide)) pa_nil))))) (pw_or1 (pt_cmpR op_ne (pv 5) (pe_call G6 hr15 (by rfl) m6 k6 b6 .nil pass0 (pa_cons (pv 3) pa_nil)) (nomark _)))).pt (pss_one (ps_ret pe_bl)) pss_nil)
      (pss_one (ps_ret (pe_and (pe_cmpR op_eq (pe_call G5 hr (by rfl) m5 k5 b5 .nil pass0 (pa_cons (pv 4) pa_nil)) (pe_call G6 hr15 (by rfl) m6 k6 b6 .nil pass0 (pa_cons (pv 4) pa_nil)) (nomark _)) (pe_one (pe_cmpR op_eq (pe_call G5 hr (by rfl) m5 k5 b5 .nil pass0 (pa_cons (pv 3) pa_nil)) (pv 5) (nomark _))))))))))), ?_⟩
    refine seq_abs fun N1 hN1 => ?_
    refine ⟨_, rfl, a, ns, rfl, hS, hn, fun st d z H1 hst0 s1 hst => hN1 _ _ ?_⟩
    clear hN1 N1
    -- names
    refine seq_abs fun N2 hN2 => ?_
    refine ⟨_, rfl, _, rfl, st, d, z, 14, rfl, hst, by decide, by decide, fun v d2 z2 v0 v1 => ?_⟩
    have hst2 : (upd H1 st (.lst [.int d2, .int z2])) st = some (.lst [.int d2, .int z2]) := upd_same
    generalize upd H1 st (.lst [.int d2, .int z2]) = H2 at *
    obtain ⟨vn, rfl, hvn⟩ := nat_of (z := v) (n := 14) v0 v1
    refine ⟨_, _, rfl, rfl, st, d2, z2, 1 + vn, by rw [Int.natCast_add]; rfl, hst2, by omega, fun ln nms d3 z3 H3 hln kp3 hst3 hn3 hnl hnm => hN2 _ _ ?_⟩
    clear hN2 N2
    have nsl : st ≠ ln := fun z => by rw [← z, hst2] at hln; cases hln
    have hne : nms ≠ [] := fun z => by rw [z] at hnl; simp at hnl; omega
    clear kp3
    -- one
    refine seq_abs fun N3 hN3 => ?_
    refine ⟨_, rfl, _, rfl, ln, _, rfl, .inl (SqL.of hn3), fun l1 hl1 => ?_⟩
    have s4 : Same H3 (upd H3 l1 (.lst (nms.map V.str))) := Same.put (Same.refl _) hl1
    have c4 : (upd H3 l1 (.lst (nms.map V.str))) l1 = some (.lst (nms.map V.str)) := upd_same
    generalize upd H3 l1 (.lst (nms.map V.str)) = H4 at *
    have n1 : st ≠ l1 := nst hst3 hl1
    have nl1 : ln ≠ l1 := nst hn3 hl1
    refine ⟨st, l1, d3, z3, nms, 1, false, rfl, n1, s4 _ _ hst3, c4, hne, by omega, hnm, by decide, by decide, fun t1 bd1 cs1 r1 d5 z5 H5 ht1 k5' st5 ln5 g5 cnt5 ok5 good5 hg5 => hN3 _ _ ?_⟩
    clear hN3 N3
    have hn5 : H5 ln = some (.lst (nms.map V.str)) := k5' _ _ (Ne.symm nsl) nl1 (s4 _ _ hn3)
    -- other
    refine seq_abs fun N4 hN4 => ?_
    refine ⟨_, rfl, _, rfl, ln, _, rfl, .inl (SqL.of hn5), fun l2 hl2 => ?_⟩
    have s6 : Same H5 (upd H5 l2 (.lst (nms.map V.str))) := Same.put (Same.refl _) hl2
    have c6 : (upd H5 l2 (.lst (nms.map V.str))) l2 = some (.lst (nms.map V.str)) := upd_same
    generalize upd H5 l2 (.lst (nms.map V.str)) = H6 at *
    have n2 : st ≠ l2 := nst st5 hl2
    refine ⟨st, l2, d5, z5, nms, 1, false, rfl, n2, s6 _ _ st5, c6, hne, by omega, hnm, by decide, by decide, fun t2 bd2 cs2 r2 d7 z7 H7 ht2 k7 st7 ln7 g7 cnt7 ok7 good7 hg7 => hN4 _ _ ?_⟩
    clear hN4 N4
    have ok7' := (ok5.keep (KT.same s6)).keep (KT.k2 k7 (s6 _ _ st5) c6)
    -- found
    refine seq_abs fun N5 hN5 => ?_
    refine ⟨_, rfl, t1, bd1, cs1, rfl, ok7', good5, by omega, by omega, fun H8 s8 => hN5 _ _ ?_⟩
    clear hN5 N5
    have okA := ok7'.keep (KT.same s8)
    have okB := ok7.keep (KT.same s8)
    refine seq_abs fun N6 hN6 => ?_
    refine ⟨_, rfl, _, "str", _, _, rfl, TyOf.str _, kit_str, _, rfl, iteF ?_⟩
    refine ⟨_, rfl, _, rfl, t1, bd1, cs1, rfl, okA, good5, by omega, by omega, fun H9 s9 => ⟨rfl, _, rfl, ?_⟩⟩
    rw [keq]
    refine iteF (hN6 _ _ ?_)
    clear hN6 N6
    refine ⟨_, rfl, t2, bd2, cs2, rfl, okB.keep (KT.same s9), good7, by omega, by omega, fun H10 s10 => ?_⟩
    refine ⟨_, rfl, t2, bd2, cs2, rfl, (okB.keep (KT.same s9)).keep (KT.same s10), good7, by omega, by omega, fun H11 s11 => ?_⟩
    refine ⟨rfl, ?_⟩
    rw [keq]
    refine ⟨_, rfl, iteT ?_⟩
    refine ⟨_, rfl, t1, bd1, cs1, rfl, ((okA.keep (KT.same s9)).keep (KT.same s10)).keep (KT.same s11), good5, by omega, by omega, fun H12 s12 => ?_⟩
    refine ⟨_, rfl, rfl, ?_⟩
    rw [keq]
    exact k _
end
end B08
namespace B08
open PySem L2 S2 DW
set_option maxHeartbeats 4000000 in
theorem all_mk {l : PySem.W.OpenLaw} {w : World} {K : PySem.W.Frag} {h : Heap} {mg : Str → Option Value} {fa f1 f2 f3 f4 f5 f6 f7 f8 f9 f10 f11 f12 f13 f14 f15 f16 f17 f18 f19 f20 f21 f22 f23 f24 f25 f26 f27 f28 : Addr} (X : K.In h) (G : h.Ns mainGlobals mg) (hfa : mg "law" = some (.ref fa))
    {od1 an1 od2 an2 od3 an3 od4 an4 od5 an5 od6 an6 od7 an7 od8 an8 od9 an9 od10 an10 od11 an11 od12 an12 od13 an13 od14 an14 od15 an15 od16 an16 od17 an17 od18 an18 od19 an19 od20 an20 od21 an21 od22 an22 od23 an23 od24 an24 od25 an25 od26 an26 od27 an27 od28 an28 : Option Addr} {sl1 sl2 sl3 sl4 sl5 sl6 sl7 sl8 sl9 sl10 sl11 sl12 sl13 sl14 sl15 sl16 sl17 sl18 sl19 sl20 sl21 sl22 sl23 sl24 sl25 sl26 sl27 sl28 : Array (Option Value)} {oc1 kV1 dc1 pm1 cd1 ct1 oc2 kV2 dc2 pm2 cd2 ct2 oc3 kV3 dc3 pm3 cd3 ct3 oc4 kV4 dc4 pm4 cd4 ct4 oc5 kV5 dc5 pm5 cd5 ct5 oc6 kV6 dc6 pm6 cd6 ct6 oc7 kV7 dc7 pm7 cd7 ct7 oc8 kV8 dc8 pm8 cd8 ct8 oc9 kV9 dc9 pm9 cd9 ct9 oc10 kV10 dc10 pm10 cd10 ct10 oc11 kV11 dc11 pm11 cd11 ct11 oc12 kV12 dc12 pm12 cd12 ct12 oc13 kV13 dc13 pm13 cd13 ct13 oc14 kV14 dc14 pm14 cd14 ct14 oc15 kV15 dc15 pm15 cd15 ct15 oc16 kV16 dc16 pm16 cd16 ct16 oc17 kV17 dc17 pm17 cd17 ct17 oc18 kV18 dc18 pm18 cd18 ct18 oc19 kV19 dc19 pm19 cd19 ct19 oc20 kV20 dc20 pm20 cd20 ct20 oc21 kV21 dc21 pm21 cd21 ct21 oc22 kV22 dc22 pm22 cd22 ct22 oc23 kV23 dc23 pm23 cd23 ct23 oc24 kV24 dc24 pm24 cd24 ct24 oc25 kV25 dc25 pm25 cd25 ct25 oc26 kV26 dc26 pm26 cd26 ct26 oc27 kV27 dc27 pm27 cd27 ct27 oc28 kV28 dc28 pm28 cd28 ct28 : Value}
    (a1 : PySem.W.nsIn K mainGlobals "kind_of" = some (some (.ref f1))) (l1 : K.lookup f1 = some ⟨oc1, od1, .func (PySem.W.fnOf "kind_of" "kind_of" (defArgs sKind) (defBody sKind) (defScope sKind) .none kV1 dc1 pm1 an1 cd1 ct1), sl1⟩) (c1 : PySem.W.codeIn K cd1 "kind_of" = true) (k1 : PySem.W.keepIn K (.ref f1) = true)
    (a2 : PySem.W.nsIn K mainGlobals "name_of" = some (some (.ref f2))) (l2 : K.lookup f2 = some ⟨oc2, od2, .func (PySem.W.fnOf "name_of" "name_of" (defArgs sName) (defBody sName) (defScope sName) .none kV2 dc2 pm2 an2 cd2 ct2), sl2⟩) (c2 : PySem.W.codeIn K cd2 "name_of" = true) (k2 : PySem.W.keepIn K (.ref f2) = true)
    (a3 : PySem.W.nsIn K mainGlobals "own_of" = some (some (.ref f3))) (l3 : K.lookup f3 = some ⟨oc3, od3, .func (PySem.W.fnOf "own_of" "own_of" (defArgs sOwnOf) (defBody sOwnOf) (defScope sOwnOf) .none kV3 dc3 pm3 an3 cd3 ct3), sl3⟩) (c3 : PySem.W.codeIn K cd3 "own_of" = true) (k3 : PySem.W.keepIn K (.ref f3) = true)
    (a4 : PySem.W.nsIn K mainGlobals "what_of" = some (some (.ref f4))) (l4 : K.lookup f4 = some ⟨oc4, od4, .func (PySem.W.fnOf "what_of" "what_of" (defArgs sWhatOf) (defBody sWhatOf) (defScope sWhatOf) .none kV4 dc4 pm4 an4 cd4 ct4), sl4⟩) (c4 : PySem.W.codeIn K cd4 "what_of" = true) (k4 : PySem.W.keepIn K (.ref f4) = true)
    (a5 : PySem.W.nsIn K mainGlobals "parts_of" = some (some (.ref f5))) (l5 : K.lookup f5 = some ⟨oc5, od5, .func (PySem.W.fnOf "parts_of" "parts_of" (defArgs sPartsOf) (defBody sPartsOf) (defScope sPartsOf) .none kV5 dc5 pm5 an5 cd5 ct5), sl5⟩) (c5 : PySem.W.codeIn K cd5 "parts_of" = true) (k5 : PySem.W.keepIn K (.ref f5) = true)
    (a6 : PySem.W.nsIn K mainGlobals "joined" = some (some (.ref f6))) (l6 : K.lookup f6 = some ⟨oc6, od6, .func (PySem.W.fnOf "joined" "joined" (defArgs sJoined) (defBody sJoined) (defScope sJoined) .none kV6 dc6 pm6 an6 cd6 ct6), sl6⟩) (c6 : PySem.W.codeIn K cd6 "joined" = true) (k6 : PySem.W.keepIn K (.ref f6) = true)
    (a7 : PySem.W.nsIn K mainGlobals "own_told" = some (some (.ref f7))) (l7 : K.lookup f7 = some ⟨oc7, od7, .func (PySem.W.fnOf "own_told" "own_told" (defArgs sOwnTold) (defBody sOwnTold) (defScope sOwnTold) .none kV7 dc7 pm7 an7 cd7 ct7), sl7⟩) (c7 : PySem.W.codeIn K cd7 "own_told" = true) (k7 : PySem.W.keepIn K (.ref f7) = true)
    (a8 : PySem.W.nsIn K mainGlobals "words_text" = some (some (.ref f8))) (l8 : K.lookup f8 = some ⟨oc8, od8, .func (PySem.W.fnOf "words_text" "words_text" (defArgs sWText) (defBody sWText) (defScope sWText) .none kV8 dc8 pm8 an8 cd8 ct8), sl8⟩) (c8 : PySem.W.codeIn K cd8 "words_text" = true) (k8 : PySem.W.keepIn K (.ref f8) = true)
    (a9 : PySem.W.nsIn K mainGlobals "what_told" = some (some (.ref f9))) (l9 : K.lookup f9 = some ⟨oc9, od9, .func (PySem.W.fnOf "what_told" "what_told" (defArgs sWhatTold) (defBody sWhatTold) (defScope sWhatTold) .none kV9 dc9 pm9 an9 cd9 ct9), sl9⟩) (c9 : PySem.W.codeIn K cd9 "what_told" = true) (k9 : PySem.W.keepIn K (.ref f9) = true)
    (a10 : PySem.W.nsIn K mainGlobals "part_told" = some (some (.ref f10))) (l10 : K.lookup f10 = some ⟨oc10, od10, .func (PySem.W.fnOf "part_told" "part_told" (defArgs sPartTold) (defBody sPartTold) (defScope sPartTold) .none kV10 dc10 pm10 an10 cd10 ct10), sl10⟩) (c10 : PySem.W.codeIn K cd10 "part_told" = true) (k10 : PySem.W.keepIn K (.ref f10) = true)
    (a11 : PySem.W.nsIn K mainGlobals "row_text" = some (some (.ref f11))) (l11 : K.lookup f11 = some ⟨oc11, od11, .func (PySem.W.fnOf "row_text" "row_text" (defArgs sRowText) (defBody sRowText) (defScope sRowText) .none kV11 dc11 pm11 an11 cd11 ct11), sl11⟩) (c11 : PySem.W.codeIn K cd11 "row_text" = true) (k11 : PySem.W.keepIn K (.ref f11) = true)
    (a12 : PySem.W.nsIn K mainGlobals "text_rows" = some (some (.ref f12))) (l12 : K.lookup f12 = some ⟨oc12, od12, .func (PySem.W.fnOf "text_rows" "text_rows" (defArgs sTextRows) (defBody sTextRows) (defScope sTextRows) .none kV12 dc12 pm12 an12 cd12 ct12), sl12⟩) (c12 : PySem.W.codeIn K cd12 "text_rows" = true) (k12 : PySem.W.keepIn K (.ref f12) = true)
    (a13 : PySem.W.nsIn K mainGlobals "tree_text" = some (some (.ref f13))) (l13 : K.lookup f13 = some ⟨oc13, od13, .func (PySem.W.fnOf "tree_text" "tree_text" (defArgs sTreeText) (defBody sTreeText) (defScope sTreeText) .none kV13 dc13 pm13 an13 cd13 ct13), sl13⟩) (c13 : PySem.W.codeIn K cd13 "tree_text" = true) (k13 : PySem.W.keepIn K (.ref f13) = true)
    (a14 : PySem.W.nsIn K mainGlobals "_law_stream" = some (some (.ref f14))) (l14 : K.lookup f14 = some ⟨oc14, od14, .func (PySem.W.fnOf "_law_stream" "_law_stream" (defArgs sStream) (defBody sStream) (defScope sStream) .none kV14 dc14 pm14 an14 cd14 ct14), sl14⟩) (c14 : PySem.W.codeIn K cd14 "_law_stream" = true) (k14 : PySem.W.keepIn K (.ref f14) = true)
    (a15 : PySem.W.nsIn K mainGlobals "_law_take" = some (some (.ref f15))) (l15 : K.lookup f15 = some ⟨oc15, od15, .func (PySem.W.fnOf "_law_take" "_law_take" (defArgs sTake) (defBody sTake) (defScope sTake) .none kV15 dc15 pm15 an15 cd15 ct15), sl15⟩) (c15 : PySem.W.codeIn K cd15 "_law_take" = true) (k15 : PySem.W.keepIn K (.ref f15) = true)
    (a16 : PySem.W.nsIn K mainGlobals "_law_names" = some (some (.ref f16))) (l16 : K.lookup f16 = some ⟨oc16, od16, .func (PySem.W.fnOf "_law_names" "_law_names" (defArgs sLNames) (defBody sLNames) (defScope sLNames) .none kV16 dc16 pm16 an16 cd16 ct16), sl16⟩) (c16 : PySem.W.codeIn K cd16 "_law_names" = true) (k16 : PySem.W.keepIn K (.ref f16) = true)
    (a17 : PySem.W.nsIn K mainGlobals "_law_range" = some (some (.ref f17))) (l17 : K.lookup f17 = some ⟨oc17, od17, .func (PySem.W.fnOf "_law_range" "_law_range" (defArgs sLRange) (defBody sLRange) (defScope sLRange) .none kV17 dc17 pm17 an17 cd17 ct17), sl17⟩) (c17 : PySem.W.codeIn K cd17 "_law_range" = true) (k17 : PySem.W.keepIn K (.ref f17) = true)
    (a18 : PySem.W.nsIn K mainGlobals "_law_words" = some (some (.ref f18))) (l18 : K.lookup f18 = some ⟨oc18, od18, .func (PySem.W.fnOf "_law_words" "_law_words" (defArgs sLWords) (defBody sLWords) (defScope sLWords) .none kV18 dc18 pm18 an18 cd18 ct18), sl18⟩) (c18 : PySem.W.codeIn K cd18 "_law_words" = true) (k18 : PySem.W.keepIn K (.ref f18) = true)
    (a19 : PySem.W.nsIn K mainGlobals "_law_anchor" = some (some (.ref f19))) (l19 : K.lookup f19 = some ⟨oc19, od19, .func (PySem.W.fnOf "_law_anchor" "_law_anchor" (defArgs sLAnchor) (defBody sLAnchor) (defScope sLAnchor) .none kV19 dc19 pm19 an19 cd19 ct19), sl19⟩) (c19 : PySem.W.codeIn K cd19 "_law_anchor" = true) (k19 : PySem.W.keepIn K (.ref f19) = true)
    (a20 : PySem.W.nsIn K mainGlobals "_law_what" = some (some (.ref f20))) (l20 : K.lookup f20 = some ⟨oc20, od20, .func (PySem.W.fnOf "_law_what" "_law_what" (defArgs sLWhat) (defBody sLWhat) (defScope sLWhat) .none kV20 dc20 pm20 an20 cd20 ct20), sl20⟩) (c20 : PySem.W.codeIn K cd20 "_law_what" = true) (k20 : PySem.W.keepIn K (.ref f20) = true)
    (a21 : PySem.W.nsIn K mainGlobals "_law_box" = some (some (.ref f21))) (l21 : K.lookup f21 = some ⟨oc21, od21, .func (PySem.W.fnOf "_law_box" "_law_box" (defArgs sLBox) (defBody sLBox) (defScope sLBox) .none kV21 dc21 pm21 an21 cd21 ct21), sl21⟩) (c21 : PySem.W.codeIn K cd21 "_law_box" = true) (k21 : PySem.W.keepIn K (.ref f21) = true)
    (a22 : PySem.W.nsIn K mainGlobals "_law_own_words" = some (some (.ref f22))) (l22 : K.lookup f22 = some ⟨oc22, od22, .func (PySem.W.fnOf "_law_own_words" "_law_own_words" (defArgs sLOwnW) (defBody sLOwnW) (defScope sLOwnW) .none kV22 dc22 pm22 an22 cd22 ct22), sl22⟩) (c22 : PySem.W.codeIn K cd22 "_law_own_words" = true) (k22 : PySem.W.keepIn K (.ref f22) = true)
    (a23 : PySem.W.nsIn K mainGlobals "_law_what_words" = some (some (.ref f23))) (l23 : K.lookup f23 = some ⟨oc23, od23, .func (PySem.W.fnOf "_law_what_words" "_law_what_words" (defArgs sLWhatW) (defBody sLWhatW) (defScope sLWhatW) .none kV23 dc23 pm23 an23 cd23 ct23), sl23⟩) (c23 : PySem.W.codeIn K cd23 "_law_what_words" = true) (k23 : PySem.W.keepIn K (.ref f23) = true)
    (a24 : PySem.W.nsIn K mainGlobals "_law_part_words" = some (some (.ref f24))) (l24 : K.lookup f24 = some ⟨oc24, od24, .func (PySem.W.fnOf "_law_part_words" "_law_part_words" (defArgs sLPartW) (defBody sLPartW) (defScope sLPartW) .none kV24 dc24 pm24 an24 cd24 ct24), sl24⟩) (c24 : PySem.W.codeIn K cd24 "_law_part_words" = true) (k24 : PySem.W.keepIn K (.ref f24) = true)
    (a25 : PySem.W.nsIn K mainGlobals "_law_text_words" = some (some (.ref f25))) (l25 : K.lookup f25 = some ⟨oc25, od25, .func (PySem.W.fnOf "_law_text_words" "_law_text_words" (defArgs sLTextW) (defBody sLTextW) (defScope sLTextW) .none kV25 dc25 pm25 an25 cd25 ct25), sl25⟩) (c25 : PySem.W.codeIn K cd25 "_law_text_words" = true) (k25 : PySem.W.keepIn K (.ref f25) = true)
    (a26 : PySem.W.nsIn K mainGlobals "_law_rows" = some (some (.ref f26))) (l26 : K.lookup f26 = some ⟨oc26, od26, .func (PySem.W.fnOf "_law_rows" "_law_rows" (defArgs sLRows) (defBody sLRows) (defScope sLRows) .none kV26 dc26 pm26 an26 cd26 ct26), sl26⟩) (c26 : PySem.W.codeIn K cd26 "_law_rows" = true) (k26 : PySem.W.keepIn K (.ref f26) = true)
    (a27 : PySem.W.nsIn K mainGlobals "_law_due" = some (some (.ref f27))) (l27 : K.lookup f27 = some ⟨oc27, od27, .func (PySem.W.fnOf "_law_due" "_law_due" (defArgs sLDue) (defBody sLDue) (defScope sLDue) .none kV27 dc27 pm27 an27 cd27 ct27), sl27⟩) (c27 : PySem.W.codeIn K cd27 "_law_due" = true) (k27 : PySem.W.keepIn K (.ref f27) = true)
    (a28 : PySem.W.nsIn K mainGlobals "law" = some (some (.ref f28))) (l28 : K.lookup f28 = some ⟨oc28, od28, .func (PySem.W.fnOf "law" "law" (defArgs sLaw) (defBody sLaw) (defScope sLaw) .none kV28 dc28 pm28 an28 cd28 ct28), sl28⟩) (c28 : PySem.W.codeIn K cd28 "law" = true) (k28 : PySem.W.keepIn K (.ref f28) = true)
    {aL aP : Addr} {tI tA tB tC nL eP : Nat} {p0 q0 p1 q1 p2 q2 p3 q3 p4 q4 p5 q5 p6 q6 p7 q7 p8 q8 p9 q9 p10 q10 p11 q11 p12 q12 p13 q13 p14 q14 p15 q15 : Nat}
    (aLI : PySem.W.nsIn K mainGlobals "LINED" = some (some (.ref aL))) (lLI : K.lookup aL = some { cls := .type "tuple", data := .seq #[.str "row" tA, .str "column" tB, .str "wrap" tC] nL })
    (aPL : PySem.W.nsIn K mainGlobals "PLAIN" = some (some (.ref aP))) (lPL : K.lookup aP = some { cls := .type "dict", data := .dict (List.toArray [⟨PyData.keyHash w.params "wide", .str "wide" p0, .str "0..1000000" q0⟩, ⟨PyData.keyHash w.params "high", .str "high" p1, .str "0..1000000" q1⟩, ⟨PyData.keyHash w.params "grow", .str "grow" p2, .str "0" q2⟩, ⟨PyData.keyHash w.params "shrink", .str "shrink" p3, .str "1" q3⟩, ⟨PyData.keyHash w.params "rank", .str "rank" p4, .str "0" q4⟩, ⟨PyData.keyHash w.params "alike", .str "alike" p5, .str "0" q5⟩, ⟨PyData.keyHash w.params "wish", .str "wish" p6, .str "0,0" q6⟩, ⟨PyData.keyHash w.params "columns", .str "columns" p7, .str "1" q7⟩, ⟨PyData.keyHash w.params "gap", .str "gap" p8, .str "0" q8⟩, ⟨PyData.keyHash w.params "align", .str "align" p9, .str "start" q9⟩, ⟨PyData.keyHash w.params "side", .str "side" p10, .str "left" q10⟩, ⟨PyData.keyHash w.params "joint", .str "joint" p11, .str "50" q11⟩, ⟨PyData.keyHash w.params "span", .str "span" p12, .str "1,1" q12⟩, ⟨PyData.keyHash w.params "float", .str "float" p13, .str "left" q13⟩, ⟨PyData.keyHash w.params "at", .str "at" p14, .str "start,0,start,0" q14⟩, ⟨PyData.keyHash w.params "text", .str "text" p15, .str "" q15⟩]) eP }) (nPL : (aP == sysModules) = false)
    (aIN : PySem.W.nsIn K mainGlobals "INDENT" = some (some (.str "  " tI)))
    (z0 : PySem.W.nsIn K mainGlobals "len" = some none) (z1 : PySem.W.nsIn K mainGlobals "range" = some none) (z2 : PySem.W.nsIn K mainGlobals "list" = some none) (z3 : PySem.W.nsIn K mainGlobals "tuple" = some none) (z4 : PySem.W.nsIn K mainGlobals "min" = some none) (z5 : PySem.W.nsIn K mainGlobals "abs" = some none) (z6 : PySem.W.nsIn K mainGlobals "enumerate" = some none) (z7 : PySem.W.nsIn K mainGlobals "str" = some none) (z8 : PySem.W.nsIn K mainGlobals "isinstance" = some none) :
    ∃ fd : FuncData, (∀ (s : Shared) (v : Value), BindsTo s fd ⟨[v], []⟩ [("_law_script", v)]) ∧ ∀ base : Heap, K.In base → base.Ns mainGlobals mg → FnOk l.prog w K mg base CX0 18 fa fd ["_law_script"] (spLaw K) := by
  have e := hfa.symm.trans (PySem.W.mg_of X G a28)
  cases e
  have GG : Glb l.prog w K mg aL aP := ⟨PySem.W.mg_of X G aLI, fun H => .inr ⟨_, _, _, lLI, rfl, rfl, by show 3 ≤ sizeLine; decide, .cons ⟨_, rfl⟩ (.cons ⟨_, rfl⟩ (.cons ⟨_, rfl⟩ .nil))⟩, PySem.W.mg_of X G aPL, dKept_of (ps := plainL) lPL (.cons ⟨rfl, ⟨_, rfl⟩, _, rfl⟩ (.cons ⟨rfl, ⟨_, rfl⟩, _, rfl⟩ (.cons ⟨rfl, ⟨_, rfl⟩, _, rfl⟩ (.cons ⟨rfl, ⟨_, rfl⟩, _, rfl⟩ (.cons ⟨rfl, ⟨_, rfl⟩, _, rfl⟩ (.cons ⟨rfl, ⟨_, rfl⟩, _, rfl⟩ (.cons ⟨rfl, ⟨_, rfl⟩, _, rfl⟩ (.cons ⟨rfl, ⟨_, rfl⟩, _, rfl⟩ (.cons ⟨rfl, ⟨_, rfl⟩, _, rfl⟩ (.cons ⟨rfl, ⟨_, rfl⟩, _, rfl⟩ (.cons ⟨rfl, ⟨_, rfl⟩, _, rfl⟩ (.cons ⟨rfl, ⟨_, rfl⟩, _, rfl⟩ (.cons ⟨rfl, ⟨_, rfl⟩, _, rfl⟩ (.cons ⟨rfl, ⟨_, rfl⟩, _, rfl⟩ (.cons ⟨rfl, ⟨_, rfl⟩, _, rfl⟩ (.cons ⟨rfl, ⟨_, rfl⟩, _, rfl⟩ .nil)))))))))))))))) (by decide +kernel) nPL, tI, PySem.W.mg_of X G aIN⟩
  have N : Names mg := ⟨PySem.W.mg_none_of X G z0, PySem.W.mg_none_of X G z1, PySem.W.mg_none_of X G z2, PySem.W.mg_none_of X G z3, PySem.W.mg_none_of X G z4, PySem.W.mg_none_of X G z5, PySem.W.mg_none_of X G z6, PySem.W.mg_none_of X G z7, PySem.W.mg_none_of X G z8⟩
  have F1 := fun_mk (st := sKind) l1 c1 k1
  have b1 := F1.binds (ps := ["box"]) fun _ _ _ _ _ _ us hl => match us, hl with | [_], _ => rfl
  have m1 := PySem.W.mg_of X G a1
  have F2 := fun_mk (st := sName) l2 c2 k2
  have b2 := F2.binds (ps := ["box"]) fun _ _ _ _ _ _ us hl => match us, hl with | [_], _ => rfl
  have m2 := PySem.W.mg_of X G a2
  have F3 := fun_mk (st := sOwnOf) l3 c3 k3
  have b3 := F3.binds (ps := ["box"]) fun _ _ _ _ _ _ us hl => match us, hl with | [_], _ => rfl
  have m3 := PySem.W.mg_of X G a3
  have F4 := fun_mk (st := sWhatOf) l4 c4 k4
  have b4 := F4.binds (ps := ["box"]) fun _ _ _ _ _ _ us hl => match us, hl with | [_], _ => rfl
  have m4 := PySem.W.mg_of X G a4
  have F5 := fun_mk (st := sPartsOf) l5 c5 k5
  have b5 := F5.binds (ps := ["box"]) fun _ _ _ _ _ _ us hl => match us, hl with | [_], _ => rfl
  have m5 := PySem.W.mg_of X G a5
  have F6 := fun_mk (st := sJoined) l6 c6 k6
  have b6 := F6.binds (ps := ["things", "sign"]) fun _ _ _ _ _ _ us hl => match us, hl with | [_, _], _ => rfl
  have m6 := PySem.W.mg_of X G a6
  have F7 := fun_mk (st := sOwnTold) l7 c7 k7
  have b7 := F7.binds (ps := ["own"]) fun _ _ _ _ _ _ us hl => match us, hl with | [_], _ => rfl
  have m7 := PySem.W.mg_of X G a7
  have F8 := fun_mk (st := sWText) l8 c8 k8
  have b8 := F8.binds (ps := ["words"]) fun _ _ _ _ _ _ us hl => match us, hl with | [_], _ => rfl
  have m8 := PySem.W.mg_of X G a8
  have F9 := fun_mk (st := sWhatTold) l9 c9 k9
  have b9 := F9.binds (ps := ["kind", "what"]) fun _ _ _ _ _ _ us hl => match us, hl with | [_, _], _ => rfl
  have m9 := PySem.W.mg_of X G a9
  have F10 := fun_mk (st := sPartTold) l10 c10 k10
  have b10 := F10.binds (ps := ["elder", "place"]) fun _ _ _ _ _ _ us hl => match us, hl with | [_, _], _ => rfl
  have m10 := PySem.W.mg_of X G a10
  have F11 := fun_mk (st := sRowText) l11 c11 k11
  have b11 := F11.binds (ps := ["box", "as_part"]) fun _ _ _ _ _ _ us hl => match us, hl with | [_, _], _ => rfl
  have m11 := PySem.W.mg_of X G a11
  have F12 := fun_mk (st := sTextRows) l12 c12 k12
  have b12 := F12.binds (ps := ["box", "depth", "as_part"]) fun _ _ _ _ _ _ us hl => match us, hl with | [_, _, _], _ => rfl
  have m12 := PySem.W.mg_of X G a12
  have F13 := fun_mk (st := sTreeText) l13 c13 k13
  have b13 := F13.binds (ps := ["tree"]) fun _ _ _ _ _ _ us hl => match us, hl with | [_], _ => rfl
  have m13 := PySem.W.mg_of X G a13
  have F14 := fun_mk (st := sStream) l14 c14 k14
  have b14 := F14.binds (ps := ["_law_script"]) fun _ _ _ _ _ _ us hl => match us, hl with | [_], _ => rfl
  have m14 := PySem.W.mg_of X G a14
  have F15 := fun_mk (st := sTake) l15 c15 k15
  have b15 := F15.binds (ps := ["_law_stream_here", "_law_many"]) fun _ _ _ _ _ _ us hl => match us, hl with | [_, _], _ => rfl
  have m15 := PySem.W.mg_of X G a15
  have F16 := fun_mk (st := sLNames) l16 c16 k16
  have b16 := F16.binds (ps := ["_law_stream_here", "_law_many"]) fun _ _ _ _ _ _ us hl => match us, hl with | [_, _], _ => rfl
  have m16 := PySem.W.mg_of X G a16
  have F17 := fun_mk (st := sLRange) l17 c17 k17
  have b17 := F17.binds (ps := ["_law_stream_here"]) fun _ _ _ _ _ _ us hl => match us, hl with | [_], _ => rfl
  have m17 := PySem.W.mg_of X G a17
  have F18 := fun_mk (st := sLWords) l18 c18 k18
  have b18 := F18.binds (ps := ["_law_stream_here"]) fun _ _ _ _ _ _ us hl => match us, hl with | [_], _ => rfl
  have m18 := PySem.W.mg_of X G a18
  have F19 := fun_mk (st := sLAnchor) l19 c19 k19
  have b19 := F19.binds (ps := ["_law_stream_here"]) fun _ _ _ _ _ _ us hl => match us, hl with | [_], _ => rfl
  have m19 := PySem.W.mg_of X G a19
  have F20 := fun_mk (st := sLWhat) l20 c20 k20
  have b20 := F20.binds (ps := ["_law_stream_here", "_law_kind", "_law_many"]) fun _ _ _ _ _ _ us hl => match us, hl with | [_, _, _], _ => rfl
  have m20 := PySem.W.mg_of X G a20
  have F21 := fun_mk (st := sLBox) l21 c21 k21
  have b21 := F21.binds (ps := ["_law_stream_here", "_law_names_here", "_law_deep", "_law_tabled"]) fun _ _ _ _ _ _ us hl => match us, hl with | [_, _, _, _], _ => rfl
  have m21 := PySem.W.mg_of X G a21
  have F22 := fun_mk (st := sLOwnW) l22 c22 k22
  have b22 := F22.binds (ps := ["_law_own"]) fun _ _ _ _ _ _ us hl => match us, hl with | [_], _ => rfl
  have m22 := PySem.W.mg_of X G a22
  have F23 := fun_mk (st := sLWhatW) l23 c23 k23
  have b23 := F23.binds (ps := ["_law_kind", "_law_what_here"]) fun _ _ _ _ _ _ us hl => match us, hl with | [_, _], _ => rfl
  have m23 := PySem.W.mg_of X G a23
  have F24 := fun_mk (st := sLPartW) l24 c24 k24
  have b24 := F24.binds (ps := ["_law_kind", "_law_what_here", "_law_at"]) fun _ _ _ _ _ _ us hl => match us, hl with | [_, _, _], _ => rfl
  have m24 := PySem.W.mg_of X G a24
  have F25 := fun_mk (st := sLTextW) l25 c25 k25
  have b25 := F25.binds (ps := ["_law_kind", "_law_what_here"]) fun _ _ _ _ _ _ us hl => match us, hl with | [_, _], _ => rfl
  have m25 := PySem.W.mg_of X G a25
  have F26 := fun_mk (st := sLRows) l26 c26 k26
  have b26 := F26.binds (ps := ["_law_box_here", "_law_deep", "_law_extra"]) fun _ _ _ _ _ _ us hl => match us, hl with | [_, _, _], _ => rfl
  have m26 := PySem.W.mg_of X G a26
  have F27 := fun_mk (st := sLDue) l27 c27 k27
  have b27 := F27.binds (ps := ["_law_tree"]) fun _ _ _ _ _ _ us hl => match us, hl with | [_], _ => rfl
  have m27 := PySem.W.mg_of X G a27
  have F28 := fun_mk (st := sLaw) l28 c28 k28
  refine ⟨PySem.W.fnOf "law" "law" (defArgs sLaw) (defBody sLaw) (defScope sLaw) .none kV28 dc28 pm28 an28 cd28 ct28, fun s v => .of_eq rfl, fun base _ _ => ?_⟩
  have GK := ok_Kind (P := l.prog) (w := w) (mg := mg) (base := base) F1
  have GNm := ok_Name (P := l.prog) (w := w) (mg := mg) (base := base) F2
  have GOw := ok_OwnOf (P := l.prog) (w := w) (mg := mg) (base := base) F3
  have GWh := ok_WhatOf (P := l.prog) (w := w) (mg := mg) (base := base) F4
  have GPa := ok_PartsOf (P := l.prog) (w := w) (mg := mg) (base := base) F5
  have GJ := ok_joined (P := l.prog) (w := w) (mg := mg) (base := base) F6 N
  have GWT := ok_whatTold (P := l.prog) (w := w) (mg := mg) (base := base) F9 N GG GJ b6 m6 k6 (ok_wText F8) b8 m8 k8
  have GPT := ok_partTold (P := l.prog) (w := w) (mg := mg) (base := base) F10 GJ b6 m6 k6 GK b1 m1 k1 GWh b4 m4 k4
  have GRT := ok_rowText (P := l.prog) (w := w) (mg := mg) (base := base) F11 GG (ok_ownTold F7 N GJ b6 m6 k6) b7 m7 k7 GWT b9 m9 k9 GK b1 m1 k1 GNm b2 m2 k2 GOw b3 m3 k3 GWh b4 m4 k4
  have GTR := ok_textRows (P := l.prog) (w := w) (mg := mg) (base := base) F12 N GG GRT b11 m11 k11 GPT b10 m10 k10 GPa b5 m5 k5 b12 m12 k12 12
  have GTT := ok_treeText (P := l.prog) (w := w) (mg := mg) (base := base) F13 GTR b12 m12 k12
  have GT := ok_take (P := l.prog) (w := w) (mg := mg) (base := base) F15
  have GW := ok_lwhat (P := l.prog) (w := w) (mg := mg) (base := base) F20 N GT b15 m15 k15 (ok_lwords F18 N GT b15 m15 k15) b18 m18 k18 (ok_lanchor F19 GT b15 m15 k15) b19 m19 k19
  have GB := ok_lbox (P := l.prog) (w := w) (mg := mg) (base := base) F21 N GT b15 m15 k15 (ok_lrange F17 GT b15 m15 k15) b17 m17 k17 GW b20 m20 k20 b21 m21 k21 8
  have GR := ok_lrows (P := l.prog) (w := w) (mg := mg) (base := base) F26 N (ok_lownW F22 N) b22 m22 k22 (ok_lwhatW F23 N) b23 m23 k23 (ok_lpartW F24 N) b24 m24 k24 (ok_ltextW F25) b25 m25 k25 b26 m26 k26 12
  have GD := ok_ldue (P := l.prog) (w := w) (mg := mg) (base := base) F27 GR b26 m26 k26
  exact ok_law F28 N (ok_stream F14 N) b14 m14 k14 GT b15 m15 k15 (ok_lnames F16 N GT b15 m15 k15) b16 m16 k16 GB b21 m21 k21 GTT b13 m13 k13 GD b27 m27 k27
theorem walk {l : PySem.W.OpenLaw} {q : Program} {loose : List Str} {XP : (Str → Option Value) → Heap → Prop} {YP : World → Heap → Prop} {d : DefRec} {K : Params → PySem.W.Frag} (hn : l.most = some 63) (hdf : d.params.defaults = [])
    (hY : ∀ (w : World) (h : Heap), YP w h → (K w.params).In h)
    (F : ∀ (w : World) (mg : Str → Option Value) (fa : Addr) (h : Heap), (K w.params).In h → h.Ns mainGlobals mg → mg d.name = some (.ref fa) →
      ∃ fd : FuncData, (∀ (s : Shared) (u : Value), BindsTo s fd ⟨[u], []⟩ [("_law_script", u)]) ∧ ∀ base : Heap, (K w.params).In base → base.Ns mainGlobals mg → FnOk l.prog w (K w.params) mg base CX0 18 fa fd ["_law_script"] (spLaw (K w.params))) :
    PySem.W.WalkO q loose XP YP l.row.toRowW d [] (fun f vs => PySem.call f vs) :=
  L2.walk_of (n := 63) (k := 18) (x := "_law_script") (CX := fun _ => CX0) (sp := fun w => spLaw (K w.params)) hn (by decide) hdf ⟨rfl, by decide, by decide⟩ hY F (fun _ _ a ns hl _ hS => ⟨a, ns, rfl, hS, hl, fun _ => rfl⟩) fun _ _ _ _ _ z => z
end B08
open PySem PySem.W PyProof.Rows
set_option maxRecDepth 100000 in
set_option maxHeartbeats 0 in
theorem PySem.Challenge.cw_boxgalley_k08_trees_as_texts_holds : PySem.Challenge.rw_boxgalley_k08_trees_as_texts.Holds := by
  w_on; o_law; k_head; (case hw => w_witness2)
  k_fill
  refine B08.walk (l := PySem.Challenge.rw_boxgalley_k08_trees_as_texts) rfl rfl (fun w h Y => PySem.W.kIn_of Y) ?F
  case F =>
    intro w mg fa h KX G hmg
    refine' B08.all_mk KX G hmg ?a1 ?l1 ?c1 ?k1 ?a2 ?l2 ?c2 ?k2 ?a3 ?l3 ?c3 ?k3 ?a4 ?l4 ?c4 ?k4 ?a5 ?l5 ?c5 ?k5 ?a6 ?l6 ?c6 ?k6 ?a7 ?l7 ?c7 ?k7 ?a8 ?l8 ?c8 ?k8 ?a9 ?l9 ?c9 ?k9 ?a10 ?l10 ?c10 ?k10 ?a11 ?l11 ?c11 ?k11 ?a12 ?l12 ?c12 ?k12 ?a13 ?l13 ?c13 ?k13 ?a14 ?l14 ?c14 ?k14 ?a15 ?l15 ?c15 ?k15 ?a16 ?l16 ?c16 ?k16 ?a17 ?l17 ?c17 ?k17 ?a18 ?l18 ?c18 ?k18 ?a19 ?l19 ?c19 ?k19 ?a20 ?l20 ?c20 ?k20 ?a21 ?l21 ?c21 ?k21 ?a22 ?l22 ?c22 ?k22 ?a23 ?l23 ?c23 ?k23 ?a24 ?l24 ?c24 ?k24 ?a25 ?l25 ?c25 ?k25 ?a26 ?l26 ?c26 ?k26 ?a27 ?l27 ?c27 ?k27 ?a28 ?l28 ?c28 ?k28 ?aLI ?lLI ?aPL ?lPL ?nPL ?aIN ?z0 ?z1 ?z2 ?z3 ?z4 ?z5 ?z6 ?z7 ?z8
    (case a1 => k_is); (case l1 => k_is); (case c1 => k_is); (case k1 => k_is); (case a2 => k_is); (case l2 => k_is)
    (case c2 => k_is); (case k2 => k_is); (case a3 => k_is); (case l3 => k_is); (case c3 => k_is); (case k3 => k_is)
    (case a4 => k_is); (case l4 => k_is); (case c4 => k_is); (case k4 => k_is); (case a5 => k_is); (case l5 => k_is)
    (case c5 => k_is); (case k5 => k_is); (case a6 => k_is); (case l6 => k_is); (case c6 => k_is); (case k6 => k_is)
    (case a7 => k_is); (case l7 => k_is); (case c7 => k_is); (case k7 => k_is); (case a8 => k_is); (case l8 => k_is)
    (case c8 => k_is); (case k8 => k_is); (case a9 => k_is); (case l9 => k_is); (case c9 => k_is); (case k9 => k_is)
    (case a10 => k_is); (case l10 => k_is); (case c10 => k_is); (case k10 => k_is); (case a11 => k_is); (case l11 => k_is)
    (case c11 => k_is); (case k11 => k_is); (case a12 => k_is); (case l12 => k_is); (case c12 => k_is); (case k12 => k_is)
    (case a13 => k_is); (case l13 => k_is); (case c13 => k_is); (case k13 => k_is); (case a14 => k_is); (case l14 => k_is)
    (case c14 => k_is); (case k14 => k_is); (case a15 => k_is); (case l15 => k_is); (case c15 => k_is); (case k15 => k_is)
    (case a16 => k_is); (case l16 => k_is); (case c16 => k_is); (case k16 => k_is); (case a17 => k_is); (case l17 => k_is)
    (case c17 => k_is); (case k17 => k_is); (case a18 => k_is); (case l18 => k_is); (case c18 => k_is); (case k18 => k_is)
    (case a19 => k_is); (case l19 => k_is); (case c19 => k_is); (case k19 => k_is); (case a20 => k_is); (case l20 => k_is)
    (case c20 => k_is); (case k20 => k_is); (case a21 => k_is); (case l21 => k_is); (case c21 => k_is); (case k21 => k_is)
    (case a22 => k_is); (case l22 => k_is); (case c22 => k_is); (case k22 => k_is); (case a23 => k_is); (case l23 => k_is)
    (case c23 => k_is); (case k23 => k_is); (case a24 => k_is); (case l24 => k_is); (case c24 => k_is); (case k24 => k_is)
    (case a25 => k_is); (case l25 => k_is); (case c25 => k_is); (case k25 => k_is); (case a26 => k_is); (case l26 => k_is)
    (case c26 => k_is); (case k26 => k_is); (case a27 => k_is); (case l27 => k_is); (case c27 => k_is); (case k27 => k_is)
    (case a28 => k_is); (case l28 => k_is); (case c28 => k_is); (case k28 => k_is); (case aLI => k_is); (case lLI => k_is); (case aPL => k_is); (case lPL => k_is); (case nPL => rfl); (case aIN => k_is); (case z0 => k_is); (case z1 => k_is)
    (case z2 => k_is); (case z3 => k_is); (case z4 => k_is); (case z5 => k_is); (case z6 => k_is); (case z7 => k_is)
    (case z8 => k_is)
