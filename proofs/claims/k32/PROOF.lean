import PyProof.Rows.All
import Wide.All
import OpenK.AllK
import Wide.FinOn
import Lean
import PyProof.EqAt
import PyProof.EqKinds
import PyProof.TupleCall
import PyProof.MinMaxWalk
import PyProof.NeKinds
import PyProof.Rows.ZipGen
import KE.KMinKey
import PyProof.AttrMiss
import PyProof.IsiH_list
import KE.KDictOf
import KE.KDictSum
import PyProof.DictItems
import KE.KSortTup
import KE.KEqDict
import KE.KLam
import KE.KNestM
import PyProof.Rows.SortStr
import PyProof.Rows.SortWalk
import PyProof.FString5
import PyProof.StrOps2
import PySem.Challenge.RW_boxgalley_k32_whole_raises_add_up
set_option Elab.async false
set_option linter.all false
set_option maxRecDepth 100000
namespace L2
open PySem PySem.Spec PyProof.Rows
abbrev Key := Sum Int Str
def keyIs : Key → Value → Bool
  | .inl k, v => Value.isInt k v
  | .inr x, v => Value.isStrOf x v
def keyH (w : World) : Key → Int
  | .inl k => hashInt k
  | .inr x => hashStr w x
theorem keyIs_shape : ∀ {k : Key} {v : Value}, keyIs k v = true → (∃ i t, k = Sum.inl i ∧ v = Value.int i t) ∨ (∃ x t, k = Sum.inr x ∧ v = Value.str x t)
  | .inl i, v, h => by
    obtain ⟨t, e⟩ := Value.isInt_shape (k := i) (v := v) h
    exact .inl ⟨i, t, rfl, e⟩
  | .inr x, v, h => by
    obtain ⟨t, e⟩ := Value.isStrOf_shape (x := x) (v := v) h
    exact .inr ⟨x, t, rfl, e⟩
theorem keyIs_int (i : Int) (t : Tok) : keyIs (.inl i) (.int i t) = true := by simp [keyIs, Value.isInt]
theorem keyIs_str (x : Str) (t : Tok) : keyIs (.inr x) (.str x t) = true := by simp [keyIs, Value.isStrOf]
theorem key_ll (a b : Int) : decide ((Sum.inl a : Key) = Sum.inl b) = (a == b) := by
  by_cases e : a = b
  · subst e; simp
  · have h : ¬ (Sum.inl a : Key) = Sum.inl b := fun q => e (Sum.inl.inj q)
    rw [decide_eq_false h]
    exact (beq_eq_false_iff_ne.mpr e).symm
theorem key_rr (a b : Str) : decide ((Sum.inr a : Key) = Sum.inr b) = decide (a = b) := by
  by_cases e : a = b
  · subst e; simp
  · have h : ¬ (Sum.inr a : Key) = Sum.inr b := fun q => e (Sum.inr.inj q)
    rw [decide_eq_false h, decide_eq_false e]
theorem key_lr (a : Int) (b : Str) : decide ((Sum.inl a : Key) = Sum.inr b) = false := decide_eq_false (fun q => nomatch q)
theorem key_rl (a : Str) (b : Int) : decide ((Sum.inr a : Key) = Sum.inl b) = false := decide_eq_false (fun q => nomatch q)
def mixKind (prog : Program) (w : World) : PySem.KeyKind prog w Key where
  is := keyIs
  hash := keyH w
  inj := fun v a b ha hb => by
    rcases keyIs_shape ha with ⟨i, t, rfl, rfl⟩ | ⟨x, t, rfl, rfl⟩
    · rcases keyIs_shape hb with ⟨j, u, rfl, e⟩ | ⟨y, u, rfl, e⟩
      · injection e with e1 _; rw [e1]
      · exact nomatch e
    · rcases keyIs_shape hb with ⟨j, u, rfl, e⟩ | ⟨y, u, rfl, e⟩
      · exact nomatch e
      · injection e with e1 _; rw [e1]
  byValue := fun k v h => by
    rcases keyIs_shape h with ⟨i, t, rfl, rfl⟩ | ⟨x, t, rfl, rfl⟩ <;> rfl
  pyHash := fun hv h => by
    rcases keyIs_shape hv with ⟨i, t, rfl, rfl⟩ | ⟨x, t, rfl, rfl⟩
    · exact wpAny_pyHash_int h
    · exact wpAny_pyHash_str h
  eqBool := fun hu hv h => by
    rcases keyIs_shape hu with ⟨i, t, rfl, rfl⟩ | ⟨x, t, rfl, rfl⟩
    · rcases keyIs_shape hv with ⟨j, u, rfl, rfl⟩ | ⟨y, u, rfl, rfl⟩
      · rw [key_ll] at h; exact wpAny_eqBool_int h
      · rw [key_lr] at h; exact SeqAt.EqAt.int_str i t y u _ _ _ _ h
    · rcases keyIs_shape hv with ⟨j, u, rfl, rfl⟩ | ⟨y, u, rfl, rfl⟩
      · rw [key_rl] at h; exact SeqAt.EqAt.str_int x t j u _ _ _ _ h
      · rw [key_rr] at h; exact wpAny_eqBool_str h
  «strs» := fun k x t v h => by
    rcases keyIs_shape h with ⟨i, u, rfl, e⟩ | ⟨y, u, rfl, e⟩
    · exact nomatch e
    · injection e with e1 _
      subst e1
      cases v <;> rfl
theorem mixKind_int (prog : Program) (w : World) (i : Int) (t : Tok) : (mixKind prog w).is (.inl i) (.int i t) = true := keyIs_int i t
theorem mixKind_str (prog : Program) (w : World) (x : Str) (t : Tok) : (mixKind prog w).is (.inr x) (.str x t) = true := keyIs_str x t
end L2
namespace L2
open PySem PySem.Spec PyProof.Rows
inductive V where
  | non | bl (b : Bool) | int (i : Int) | str (x : Str) | byt (b : Array UInt8) | flt (b : UInt64) | ref (a : Addr) | ty (n : String)
  deriving DecidableEq
def RelV : V → Value → Prop
  | .non, u => u = Value.none
  | .bl b, u => u = Value.bool b
  | .int i, u => ∃ t, u = Value.int i t
  | .str x, u => ∃ t, u = Value.str x t
  | .byt b, u => ∃ t, u = Value.bytes b t
  | .flt b, u => ∃ t, u = Value.float b t
  | .ref a, u => u = Value.ref a
  | .ty n, u => u = Value.type n
abbrev Vals : List V → List Value → Prop := Paired RelV
theorem Vals.length {xs : List V} {us : List Value} (r : Vals xs us) : xs.length = us.length := Paired.length r
theorem Vals.get : ∀ {xs : List V} {us : List Value} {i : Nat} {x : V}, Vals xs us → xs[i]? = some x → ∃ u, us[i]? = some u ∧ RelV x u
  | _, _, _, _, .nil, e => by simp at e
  | _, _, 0, _, .cons r _, e => by simp at e; subst e; exact ⟨_, rfl, r⟩
  | _, _, i + 1, x, .cons _ t, e => by
    obtain ⟨u, h1, h2⟩ := Vals.get (i := i) (x := x) t (by simpa using e)
    exact ⟨u, by simpa using h1, h2⟩
theorem Vals.set {x : V} {u : Value} (r : RelV x u) : ∀ {xs : List V} {us : List Value} (i : Nat), Vals xs us → Vals (xs.set i x) (us.set i u)
  | _, _, _, .nil => .nil
  | _, _, 0, .cons _ t => .cons r t
  | _, _, i + 1, .cons q t => .cons q (Vals.set r i t)
theorem Vals.append : ∀ {xs ys : List V} {us ws : List Value}, Vals xs us → Vals ys ws → Vals (xs ++ ys) (us ++ ws)
  | _, _, _, _, .nil, s => s
  | _, _, _, _, .cons r t, s => .cons r (Vals.append t s)
theorem Vals.take : ∀ {xs : List V} {us : List Value} (n : Nat), Vals xs us → Vals (xs.take n) (us.take n)
  | _, _, 0, _ => .nil
  | _, _, _ + 1, .nil => .nil
  | _, _, n + 1, .cons r t => .cons r (Vals.take n t)
theorem Vals.drop : ∀ {xs : List V} {us : List Value} (n : Nat), Vals xs us → Vals (xs.drop n) (us.drop n)
  | _, _, 0, r => r
  | _, _, _ + 1, .nil => .nil
  | _, _, n + 1, .cons _ t => Vals.drop n t
def RelO : Option V → Option Value → Prop
  | some v, some u => RelV v u
  | none, none => True
  | _, _ => False
def KV {κ : Type} : List (κ × V) → List (κ × Value) → Prop := Paired fun (p : κ × V) (q : κ × Value) => p.1 = q.1 ∧ RelV p.2 q.2
def kV : Key → V
  | .inl i => .int i
  | .inr x => .str x
inductive HO where
  /-- a list -/
  | lst (xs : List V)
  /-- a tuple (never changes) -/
  | tup (xs : List V)
  /-- a dict whose keys are ints and texts; one whose keys are tuples of ints and texts (the empty one is both) -/
  | dK (kvs : List (Key × V)) | dT (kvs : List (List Key × V))
  /-- a set of ints: its members, its size -/
  | set (S : Int → Bool) (n : Nat)
  /-- an instance of the class at C, its dict at dx, its attributes -/
  | ins (C dx : Addr) (fs : List (Str × V))
  /-- the dict of the instance at x -/
  | own (x : Addr)
  /-- the dict of an exception -/
  | xd (fs : List (Str × V))
  /-- a bound method, f of x -/
  | met (f x : Addr)
  /-- a range object lo, lo + 1, .. below hi -/
  | rng (lo hi : Int)
  /-- a thing that is known to the object (the script; a dict while a loop walks it): read, never written while it is so -/
  | frz (o : Obj) (u : HO)
  /-- a code object's table -/
  | tbl (ps : Array Value)
  /-- any other thing, by what is true of its one object (a def of one's own: SetO a S n := HO.ext fun h => ..) -/
  | ext (φ : Heap → Prop)
abbrev Hp := Addr → Option HO
def upd (H : Hp) (a : Addr) (o : HO) : Hp := fun b => if b = a then some o else H b
theorem upd_same {H : Hp} {a : Addr} {o : HO} : upd H a o a = some o := by unfold upd; rw [if_pos rfl]
theorem upd_ne {H : Hp} {a b : Addr} {o : HO} (h : b ≠ a) : upd H a o b = H b := by unfold upd; rw [if_neg h]
theorem upd_upd {H : Hp} {a : Addr} {o u : HO} : upd (upd H a o) a u = upd H a u := by
  funext b; unfold upd; split <;> rfl
theorem ne_of {H : Hp} {a b : Addr} {o u : HO} (h : H a = some o) (h' : H b = some u) (d : o ≠ u) : a ≠ b := by
  intro e; subst e; rw [h] at h'; exact d (Option.some.inj h')
theorem ne_of_none {H : Hp} {a b : Addr} {o : HO} (h : H a = some o) (h' : H b = none) : a ≠ b := by
  intro e; subst e; rw [h] at h'; cases h'
section
variable (P : Program) (w : World)
def ObjOk (H : Hp) (h : Heap) (a : Addr) : HO → Prop
  | .lst xs => xs.length ≤ sizeLine ∧ ∃ (its : List Value) (n : Nat), Vals xs its ∧ h.get? a = some { cls := .type "list", data := .seq its.toArray n }
  | .tup xs => xs.length ≤ sizeLine ∧ ∃ its : List Value, Vals xs its ∧ IsTup h a its.toArray
  | .dK kvs => kvs.length ≤ sizeLine ∧ (a == sysModules) = false ∧ ∃ vs, KV kvs vs ∧ h.DictOf (mixKind P w) a vs
  | .dT kvs => kvs.length ≤ sizeLine ∧ (a == sysModules) = false ∧ ∃ xs : List (List Key × Addr × Value),
      Paired (fun (p : List Key × V) (q : List Key × Addr × Value) => p.1 = q.1 ∧ H q.2.1 = some (.tup (p.1.map kV)) ∧ RelV p.2 q.2.2) kvs xs ∧
      ∃ o es ep, h.get? a = some o ∧ o.ExactDict ∧ o.data = .dict es ep ∧ es.toList = xs.map (entryOfKey (tupleKind (mixKind P w))) ∧ (xs.map (·.1)).Nodup
  | .set S n => h.SetOf (intKind P w) a S n
  | .ins C dx fs => H dx = some (.own a) ∧ fs.length ≤ 1000 ∧ dx ≠ a ∧ h.get? a = some (PySem.W.instObj C dx) ∧
      ∃ mA, h.Ns1 dx mA ∧ (∀ f, RelO (fs.lookup f) (mA f)) ∧ PySem.Within mA (fs.map (·.1))
  | .own _ => ∃ o, h.get? a = some o
  | .xd fs => ∃ mA, h.Ns1 a mA ∧ ∀ f, RelO (fs.lookup f) (mA f)
  | .rng lo hi => ∃ t u v, h.get? a = some { cls := .type "range", data := .fields #[.int lo t, .int hi u, .int 1 v] }
  | .frz o u => h.get? a = some o ∧ ObjOk H h a u
  | .tbl ps => h.get? a = some { cls := .none, data := .fields ps }
  | .met f x => h.get? a = some (PySem.W.methodObj (.ref f) (.ref x))
  | .ext φ => φ h ∧ (∃ o, h.get? a = some o) ∧ ∀ h1 h2 : Heap, φ h1 → (∀ o, h1.get? a = some o → h2.get? a = some o) → φ h2
def HOk (H : Hp) (h : Heap) : Prop := ∀ a o, H a = some o → ObjOk P w H h a o
end
section
variable {P : Program} {w : World} {H H' : Hp} {h h' : Heap} {a : Addr} {o : HO}
theorem ObjOk.lt (x : ObjOk P w H h a o) : a < h.objs.size := by
  cases o with
  | lst xs => obtain ⟨_, _, _, _, e⟩ := x; exact Heap.lt_size e
  | tup xs => obtain ⟨_, _, _, p⟩ := x; exact p.lt
  | dK kvs => obtain ⟨_, _, _, _, o, _, _, e, _⟩ := x; exact Heap.lt_size e
  | dT kvs => obtain ⟨_, _, _, _, o, _, _, e, _⟩ := x; exact Heap.lt_size e
  | set S n => obtain ⟨o, _, _, _, e, _⟩ := x; exact Heap.lt_size e
  | ins C dx fs => obtain ⟨_, _, _, e, _⟩ := x; exact Heap.lt_size e
  | own y => obtain ⟨_, e⟩ := x; exact Heap.lt_size e
  | xd fs => obtain ⟨_, ⟨_, _, _, e, _⟩, _⟩ := x; exact Heap.lt_size e
  | rng lo hi => obtain ⟨_, _, _, e⟩ := x; exact Heap.lt_size e
  | frz ob u => obtain ⟨e, _⟩ := x; exact Heap.lt_size e
  | tbl ps => exact Heap.lt_size (show h.get? a = some _ from x)
  | met f y => exact Heap.lt_size (show h.get? a = some _ from x)
  | ext φ => obtain ⟨_, ⟨_, e⟩, _⟩ := x; exact Heap.lt_size e
theorem Paired.mapP {α β : Type} {F G : α → β → Prop} : ∀ {l₁ : List α} {l₂ : List β}, Paired F l₁ l₂ → (∀ a b, F a b → G a b) → Paired G l₁ l₂
  | _, _, .nil, _ => .nil
  | _, _, .cons r t, f => .cons (f _ _ r) (Paired.mapP t f)
theorem ObjOk.stay (x : ObjOk P w H h a o) (k : ∀ b u, (b = a ∨ H b = some (.own a)) → h.get? b = some u → h'.get? b = some u)
    (ho : ∀ b, H b = some (.own a) → H' b = some (.own a)) (ht : ∀ b xs, H b = some (.tup xs) → H' b = some (.tup xs)) : ObjOk P w H' h' a o := by
  induction o with
  | lst xs => obtain ⟨z, its, n, r, e⟩ := x; exact ⟨z, its, n, r, k _ _ (.inl rfl) e⟩
  | tup xs => obtain ⟨z, its, r, ob, e, c⟩ := x; exact ⟨z, its, r, ob, k _ _ (.inl rfl) e, c⟩
  | dK kvs => obtain ⟨z, y, vs, r, ob, es, ep, e, c⟩ := x; exact ⟨z, y, vs, r, ob, es, ep, k _ _ (.inl rfl) e, c⟩
  | dT kvs =>
    obtain ⟨z, y, xs, r, ob, es, ep, e, c⟩ := x
    exact ⟨z, y, xs, Paired.mapP r fun p q z => ⟨z.1, ht _ _ z.2.1, z.2.2⟩, ob, es, ep, k _ _ (.inl rfl) e, c⟩
  | set S n => obtain ⟨ob, es, ep, t, e, c⟩ := x; exact ⟨ob, es, ep, t, k _ _ (.inl rfl) e, c⟩
  | ins C dx fs =>
    obtain ⟨d, z, ne, e, mA, ⟨od, es, ep, e2, c⟩, r⟩ := x
    exact ⟨ho _ d, z, ne, k _ _ (.inl rfl) e, mA, ⟨od, es, ep, k _ _ (.inr d) e2, c⟩, r⟩
  | own y => obtain ⟨ob, e⟩ := x; exact ⟨ob, k _ _ (.inl rfl) e⟩
  | xd fs => obtain ⟨mA, ⟨od, es, ep, e, c⟩, r⟩ := x; exact ⟨mA, ⟨od, es, ep, k _ _ (.inl rfl) e, c⟩, r⟩
  | rng lo hi => obtain ⟨t, u, v, e⟩ := x; exact ⟨t, u, v, k _ _ (.inl rfl) e⟩
  | frz ob u ih => obtain ⟨e, q⟩ := x; exact ⟨k _ _ (.inl rfl) e, ih q⟩
  | tbl ps =>
    have e : h.get? a = some { cls := .none, data := .fields ps } := x
    show h'.get? a = some { cls := .none, data := .fields ps }
    exact k a _ (.inl rfl) e
  | met f y =>
    have e : h.get? a = some (PySem.W.methodObj (.ref f) (.ref y)) := x
    show h'.get? a = some (PySem.W.methodObj (.ref f) (.ref y))
    exact k a _ (.inl rfl) e
  | ext φ => obtain ⟨p, ⟨o, e⟩, st⟩ := x; exact ⟨st _ _ p fun o q => k _ _ (.inl rfl) q, ⟨o, k _ _ (.inl rfl) e⟩, st⟩
theorem HOk.lt (x : HOk P w H h) (e : H a = some o) : a < h.objs.size := (x a o e).lt
theorem HOk.fresh (x : HOk P w H h) (e : h.objs.size ≤ a) : H a = none := by
  cases q : H a with
  | none => rfl
  | some u => exact absurd (Nat.lt_of_lt_of_le (x.lt q) e) (Nat.lt_irrefl _)
theorem HOk.kept (x : HOk P w H h) (k : ∀ b u, h.get? b = some u → h'.get? b = some u) : HOk P w H h' := fun a o e =>
  (x a o e).stay (fun b u _ q => k b u q) (fun _ q => q) fun _ _ q => q
theorem HOk.laid (x : HOk P w H h) (k : ∀ b u, h.get? b = some u → h'.get? b = some u) (hp : h.objs.size ≤ a) (new : ObjOk P w (upd H a o) h' a o) : HOk P w (upd H a o) h' := fun b u e => by
  have hn := x.fresh hp
  by_cases hb : b = a
  · subst hb; rw [upd_same] at e; cases e; exact new
  · rw [upd_ne hb] at e
    exact (x b u e).stay (fun c v _ q => k c v q) (fun c q => by rw [upd_ne (ne_of_none q hn)]; exact q) fun c xs q => by rw [upd_ne (ne_of_none q hn)]; exact q
end
def Rd (H : Hp) (a : Addr) (u : HO) : Prop := H a = some u ∨ ∃ o, H a = some (.frz o u)
theorem Rd.ok {P : Program} {w : World} {H : Hp} {h : Heap} {a : Addr} {u : HO} (r : Rd H a u) (x : HOk P w H h) : ObjOk P w H h a u := by
  rcases r with r | ⟨o, r⟩
  · exact x a u r
  · obtain ⟨_, q⟩ := x a _ r
    exact q
def Mut : Option HO → Prop
  | some (.lst _) => True
  | some (.dK _) => True
  | some (.dT _) => True
  | some (.set _ _) => True
  | some (.ins _ _ _) => True
  | some (.ext _) => True
  | _ => False
section
variable {P : Program} {w : World} {H : Hp} {h h' : Heap} {x e : Addr} {o' : HO}
theorem HOk.write (ok : HOk P w H h) (mu : Mut (H x)) (he : e = x ∨ H e = some (.own x)) (k : ∀ b u, b ≠ e → h.get? b = some u → h'.get? b = some u) (heo : ∃ u, h'.get? e = some u)
    (new : ObjOk P w (upd H x o') h' x o') : HOk P w (upd H x o') h' := fun b u q => by
  have nown : ∀ c y, H c = some (.own y) → c ≠ x := fun c y r z => by subst z; rw [r] at mu; exact mu
  have ntup : ∀ c xs, H c = some (.tup xs) → c ≠ x := fun c xs r z => by subst z; rw [r] at mu; exact mu
  by_cases hb : b = x
  · subst hb; rw [upd_same] at q; cases q; exact new
  · rw [upd_ne hb] at q
    by_cases hbe : b = e
    · have q' : H b = some (.own x) := by
        rcases he with z | z
        · exact absurd (hbe.trans z) hb
        · rw [hbe]; exact z
      rw [q] at q'; cases q'
      obtain ⟨v, hv⟩ := heo
      exact ⟨v, by rw [hbe]; exact hv⟩
    · refine (ok b u q).stay (fun c v hc r => k c v ?_ r) (fun c r => by rw [upd_ne (nown c b r)]; exact r) fun c xs r => by rw [upd_ne (ntup c xs r)]; exact r
      rcases hc with rfl | hc
      · exact hbe
      · rintro rfl
        rcases he with z | z
        · exact nown c b hc z
        · rw [hc] at z; cases z; exact hb rfl
end
structure Un (fs ex : List Addr) (H H' : Hp) (h h' : Heap) : Prop where
  keep : ∀ b o, h.get? b = some o → H b = none → b ∉ fs → b ∉ ex → h'.get? b = some o
  slot : ∀ b o, h.get? b = some o → H b = none → b ∈ fs → b ∉ ex → ∃ sl, h'.get? b = some { o with slots := sl }
  free : ∀ b o, h.get? b = some o → H b = none → b ∉ ex → H' b = none
  there : ∀ b o, h.get? b = some o → b ∉ ex → ∃ o', h'.get? b = some o'
  tups : ∀ b xs, H b = some (.tup xs) → H' b = some (.tup xs)
  frzs : ∀ b o u, H b = some (.frz o u) → H' b = some (.frz o u)
  tbls : ∀ b ps, H b = some (.tbl ps) → ∃ more, H' b = some (.tbl (ps ++ more))
section
variable {fs fs' ex ex' : List Addr} {H H1 H2 : Hp} {h h1 h2 h' : Heap} {a x e : Addr} {o : HO}
theorem Un.any (u : Un fs ex H H1 h h1) {b : Addr} {ob : Obj} (q : h.get? b = some ob) (n : H b = none) (hx : b ∉ ex) : ∃ sl, h1.get? b = some { ob with slots := sl } := by
  by_cases hb : b ∈ fs
  · exact u.slot b ob q n hb hx
  · exact ⟨ob.slots, u.keep b ob q n hb hx⟩
theorem Un.kept (k : ∀ b u, h.get? b = some u → h'.get? b = some u) : Un fs ex H H h h' :=
  ⟨fun b ob q _ _ _ => k b ob q, fun b ob q _ _ _ => ⟨ob.slots, k b ob q⟩, fun _ _ _ n _ => n, fun b ob q _ => ⟨ob, k b ob q⟩, fun _ _ q => q, fun _ _ _ q => q, fun _ ps q => ⟨#[], by rw [q]; simp⟩⟩
theorem Un.refl : Un fs ex H H h h := Un.kept fun _ _ q => q
theorem Un.laid (k : ∀ b u, h.get? b = some u → h'.get? b = some u) (hp : h.objs.size ≤ a) (hn : H a = none) : Un fs ex H (upd H a o) h h' where
  keep := fun b u q _ _ _ => k b u q
  slot := fun b u q _ _ _ => ⟨u.slots, k b u q⟩
  free := fun b u q n _ => by rw [upd_ne (Nat.ne_of_lt (Nat.lt_of_lt_of_le (Heap.lt_size q) hp))]; exact n
  there := fun b u q _ => ⟨u, k b u q⟩
  tups := fun b xs q => by rw [upd_ne (ne_of_none q hn)]; exact q
  frzs := fun b u xs q => by rw [upd_ne (ne_of_none q hn)]; exact q
  tbls := fun b ps q => ⟨#[], by rw [upd_ne (ne_of_none q hn), q]; simp⟩
theorem Un.write (mu : Mut (H x)) (he : e = x ∨ H e = some (.own x)) (k : ∀ b u, b ≠ e → h.get? b = some u → h'.get? b = some u) (heo : ∃ u, h'.get? e = some u) : Un fs ex H (upd H x o) h h' := by
  have hx : ∀ b, H b = none → b ≠ x := fun b n z => by subst z; rw [n] at mu; exact mu
  have hb : ∀ b, H b = none → b ≠ e := fun b n z => by
    subst z
    rcases he with r | r
    · exact hx b n r
    · rw [n] at r; cases r
  have hm : ∀ b u, H b = some u → ¬ Mut (some u) → b ≠ x := fun b u q nm z => by subst z; rw [q] at mu; exact nm mu
  refine ⟨fun b u q n _ _ => k b u (hb b n) q, fun b u q n _ _ => ⟨u.slots, k b u (hb b n) q⟩, fun b u q n _ => by rw [upd_ne (hx b n)]; exact n, fun b u q _ => ?_,
    fun b xs q => by rw [upd_ne (hm b _ q fun z => z)]; exact q, fun b u xs q => by rw [upd_ne (hm b _ q fun z => z)]; exact q, fun b ps q => ⟨#[], by rw [upd_ne (hm b _ q fun z => z), q]; simp⟩⟩
  by_cases hbe : b = e
  · subst hbe; exact heo
  · exact ⟨u, k b u hbe q⟩
end
def trk (h : Heap) (H : Hp) : List Addr := (List.range h.objs.size).filter fun a => (H a).isSome
def hidT (h : Heap) (H : Hp) : Heap := PySem.W.hideAll h (trk h H)
theorem hidT_size (h : Heap) (H : Hp) : (hidT h H).objs.size = h.objs.size := PySem.W.hideAll_size _ _
theorem hidT_get {h : Heap} {H : Hp} {b : Addr} {o : Obj} (e : h.get? b = some o) (n : H b = none) : (hidT h H).get? b = some o :=
  PySem.W.hideAll_get _ e fun hm => by
    have q : (H b).isSome = true := (List.mem_filter.mp hm).2
    rw [n] at q; simp at q
theorem of_hidT {h : Heap} {H : Hp} {b : Addr} {o : Obj} (e : (hidT h H).get? b = some o) : h.get? b = some o ∧ H b = none := by
  have e' : h.get? b = some o := PySem.W.of_hideAll (trk h H) e
  refine ⟨e', ?_⟩
  cases q : H b with
  | none => rfl
  | some x =>
    have hm : b ∈ trk h H := List.mem_filter.mpr ⟨List.mem_range.mpr (Heap.lt_size e'), by simp [q]⟩
    have z : (hidT h H).get? b = none := PySem.W.hideAll_none (trk h H) hm
    rw [z] at e; cases e
end L2
namespace L2
open PySem PySem.Spec PyProof.Rows
structure Mod (K : PySem.W.Frag) (mg : Str → Option Value) (base : Heap) : Prop where
  kin : K.In base
  glob : base.Ns mainGlobals mg
  blt : ∃ mb, base.Ns builtinsNs mb ∧ ∀ x : Str, x ≠ "__name__" → mb x = bootBuiltins x
  nolimit : base.NoLimit
structure Cx where
  prog : Program
  w : World
  K : PySem.W.Frag
  mg : Str → Option Value
  base : Heap
  A : Around
  N : List Str
  s₀ : Shared
  H₀ : Hp
  env : Env
  outer : List Env
  stack : List Env
  ex : List Addr
  fn : Str → Bool
  calm : Bool
  pn : List (Addr × Obj)
  xe : Value → Shared → Prop
def frs (l : List Env) : List Addr := l.filterMap (·.frame)
abbrev Cx.fs (X : Cx) : List Addr := frs X.outer
def Vis (sc : Scope) (x : Str) : Prop := sc.names.lookup x = some .local ∨ sc.names.lookup x = some .cell ∨ sc.names.lookup x = some .free
def Loc (sc : Scope) (x : Str) : Prop := sc.names.lookup x = some .local ∨ sc.names.lookup x = some .cell
def Look (env : Env) (h : Heap) (m : Str → Option Value) (x : Str) (u : Value) : Prop :=
  (env.kindOf x = some .local ∧ m x = some u) ∨ ((env.kindOf x = some .cell ∨ env.kindOf x = some .free) ∧ ∃ c, env.cells.lookup x = some c ∧ h.IsCell c (some u))
structure Cx.Ok (X : Cx) : Prop where
  mod : Mod X.K X.mg X.base
  kind : X.env.scope.kind = .function
  glob : X.env.globals = mainGlobals
  blt : X.env.builtins = builtinsNs
  above : X.s₀.heap.objs.size ≤ X.env.locals
  inj : ∀ x y c, X.env.cells.lookup x = some c → X.env.cells.lookup y = some c → x = y
  has : ∀ x, (X.env.kindOf x = some .cell ∨ X.env.kindOf x = some .free) → ∃ c, X.env.cells.lookup x = some c
  cab : ∀ x c, X.fn x = true → X.env.cells.lookup x = some c → X.s₀.heap.objs.size ≤ c
  hd : X.calm = true → X.A.handled = none
  frames : X.A.frames = some X.stack
  stk : X.stack = X.outer ∨ (X.stack = X.env :: X.outer ∧ X.env.frame = some X.env.locals)
  exf : ∀ b ∈ X.ex, b ≠ X.env.locals ∧ ∀ x c, X.env.cells.lookup x = some c → c ≠ b
  bs : ∀ b o, X.base.get? b = some o → X.s₀.heap.get? b = some o ∧ X.H₀ b = none
  bsz : X.base.objs.size ≤ X.s₀.heap.objs.size
  noex : ∀ b o, X.base.get? b = some o → b ∉ X.ex
  exfs : ∀ b ∈ X.ex, b ∉ X.fs
  funs : X.s₀.heap.FunFrames X.base X.outer
  frf : ∀ b ∈ X.fs, X.H₀ b = none
structure Inv (X : Cx) (pins : List (Addr × Obj)) (σ : List (Option V)) (H : Hp) (s : Shared) : Prop where
  ok : X.Ok
  os : s.os = X.s₀.os
  bare : AllBare s.gens
  base : Un X.fs X.ex X.H₀ H X.s₀.heap s.heap
  loc : ∃ m, s.heap.Ns X.env.locals m ∧ ∀ (i : Nat) (x : Str) (v : V), X.N[i]? = some x → σ[i]? = some (some v) → Vis X.env.scope x → ∃ u, RelV v u ∧ Look X.env s.heap m x u
  cell : ∀ x c, X.env.cells.lookup x = some c → ∃ v, s.heap.IsCell c v
  free : H X.env.locals = none
  freeC : ∀ x c, X.env.cells.lookup x = some c → H c = none
  pin : ∀ p ∈ X.pn ++ pins, s.heap.get? p.1 = some p.2 ∧ H p.1 = none ∧ p.1 ≠ X.env.locals ∧ p.1 ∉ X.fs ∧ ∀ v, p.2.data ≠ .cell v
  hok : HOk X.prog X.w H s.heap
  len : σ.length = X.N.length
section
variable {X : Cx} {pins : List (Addr × Obj)} {σ : List (Option V)} {H H' : Hp} {s : Shared} {h' : Heap}
theorem Cx.Ok.nofr (ok : X.Ok) {b : Addr} {o : Obj} (e : X.base.get? b = some o) : b ∉ X.fs := fun hb => by
  have := (ok.funs.mem hb).1
  rw [e] at this; cases this
theorem Inv.bs (I : Inv X pins σ H s) : ∀ b o, X.base.get? b = some o → s.heap.get? b = some o ∧ H b = none := fun b o e =>
  ⟨I.base.keep b o (I.ok.bs b o e).1 (I.ok.bs b o e).2 (I.ok.nofr e) (I.ok.noex b o e), I.base.free b o (I.ok.bs b o e).1 (I.ok.bs b o e).2 (I.ok.noex b o e)⟩
theorem Inv.bk (I : Inv X pins σ H s) : ∀ b o, X.base.get? b = some o → s.heap.get? b = some o := fun b o e => (I.bs b o e).1
theorem Inv.mod (I : Inv X pins σ H s) : Mod X.K X.mg X.base := I.ok.mod
theorem Inv.kIn (I : Inv X pins σ H s) : X.K.In s.heap := I.ok.mod.kin.keeps I.bk
theorem Inv.nolimit (I : Inv X pins σ H s) : s.heap.NoLimit := I.ok.mod.nolimit.keeps I.bk
theorem Inv.lt (I : Inv X pins σ H s) : X.env.locals < s.heap.objs.size := let ⟨_, hn, _⟩ := I.loc; hn.lt
theorem Inv.sz (I : Inv X pins σ H s) : X.s₀.heap.objs.size ≤ s.heap.objs.size := Nat.le_trans I.ok.above (Nat.le_of_lt I.lt)
theorem Inv.nofs (I : Inv X pins σ H s) {a : Addr} (h : s.heap.objs.size ≤ a) : a ∉ X.fs := fun hb => by
  obtain ⟨_, o, ho, _⟩ := I.ok.funs.mem hb
  exact absurd (Nat.lt_of_lt_of_le (Heap.lt_size ho) (Nat.le_trans I.sz h)) (Nat.lt_irrefl _)
theorem Inv.cne (I : Inv X pins σ H s) : ∀ x c, X.env.cells.lookup x = some c → c ≠ X.env.locals := fun x c e z => by
  obtain ⟨v, o, ho, hd⟩ := I.cell x c e
  obtain ⟨m, ⟨o', es, ep, ho', hd', _⟩, _⟩ := I.loc
  rw [z, ho'] at ho; cases ho; rw [hd'] at hd; cases hd
theorem Inv.funs (I : Inv X pins σ H s) : s.heap.FunFrames X.base X.outer := by
  have all : ∀ (l : List Env), (∀ b ∈ frs l, b ∈ X.fs) → X.s₀.heap.FunFrames X.base l → s.heap.FunFrames X.base l := by
    intro l
    induction l with
    | nil => intro _ _; trivial
    | cons env r ih =>
      intro hs hl
      obtain ⟨hk, ⟨L, o, hf, hn, ho, hd⟩, hr⟩ := hl
      have hL : L ∈ X.fs := hs L (by unfold frs; rw [List.filterMap_cons, hf]; exact List.mem_cons_self)
      obtain ⟨sl, e⟩ := I.base.slot L o ho (I.ok.frf L hL) hL fun z => I.ok.exfs L z hL
      exact ⟨hk, ⟨L, _, hf, hn, e, hd⟩, ih (fun b hb => hs b (by unfold frs; rw [List.filterMap_cons, hf]; exact List.mem_cons_of_mem _ hb)) hr⟩
  exact all X.outer (fun _ hb => hb) I.ok.funs
theorem Inv.stack (I : Inv X pins σ H s) : s.heap.FunFrames X.base X.stack := by
  rcases I.ok.stk with e | ⟨e, hf⟩
  · rw [e]; exact I.funs
  · rw [e]
    obtain ⟨m, hn, _⟩ := I.loc
    refine .cons (by rw [I.ok.kind]; decide) hf hn ?_ I.funs
    exact Heap.get?_none_of_le (Nat.le_trans I.ok.bsz I.ok.above)
theorem Inv.stkSub (I : Inv X pins σ H s) : ∀ b ∈ frs X.stack, b ∈ X.env.locals :: X.fs := fun b hb => by
  rcases I.ok.stk with e | ⟨e, hf⟩
  · rw [e] at hb; exact List.mem_cons_of_mem _ hb
  · rw [e] at hb
    unfold frs at hb
    rw [List.filterMap_cons, hf] at hb
    exact hb
theorem Inv.stkFree (I : Inv X pins σ H s) : ∀ b ∈ frs X.stack, H b = none := fun b hb => by
  rcases List.mem_cons.mp (I.stkSub b hb) with e | hb
  · rw [e]; exact I.free
  · obtain ⟨_, o, ho, _⟩ := I.ok.funs.mem hb
    exact I.base.free b o ho (I.ok.frf b hb) fun z => I.ok.exfs b z hb
theorem Inv.step {g' : Array GenState} {t' : Nat} {d' : Drawn} {ch : List Addr} (I : Inv X pins σ H s)
    (hch : ∀ b ∈ ch, (b ∈ X.ex ∨ X.s₀.heap.objs.size ≤ b) ∧ b ≠ X.env.locals ∧ (∀ x c, X.env.cells.lookup x = some c → c ≠ b) ∧ ∀ p ∈ X.pn ++ pins, p.1 ≠ b)
    (keep : ∀ b o, b ≠ X.env.locals → b ∉ X.fs → b ∉ ch → s.heap.get? b = some o → H b = none → h'.get? b = some o)
    (slot : ∀ b o, b ≠ X.env.locals → b ∈ X.fs → b ∉ ch → s.heap.get? b = some o → H b = none → ∃ sl, h'.get? b = some { o with slots := sl }) (free : ∀ b o, b ∉ ch → s.heap.get? b = some o → H b = none → H' b = none)
    (there : ∀ b o, b ∉ ch → s.heap.get? b = some o → ∃ o', h'.get? b = some o')
    (tups : ∀ b xs, H b = some (.tup xs) → H' b = some (.tup xs)) (frzs : ∀ b o u, H b = some (.frz o u) → H' b = some (.frz o u)) (tbls : ∀ b ps, H b = some (.tbl ps) → ∃ more, H' b = some (.tbl (ps ++ more)))
    (ns : ∀ m, s.heap.Ns X.env.locals m → h'.Ns X.env.locals m) (hok : HOk X.prog X.w H' h') (hg : AllBare g') :
    Inv X pins σ H' { s with heap := h', gens := g', drawn := d', toks := t' } := by
  have neL : ∀ b o, X.s₀.heap.get? b = some o → b ≠ X.env.locals := fun b o e => Nat.ne_of_lt (Nat.lt_of_lt_of_le (Heap.lt_size e) I.ok.above)
  have neC : ∀ b o, X.s₀.heap.get? b = some o → b ∉ X.ex → b ∉ ch := fun b o e hx hb => by
    rcases (hch b hb).1 with z | z
    · exact hx z
    · exact absurd (Nat.lt_of_lt_of_le (Heap.lt_size e) z) (Nat.lt_irrefl _)
  have cellK : ∀ x c, X.env.cells.lookup x = some c → ∀ v, s.heap.IsCell c v → h'.IsCell c v := fun x c e v ⟨o, ho, hd⟩ => by
    have nch : c ∉ ch := fun z => (hch c z).2.2.1 x c e rfl
    by_cases hc : c ∈ X.fs
    · obtain ⟨sl, q⟩ := slot c o (I.cne x c e) hc nch ho (I.freeC x c e)
      exact ⟨_, q, hd⟩
    · exact ⟨o, keep c o (I.cne x c e) hc nch ho (I.freeC x c e), hd⟩
  refine ⟨I.ok, I.os, hg, ⟨fun b o e n hb hx => ?_, fun b o e n hb hx => ?_, fun b o e n hx => ?_, fun b o e hx => ?_, fun b xs e => tups b xs (I.base.tups b xs e), fun b o xs e => frzs b o xs (I.base.frzs b o xs e), fun b ps e => ?_⟩, ?_, fun x c e => ?_, ?_, fun x c e => ?_, fun p hp => ?_, hok, I.len⟩
  · exact keep b o (neL b o e) hb (neC b o e hx) (I.base.keep b o e n hb hx) (I.base.free b o e n hx)
  · obtain ⟨sl, e1⟩ := I.base.slot b o e n hb hx
    obtain ⟨sl', e2⟩ := slot b _ (neL b o e) hb (neC b o e hx) e1 (I.base.free b o e n hx)
    exact ⟨sl', e2⟩
  · obtain ⟨o', e1⟩ := I.base.there b o e hx
    exact free b o' (neC b o e hx) e1 (I.base.free b o e n hx)
  · obtain ⟨o', e1⟩ := I.base.there b o e hx
    exact there b o' (neC b o e hx) e1
  · obtain ⟨m1, e1⟩ := I.base.tbls b ps e
    obtain ⟨m2, e2⟩ := tbls b _ e1
    exact ⟨m1 ++ m2, by rw [e2, Array.append_assoc]⟩
  · obtain ⟨m, hn, hl⟩ := I.loc
    refine ⟨m, ns m hn, fun i x v e1 e2 e3 => ?_⟩
    obtain ⟨u, r, l⟩ := hl i x v e1 e2 e3
    refine ⟨u, r, ?_⟩
    rcases l with l | ⟨k, c, e, z⟩
    · exact .inl l
    · exact .inr ⟨k, c, e, cellK x c e _ z⟩
  · obtain ⟨v, z⟩ := I.cell x c e
    exact ⟨v, cellK x c e v z⟩
  · obtain ⟨m, ⟨o, _, _, ho, _⟩, _⟩ := I.loc
    exact free _ o (fun z => (hch _ z).2.1 rfl) ho I.free
  · obtain ⟨v, o, ho, hd⟩ := I.cell x c e
    exact free c o (fun z => (hch c z).2.2.1 x c e rfl) ho (I.freeC x c e)
  · obtain ⟨e, n, ne, nf, d⟩ := I.pin p hp
    have nch : p.1 ∉ ch := fun z => (hch p.1 z).2.2.2 p hp rfl
    exact ⟨keep p.1 p.2 ne nf nch e n, free p.1 p.2 nch e n, ne, nf, d⟩
theorem Inv.un {t' : Nat} (I : Inv X pins σ H s) (u : Un X.fs [] H H' s.heap h') (hok : HOk X.prog X.w H' h') : Inv X pins σ H' { s with heap := h', toks := t' } := by
  obtain ⟨m, ⟨o, es, ep, ho, r⟩, _⟩ := id I.loc
  obtain ⟨sl, hL⟩ := u.any ho I.free (by simp)
  exact I.step (g' := s.gens) (d' := s.drawn) (ch := []) (fun _ z => nomatch z) (fun b o _ hb _ e n => u.keep b o e n hb (by simp)) (fun b o _ hb _ e n => u.slot b o e n hb (by simp)) (fun b o _ e n => u.free b o e n (by simp)) (fun b o _ e => u.there b o e (by simp)) u.tups u.frzs u.tbls (fun m' hm => by
    obtain ⟨o', es', ep', ho', r'⟩ := hm
    rw [ho] at ho'; cases ho'
    exact ⟨_, es', ep', hL, r'⟩) hok I.bare
theorem Inv.call {g' : Array GenState} {t' : Nat} {d' : Drawn} {ch : List Addr} (I : Inv X pins σ H s) (u : Un (frs X.stack) ch H H' s.heap h') (hok : HOk X.prog X.w H' h') (hg : AllBare g')
    (hch : ∀ b ∈ ch, (b ∈ X.ex ∨ X.s₀.heap.objs.size ≤ b) ∧ b ≠ X.env.locals ∧ (∀ x c, X.env.cells.lookup x = some c → c ≠ b) ∧ ∀ p ∈ X.pn ++ pins, p.1 ≠ b) :
    Inv X pins σ H' { s with heap := h', gens := g', drawn := d', toks := t' } := by
  obtain ⟨m, ⟨o, es, ep, ho, r⟩, _⟩ := id I.loc
  obtain ⟨sl, hL⟩ := u.any ho I.free fun z => (hch _ z).2.1 rfl
  exact I.step (ch := ch) hch (fun b o hL hb hc e n => u.keep b o e n (fun z => (List.mem_cons.mp (I.stkSub b z)).elim hL hb) hc) (fun b o _ _ hc e n => u.any e n hc) (fun b o hc e n => u.free b o e n hc) (fun b o hc e => u.there b o e hc) u.tups u.frzs u.tbls (fun m' hm => by
    obtain ⟨o', es', ep', ho', r'⟩ := hm
    rw [ho] at ho'; cases ho'
    exact ⟨_, es', ep', hL, r'⟩) hok hg
theorem Inv.turned {t' : Nat} {it : Addr} (I : Inv X pins σ H s) (k : ∀ b o, b ≠ it → s.heap.get? b = some o → h'.get? b = some o) (hn : H it = none) (hL : it ≠ X.env.locals)
    (h1 : it ∈ X.ex ∨ X.s₀.heap.objs.size ≤ it) (h2 : ∀ x c, X.env.cells.lookup x = some c → c ≠ it) (h3 : ∀ p ∈ X.pn ++ pins, p.1 ≠ it) : Inv X pins σ H { s with heap := h', toks := t' } := by
  have nit : ∀ b u, H b = some u → b ≠ it := fun b u e z => by rw [z, hn] at e; cases e
  refine I.step (g' := s.gens) (d' := s.drawn) (ch := [it]) (fun b hb => ?_) (fun b o _ _ hc e _ => k b o (fun z => hc (by simp [z])) e) (fun b o _ _ hc e _ => ⟨o.slots, k b o (fun z => hc (by simp [z])) e⟩) (fun _ _ _ _ n => n)
    (fun b o hc e => ⟨o, k b o (fun z => hc (by simp [z])) e⟩) (fun _ _ e => e) (fun _ _ _ e => e) (fun b ps e => ⟨#[], by rw [e]; simp⟩) (fun m hm => ?_) (fun b u e => ?_) I.bare
  · have e : b = it := by simpa using hb
    subst e
    exact ⟨h1, hL, h2, h3⟩
  · obtain ⟨o, es, ep, ho, r⟩ := hm
    exact ⟨o, es, ep, k _ o (Ne.symm hL) ho, r⟩
  · refine (I.hok b u e).stay (fun c v hc q => k c v ?_ q) (fun _ q => q) fun _ _ q => q
    rcases hc with z | z
    · rw [z]; exact nit b u e
    · exact nit c _ z
theorem Inv.tok (I : Inv X pins σ H s) (t : Nat) : Inv X pins σ H { s with toks := t } := I.un (h' := s.heap) (t' := t) Un.refl I.hok
theorem Inv.kept {t' : Nat} (I : Inv X pins σ H s) (k : ∀ b u, s.heap.get? b = some u → h'.get? b = some u) : Inv X pins σ H { s with heap := h', toks := t' } := I.un (Un.kept k) (I.hok.kept k)
theorem Inv.laid {a : Addr} {o : HO} {t' : Nat} (I : Inv X pins σ H s) (k : ∀ b u, s.heap.get? b = some u → h'.get? b = some u) (hp : s.heap.objs.size ≤ a) (new : ObjOk X.prog X.w (upd H a o) h' a o) :
    Inv X pins σ (upd H a o) { s with heap := h', toks := t' } := I.un (Un.laid k hp (I.hok.fresh hp)) (I.hok.laid k hp new)
theorem Inv.write {x e : Addr} {o : HO} {t' : Nat} (I : Inv X pins σ H s) (mu : Mut (H x)) (he : e = x ∨ H e = some (.own x)) (k : ∀ b u, b ≠ e → s.heap.get? b = some u → h'.get? b = some u) (heo : ∃ u, h'.get? e = some u)
    (new : ObjOk X.prog X.w (upd H x o) h' x o) : Inv X pins σ (upd H x o) { s with heap := h', toks := t' } := I.un (Un.write mu he k heo) (I.hok.write mu he k heo new)
theorem Inv.pins_of {pins' : List (Addr × Obj)} (I : Inv X pins σ H s) (h : ∀ p ∈ pins', s.heap.get? p.1 = some p.2 ∧ H p.1 = none ∧ p.1 ≠ X.env.locals ∧ p.1 ∉ X.fs ∧ ∀ v, p.2.data ≠ .cell v) : Inv X pins' σ H s :=
  ⟨I.ok, I.os, I.bare, I.base, I.loc, I.cell, I.free, I.freeC, fun p hp => (List.mem_append.mp hp).elim (fun z => I.pin p (List.mem_append_left _ z)) (h p), I.hok, I.len⟩
theorem nodup_ix {N : List Str} (hN : N.Nodup) {i j : Nat} {x : Str} (a : N[i]? = some x) (b : N[j]? = some x) : i = j := by
  obtain ⟨h1, e1⟩ := List.getElem?_eq_some_iff.mp a
  obtain ⟨h2, e2⟩ := List.getElem?_eq_some_iff.mp b
  exact (List.getElem_inj hN).mp (e1.trans e2.symm)
theorem store_ok2 {M : Model} {A : Around} {E : Value → Shared → Prop} {i : Nat} {x : Str} {v : V} {u : Value} {Q : Unit → Shared → Prop} (I : Inv X pins σ H s) (hN : X.N.Nodup) (hi : X.N[i]? = some x) (hx : Loc X.env.scope x) (r : RelV v u)
    (h : ∀ s', Inv X pins (σ.set i (some v)) H s' → (∃ a, Heap.SameBut a s.heap s'.heap ∧ (a = X.env.locals ∨ X.env.cells.lookup x = some a)) → Q () s') (hf : X.fn x = true ∨ X.env.scope.names.lookup x = some .local := by first | exact .inl rfl | exact .inr rfl | assumption) : wpAny M A (storeName X.env x u) Q E s := by
  obtain ⟨m, hn, hl⟩ := id I.loc
  have hcls : (X.env.scope.kind == .class || (X.env.scope.kind == .module && X.env.locals != X.env.globals)) = false := by rw [I.ok.kind]; rfl
  have hiσ : i < σ.length := by rw [I.len]; exact (List.getElem?_eq_some_iff.mp hi).1
  have cne := I.cne
  have tracked : ∀ {a : Addr} {h' : Heap}, (∃ o, s.heap.get? a = some o ∧ H a = none) → Heap.SameBut a s.heap h' → HOk X.prog X.w H h' := fun {a h'} ha hs b ob e => by
    obtain ⟨_, _, hfree⟩ := ha
    refine (I.hok b ob e).stay (fun c w' hc q => (hs.2 c ?_).trans q) (fun _ q => q) fun _ _ q => q
    rintro rfl
    rcases hc with rfl | hc
    · rw [hfree] at e; cases e
    · rw [hfree] at hc; cases hc
  rcases hx with hk | hk
  · refine wpAny_storeName_local hk hn (fun h' hn' hs => ?_) hcls
    obtain ⟨oL, _, _, hoL, _⟩ := id hn
    refine h _ ⟨I.ok, I.os, I.bare, ⟨fun b o e n hb hx => ?_, fun b o e n hb hx => ?_, I.base.free, fun b o e hx => ?_, I.base.tups, I.base.frzs, I.base.tbls⟩, ⟨_, hn', fun j y v' e1 e2 e3 => ?_⟩, fun y c e => ?_, I.free, I.freeC, fun p hp => ?_, tracked ⟨oL, hoL, I.free⟩ hs, by simpa using I.len⟩ ⟨_, hs, .inl rfl⟩
    · exact (hs.2 b (Nat.ne_of_lt (Nat.lt_of_lt_of_le (Heap.lt_size e) I.ok.above))).trans (I.base.keep b o e n hb hx)
    · obtain ⟨sl, e1⟩ := I.base.slot b o e n hb hx
      exact ⟨sl, (hs.2 b (Nat.ne_of_lt (Nat.lt_of_lt_of_le (Heap.lt_size e) I.ok.above))).trans e1⟩
    · obtain ⟨o', e1⟩ := I.base.there b o e hx
      exact ⟨o', (hs.2 b (Nat.ne_of_lt (Nat.lt_of_lt_of_le (Heap.lt_size e) I.ok.above))).trans e1⟩
    · by_cases hj : j = i
      · subst hj
        rw [hi] at e1; cases e1
        rw [List.getElem?_set_self hiσ] at e2
        cases e2
        exact ⟨u, r, .inl ⟨hk, by simp⟩⟩
      · rw [List.getElem?_set_ne (Ne.symm hj)] at e2
        obtain ⟨u', r', q⟩ := hl j y v' e1 e2 e3
        refine ⟨u', r', ?_⟩
        rcases q with ⟨k, e⟩ | ⟨k, c, e, z⟩
        · refine .inl ⟨k, ?_⟩
          have : y ≠ x := fun e => hj (nodup_ix hN e1 (e ▸ hi))
          simp [this, e]
        · exact .inr ⟨k, c, e, z.sameBut hs (cne y c e)⟩
    · obtain ⟨w', z⟩ := I.cell y c e
      exact ⟨w', z.sameBut hs (cne y c e)⟩
    · obtain ⟨e, n, ne, nf, d⟩ := I.pin p hp
      exact ⟨(hs.2 p.1 ne).trans e, n, ne, nf, d⟩
  · have hfn : X.fn x = true := by
      rcases hf with z | z
      · exact z
      · rw [z] at hk; cases hk
    obtain ⟨c, hc⟩ := I.ok.has x (.inl hk)
    obtain ⟨w', z⟩ := I.cell x c hc
    refine wpAny_storeName_cell I.ok.kind hk hc z (fun h' hc' hs => ?_)
    obtain ⟨oc, hoc, hocd⟩ := id z
    refine h { s with heap := h' } ⟨I.ok, I.os, I.bare, ⟨fun b o e n hb hx => ?_, fun b o e n hb hx => ?_, I.base.free, fun b o e hx => ?_, I.base.tups, I.base.frzs, I.base.tbls⟩, ⟨m, hn.sameBut hs (Ne.symm (cne x c hc)), fun j y v' e1 e2 e3 => ?_⟩, fun y c' e => ?_, I.free, I.freeC, fun p hp => ?_, tracked ⟨oc, hoc, I.freeC x c hc⟩ hs, by simpa using I.len⟩ ⟨c, hs, .inr hc⟩
    · exact (hs.2 b (Nat.ne_of_lt (Nat.lt_of_lt_of_le (Heap.lt_size e) (I.ok.cab x c hfn hc)))).trans (I.base.keep b o e n hb hx)
    · obtain ⟨sl, e1⟩ := I.base.slot b o e n hb hx
      exact ⟨sl, (hs.2 b (Nat.ne_of_lt (Nat.lt_of_lt_of_le (Heap.lt_size e) (I.ok.cab x c hfn hc)))).trans e1⟩
    · obtain ⟨o', e1⟩ := I.base.there b o e hx
      exact ⟨o', (hs.2 b (Nat.ne_of_lt (Nat.lt_of_lt_of_le (Heap.lt_size e) (I.ok.cab x c hfn hc)))).trans e1⟩
    · by_cases hj : j = i
      · subst hj
        rw [hi] at e1; cases e1
        rw [List.getElem?_set_self hiσ] at e2
        cases e2
        exact ⟨u, r, .inr ⟨.inl hk, c, hc, hc'⟩⟩
      · rw [List.getElem?_set_ne (Ne.symm hj)] at e2
        obtain ⟨u', r', q⟩ := hl j y v' e1 e2 e3
        refine ⟨u', r', ?_⟩
        rcases q with q | ⟨k, c', e, z'⟩
        · exact .inl q
        · refine .inr ⟨k, c', e, z'.sameBut hs ?_⟩
          rintro rfl
          exact hj (nodup_ix hN e1 (I.ok.inj _ _ _ e hc ▸ hi))
    · by_cases hcc : c' = c
      · subst hcc; exact ⟨_, hc'⟩
      · obtain ⟨w2, z2⟩ := I.cell y c' e
        exact ⟨w2, z2.sameBut hs hcc⟩
    · obtain ⟨e, n, ne, nf, d⟩ := I.pin p hp
      refine ⟨(hs.2 p.1 ?_).trans e, n, ne, nf, d⟩
      intro q
      rw [q, hoc] at e
      have q' : oc = p.2 := Option.some.inj e
      exact d w' (by rw [← q']; exact hocd)
theorem store_ok {M : Model} {A : Around} {E : Value → Shared → Prop} {i : Nat} {x : Str} {v : V} {u : Value} {Q : Unit → Shared → Prop} (I : Inv X pins σ H s) (hN : X.N.Nodup) (hi : X.N[i]? = some x) (hx : Loc X.env.scope x) (r : RelV v u)
    (h : ∀ s', Inv X pins (σ.set i (some v)) H s' → Q () s') (hf : X.fn x = true ∨ X.env.scope.names.lookup x = some .local := by first | exact .inl rfl | exact .inr rfl | assumption) : wpAny M A (storeName X.env x u) Q E s :=
  store_ok2 I hN hi hx r (fun s' I' _ => h s' I') hf
theorem Inv.call' {s' : Shared} {ch : List Addr} (I : Inv X pins σ H s) (ho : s'.os = s.os) (u : Un (frs X.stack) ch H H' s.heap s'.heap) (hok : HOk X.prog X.w H' s'.heap) (hg : AllBare s'.gens)
    (hch : ∀ b ∈ ch, (b ∈ X.ex ∨ X.s₀.heap.objs.size ≤ b) ∧ b ≠ X.env.locals ∧ (∀ x c, X.env.cells.lookup x = some c → c ≠ b) ∧ ∀ p ∈ X.pn ++ pins, p.1 ≠ b) : Inv X pins σ H' s' := by
  obtain ⟨h', g', d', t', o'⟩ := s'
  have e : o' = s.os := ho
  subst e
  exact I.call (g' := g') (t' := t') (d' := d') u hok hg hch
end
abbrev XK := Value → Option Addr → Hp → Prop
abbrev St := List (Option V)
abbrev VK := V → Hp → Prop
abbrev TE := St → Hp → VK → Prop
abbrev TT := St → Hp → (Bool → Hp → Prop) → Prop
abbrev TA := St → Hp → (List V → Hp → Prop) → Prop
structure Ends where
  nx : St → Hp → Prop
  rt : VK
  bk : St → Hp → Prop := fun _ _ => False
  ct : St → Hp → Prop := fun _ _ => False
abbrev TS := Ends → St → Hp → Prop
def EP (X : Cx) (pins : List (Addr × Obj)) (σ : St) (Q : VK) (u : Value) (s' : Shared) : Prop := ∃ v H', Inv X pins σ H' s' ∧ RelV v u ∧ Q v H'
def TP (X : Cx) (pins : List (Addr × Obj)) (σ : St) (Q : Bool → Hp → Prop) (b : Bool) (s' : Shared) : Prop := ∃ H', Inv X pins σ H' s' ∧ Q b H'
def AP (X : Cx) (pins : List (Addr × Obj)) (σ : St) (Q : List V → Hp → Prop) (us : List Value) (s' : Shared) : Prop := ∃ vs H', Inv X pins σ H' s' ∧ Vals vs us ∧ Q vs H'
def SP (X : Cx) (pins : List (Addr × Obj)) (D : Ends) (f : Flow) (s' : Shared) : Prop :=
  match f with
  | .next => ∃ σ' H', Inv X pins σ' H' s' ∧ D.nx σ' H'
  | .brk => ∃ σ' H', Inv X pins σ' H' s' ∧ D.bk σ' H'
  | .cont => ∃ σ' H', Inv X pins σ' H' s' ∧ D.ct σ' H'
  | .ret u => ∃ v σ' H', Inv X pins σ' H' s' ∧ RelV v u ∧ D.rt v H'
def PE (X : Cx) (e : Expr) (t : TE) : Prop :=
  ∀ (pins : List (Addr × Obj)) (s : Shared) (σ : St) (H : Hp) (Q : VK), Inv X pins σ H s → t σ H Q → wpAny (model X.prog X.w) X.A (eval e X.env) (EP X pins σ Q) X.xe s
def PT (X : Cx) (e : Expr) (t : TT) : Prop :=
  ∀ (pins : List (Addr × Obj)) (s : Shared) (σ : St) (H : Hp) (Q : Bool → Hp → Prop), Inv X pins σ H s → t σ H Q → wpAny (model X.prog X.w) X.A (isTrue e X.env (eval e X.env)) (TP X pins σ Q) X.xe s
def PW (X : Cx) (e : Expr) (t : TT) : Prop :=
  ∀ (whole : Sem Value) (pins : List (Addr × Obj)) (s : Shared) (σ : St) (H : Hp) (Q : Bool → Hp → Prop), Inv X pins σ H s → t σ H Q → wpAny (model X.prog X.w) X.A (isTrue e X.env whole) (TP X pins σ Q) X.xe s
theorem PW.pt {X : Cx} {e : Expr} {t : TT} (h : PW X e t) : PT X e t := h _
def PA (X : Cx) (es : List Expr) (t : TA) : Prop :=
  ∀ (pos : Pos) (pins : List (Addr × Obj)) (s : Shared) (σ : St) (H : Hp) (Q : List V → Hp → Prop), Inv X pins σ H s → t σ H Q → wpAny (model X.prog X.w) X.A (spliced (backTo pos (starEach es X.env))) (AP X pins σ Q) X.xe s
def PS (X : Cx) (st : Stmt) (t : TS) : Prop :=
  ∀ (pins : List (Addr × Obj)) (s : Shared) (σ : St) (H : Hp) (D : Ends), Inv X pins σ H s → t D σ H → wpAny (model X.prog X.w) X.A (exec st X.env) (SP X pins D) X.xe s
def PSs (X : Cx) (st : List Stmt) (t : TS) : Prop :=
  ∀ (pins : List (Addr × Obj)) (s : Shared) (σ : St) (H : Hp) (D : Ends), Inv X pins σ H s → t D σ H → wpAny (model X.prog X.w) X.A (execs st X.env) (SP X pins D) X.xe s
theorem thn {α : Type} {t : Sem α} {Q Q' : α → Shared → Prop} {M : Model} {A : Around} {E : Value → Shared → Prop} {s : Shared} (h : wpAny M A t Q E s) (hQ : ∀ a s, Q a s → Q' a s) : wpAny M A t Q' E s := wpAny_mono h hQ fun _ _ x => x
end L2
namespace L2
open PySem PySem.Spec PyProof.Rows
section
variable {X : Cx}
def tVar (i : Nat) : TE := fun σ H Q => ∃ v, σ[i]? = some (some v) ∧ Q v H
def tC (v : V) : TE := fun _ H Q => Q v H
theorem pe_var {i : Nat} {x : Str} {pos : Pos} (hN : X.N[i]? = some x) (hv : Vis X.env.scope x) (hd : (x == ("__debug__" : Str)) = false := by decide) (hcd : (x == ("__classdict__" : Str)) = false := by decide) : PE X (.Name x pos) (tVar i) := by
  intro pins s σ H Q I h
  obtain ⟨v, e, h⟩ := h
  obtain ⟨m, hn, hl⟩ := I.loc
  obtain ⟨u, r, l⟩ := hl i x v hN e hv
  have fin : EP X pins σ Q u s := ⟨v, H, I, r, h⟩
  rcases l with ⟨hk, hm⟩ | ⟨hk, c, hc, hcell⟩
  · exact wpAny_Name (wpAny_loadName_local I.ok.kind hk hn hm fin) hd
  · rcases hk with hk | hk
    · exact wpAny_Name (wpAny_loadName_cell I.ok.kind hk hc hcell fin) hd
    · exact wpAny_Name (wpAny_loadName_free I.ok.kind hk hc hcell fin hcd) hd
theorem pe_int {i j pos} : PE X (.Constant (.int i) j pos) (tC (.int i)) := fun _ _ _ H _ I h => wpAny_Constant_int ⟨.int i, H, I.tok _, ⟨_, rfl⟩, h⟩
theorem pe_bl {b j pos} : PE X (.Constant (.bool b) j pos) (tC (.bl b)) := fun _ _ _ H _ I h => Constant_bool ⟨.bl b, H, I, rfl, h⟩
theorem pe_str {x j pos} : PE X (.Constant (.str x) j pos) (tC (.str x)) := fun _ _ _ H _ I h => Calls.Constant_str ⟨.str x, H, I.tok _, ⟨_, rfl⟩, h⟩
def Gl (X : Cx) (x : Str) : Prop := X.env.kindOf x = some .globalImplicit
theorem ld_glob {E : Value → Shared → Prop} {pins : List (Addr × Obj)} {s : Shared} {σ : St} {H : Hp} {x : Str} {u : Value} {pos : Pos} {Q : Value → Shared → Prop} (I : Inv X pins σ H s) (hg : Gl X x) (hm : X.mg x = some u) (h : Q u s)
    (hd : (x == ("__debug__" : Str)) = false := by decide) : wpAny (model X.prog X.w) X.A (eval (.Name x pos) X.env) Q E s :=
  Calls.Name_function_global I.ok.kind hg (Calls.loadGlobal_global (by rw [I.ok.glob]; exact I.mod.glob.keeps I.bk) hm h) hd
theorem ld_blt {E : Value → Shared → Prop} {pins : List (Addr × Obj)} {s : Shared} {σ : St} {H : Hp} {x : Str} {u : Value} {pos : Pos} {Q : Value → Shared → Prop} (I : Inv X pins σ H s) (hg : Gl X x) (hm : X.mg x = none) (hv : bootBuiltins x = some u) (h : Q u s)
    (hn : x ≠ "__name__" := by decide) (hd : (x == ("__debug__" : Str)) = false := by decide) : wpAny (model X.prog X.w) X.A (eval (.Name x pos) X.env) Q E s := by
  obtain ⟨mb, h1, h2⟩ := I.mod.blt
  exact Calls.Name_function_global I.ok.kind hg (Calls.loadGlobal_builtin (by rw [I.ok.glob]; exact I.mod.glob.keeps I.bk) hm (by rw [I.ok.blt]; exact h1.keeps I.bk) ((h2 x hn).trans hv) h) hd
theorem pe_glob {x : Str} {v : V} {u : Value} {pos : Pos} (hg : Gl X x) (hm : X.mg x = some u) (r : RelV v u) (hd : (x == ("__debug__" : Str)) = false := by decide) : PE X (.Name x pos) (tC v) :=
  fun _ _ _ H _ I h => ld_glob I hg hm ⟨v, H, I, r, h⟩ hd
variable {a b : Expr} {ta tb : TE} {pos : Pos}
def PC (X : Cx) (op : CmpOp) (a b : Expr) (t : TE) : Prop :=
  ∀ (pins : List (Addr × Obj)) (s : Shared) (σ : St) (H : Hp) (Q : VK), Inv X pins σ H s → t σ H Q →
    wpAny (model X.prog X.w) X.A (eval a X.env) (fun v s₁ => wpAny (model X.prog X.w) X.A (eval b X.env) (fun u s₂ => wpAny (model X.prog X.w) X.A (compareOp op v u) (EP X pins σ Q) X.xe s₂) X.xe s₁) X.xe s
def tB (t : TE) : TT := fun σ H Q => t σ H fun x H1 => ∃ c, x = .bl c ∧ Q c H1
theorem pe_cmp {op : CmpOp} {t : TE} (h : PC X op a b t) (h1 : behindInMarks op b = false := by first | exact nobehind _ (by decide) (by decide) | rfl) : PE X (.Compare a [op] [b] pos) t := fun pins s σ H Q I hw => wpAny_Compare1 (h pins s σ H Q I hw) h1
theorem pt_val {e : Expr} {t : TE} (h : PE X e t) (he : ∀ whole, isTrue e X.env whole = (do let v ← whole; standAt e.pos; holding [v] (truthy v)) := by intro _; rfl) : PT X e (tB t) := by
  intro pins s σ H Q I hw
  refine isTrue_plain (thn (h pins s σ H _ I hw) fun v s1 ⟨x, H1, I1, r1, q1⟩ => ?_) (he _)
  obtain ⟨d, rfl, q⟩ := q1
  cases r1
  exact wpAny_truthy_bool ⟨H1, I1, q⟩
variable {tA tB' : TT} {rest : List Expr}
def tAnd (t u : TT) : TT := fun σ H Q => t σ H fun c H1 => if c = true then u σ H1 Q else Q false H1
def tOr (t u : TT) : TT := fun σ H Q => t σ H fun c H1 => if c = true then Q true H1 else u σ H1 Q
def tNot (t : TT) : TT := fun σ H Q => t σ H fun c H1 => Q (!c) H1
theorem pw_and1 (ha : PT X a tA) : PW X (.BoolOp .And [a] pos) tA := by
  intro wh pins s σ H Q I h
  refine isTrue_and (thn (ha pins s σ H Q I h) fun c s1 e => ?_)
  cases c with
  | true => exact isTrue_and_nil e
  | false => exact e
theorem pw_or1 (ha : PT X a tA) : PW X (.BoolOp .Or [a] pos) tA := by
  intro wh pins s σ H Q I h
  refine isTrue_or (thn (ha pins s σ H Q I h) fun c s1 e => ?_)
  cases c with
  | false => exact isTrue_or_nil e
  | true => exact e
theorem pw_and (ha : PT X a tA) (hb : PW X (.BoolOp .And (b :: rest) pos) tB') : PW X (.BoolOp .And (a :: b :: rest) pos) (tAnd tA tB') := by
  intro wh pins s σ H Q I h
  refine isTrue_and (thn (ha pins s σ H _ I h) fun c s1 ⟨H1, I1, q1⟩ => ?_)
  cases c with
  | true => exact hb wh pins s1 σ H1 Q I1 q1
  | false => exact ⟨H1, I1, q1⟩
theorem pw_or (ha : PT X a tA) (hb : PW X (.BoolOp .Or (b :: rest) pos) tB') : PW X (.BoolOp .Or (a :: b :: rest) pos) (tOr tA tB') := by
  intro wh pins s σ H Q I h
  refine isTrue_or (thn (ha pins s σ H _ I h) fun c s1 ⟨H1, I1, q1⟩ => ?_)
  cases c with
  | true => exact ⟨H1, I1, q1⟩
  | false => exact hb wh pins s1 σ H1 Q I1 q1
theorem pt_not (ha : PT X a tA) : PT X (.UnaryOp .Not a pos) (tNot tA) := by
  intro pins s σ H Q I h
  exact isTrue_not (ha pins s σ H (fun c H1 => Q (!c) H1) I h)
def tAndV (ta tb : TE) : TE := fun σ H Q => ta σ H fun x H1 => ∃ c, x = .bl c ∧ if c = true then tb σ H1 Q else Q (.bl false) H1
theorem pe_one {op} {t : TE} (h : PE X a t) : PE X (.BoolOp op [a] pos) t := fun pins s σ H Q I hw => BoolOp_one (h pins s σ H Q I hw)
theorem pe_and (ha : PE X a ta) (hb : PE X (.BoolOp .And (b :: rest) pos) tb) : PE X (.BoolOp .And (a :: b :: rest) pos) (tAndV ta tb) := by
  intro pins s σ H Q I h
  refine BoolOp_and (thn (ha pins s σ H _ I h) fun v s1 ⟨x, H1, I1, r1, q1⟩ => ?_)
  obtain ⟨c, rfl, q1⟩ := q1
  cases r1
  refine wpAny_truthy_bool ?_
  cases c with
  | true => exact hb pins s1 σ H1 Q I1 q1
  | false => exact ⟨.bl false, H1, I1, rfl, q1⟩
end
end L2
namespace L2
open PySem PySem.Spec PyProof.Rows
def SqL (K : PySem.W.Frag) (H : Hp) (a : Addr) (xs : List V) : Prop :=
  Rd H a (.lst xs) ∨
    ∃ (o : Obj) (its : Array Value) (n : Nat), K.lookup a = some o ∧ o.cls = .type "list" ∧ o.dict = none ∧ o.data = .seq its n ∧ its.size ≤ sizeLine ∧ Vals xs its.toList
def SqT (K : PySem.W.Frag) (H : Hp) (a : Addr) (xs : List V) : Prop :=
  Rd H a (.tup xs) ∨
    ∃ (o : Obj) (its : Array Value) (n : Nat), K.lookup a = some o ∧ o.cls = .type "tuple" ∧ o.data = .seq its n ∧ its.size ≤ sizeLine ∧ Vals xs its.toList
def absV : Value → Option V
  | .none => some .non
  | .bool b => some (.bl b)
  | .int i _ => some (.int i)
  | .str x _ => some (.str x)
  | .bytes b _ => some (.byt b)
  | .float b _ => some (.flt b)
  | .ref a => some (.ref a)
  | .type n => some (.ty n)
  | _ => none
theorem RelV.abs {x : V} {u : Value} (r : RelV x u) : absV u = some x := by
  cases x with
  | non => cases r; rfl
  | bl _ => cases r; rfl
  | int _ => obtain ⟨t, rfl⟩ := r; rfl
  | str _ => obtain ⟨t, rfl⟩ := r; rfl
  | byt _ => obtain ⟨t, rfl⟩ := r; rfl
  | flt _ => obtain ⟨t, rfl⟩ := r; rfl
  | ref _ => cases r; rfl
  | ty _ => cases r; rfl
theorem RelV.inj {x y : V} {u : Value} (r : RelV x u) (q : RelV y u) : x = y := Option.some.inj (r.abs.symm.trans q.abs)
theorem Vals.inj : ∀ {xs ys : List V} {us : List Value}, Vals xs us → Vals ys us → xs = ys
  | _, _, _, .nil, .nil => rfl
  | _, _, _, .cons r t, .cons r' t' => by rw [r.inj r', Vals.inj t t']
section
variable {X : Cx} {pins : List (Addr × Obj)} {σ : St} {H : Hp} {s : Shared} {a : Addr} {xs ys : List V}
theorem SqL.of {K : PySem.W.Frag} (h : H a = some (.lst xs)) : SqL K H a xs := .inl (.inl h)
theorem SqT.of {K : PySem.W.Frag} (h : H a = some (.tup xs)) : SqT K H a xs := .inl (.inl h)
theorem Inv.list (I : Inv X pins σ H s) (h : SqL X.K H a xs) : ∃ its : List Value, Vals xs its ∧ PlainL s.heap a its.toArray ∧ xs.length ≤ sizeLine := by
  rcases h with h | ⟨o, its, n, hk, hc, hd, hs, hz, r⟩
  · obtain ⟨z, its, n, r, e⟩ := h.ok I.hok
    exact ⟨its, r, ⟨_, n, e, rfl, rfl, rfl⟩, z⟩
  · refine ⟨its.toList, r, ⟨o, n, I.kIn a o hk, hc, hd, by simpa using hs⟩, ?_⟩
    have e := r.length
    simp only [Array.length_toList] at e
    omega
theorem Inv.tuple (I : Inv X pins σ H s) (h : SqT X.K H a xs) : ∃ its : List Value, Vals xs its ∧ IsTup s.heap a its.toArray ∧ xs.length ≤ sizeLine := by
  rcases h with h | ⟨o, its, n, hk, hc, hs, hz, r⟩
  · obtain ⟨z, its, r, p⟩ := h.ok I.hok
    exact ⟨its, r, p, z⟩
  · refine ⟨its.toList, r, ⟨o, I.kIn a o hk, hc, n, by simpa using hs⟩, ?_⟩
    have e := r.length
    simp only [Array.length_toList] at e
    omega
theorem Inv.list_inj (I : Inv X pins σ H s) (h : SqL X.K H a xs) (h' : SqL X.K H a ys) : xs = ys := by
  obtain ⟨its, r, ⟨o, n, e, _, _, d⟩, _⟩ := I.list h
  obtain ⟨its', r', ⟨o', n', e', _, _, d'⟩, _⟩ := I.list h'
  rw [e] at e'; cases e'
  rw [d] at d'
  injection d' with d1 _
  have : its = its' := by simpa using congrArg Array.toList d1
  subst this
  exact r.inj r'
end
abbrev Cx.wish (X : Cx) (E : Value → Shared → Prop) : Cx := { X with xe := E }
abbrev Cx.nox (X : Cx) : Cx := X.wish fun _ _ => False
theorem Cx.Ok.wish {X : Cx} (ok : X.Ok) (E : Value → Shared → Prop) : (X.wish E).Ok :=
  ⟨ok.mod, ok.kind, ok.glob, ok.blt, ok.above, ok.inj, ok.has, ok.cab, ok.hd, ok.frames, ok.stk, ok.exf, ok.bs, ok.bsz, ok.noex, ok.exfs, ok.funs, ok.frf⟩
theorem Cx.Ok.unwish {X : Cx} {E : Value → Shared → Prop} (ok : (X.wish E).Ok) : X.Ok :=
  ⟨ok.mod, ok.kind, ok.glob, ok.blt, ok.above, ok.inj, ok.has, ok.cab, ok.hd, ok.frames, ok.stk, ok.exf, ok.bs, ok.bsz, ok.noex, ok.exfs, ok.funs, ok.frf⟩
section
variable {X : Cx} {pins : List (Addr × Obj)} {σ : St} {H : Hp} {s : Shared} {E : Value → Shared → Prop}
theorem Inv.wish (I : Inv X pins σ H s) (E : Value → Shared → Prop) : Inv (X.wish E) pins σ H s := ⟨I.ok.wish E, I.os, I.bare, I.base, I.loc, I.cell, I.free, I.freeC, I.pin, I.hok, I.len⟩
theorem Inv.unwish (I : Inv (X.wish E) pins σ H s) : Inv X pins σ H s := ⟨I.ok.unwish, I.os, I.bare, I.base, I.loc, I.cell, I.free, I.freeC, I.pin, I.hok, I.len⟩
theorem SP.unwish {D : Ends} {f : Flow} {s' : Shared} (h : SP (X.wish E) pins D f s') : SP X pins D f s' := by
  cases f with
  | next => obtain ⟨σ', H', I, q⟩ := h; exact ⟨σ', H', I.unwish, q⟩
  | brk => obtain ⟨σ', H', I, q⟩ := h; exact ⟨σ', H', I.unwish, q⟩
  | cont => obtain ⟨σ', H', I, q⟩ := h; exact ⟨σ', H', I.unwish, q⟩
  | ret u => obtain ⟨v, σ', H', I, r, q⟩ := h; exact ⟨v, σ', H', I.unwish, r, q⟩
theorem PSs.nox {st : List Stmt} {t : TS} (h : PSs X.nox st t) : PSs X st t := fun pins s σ H D I hw =>
  wpAny_mono (h pins s σ H D (I.wish _) hw) (fun _ _ q => q.unwish) fun _ _ z => False.elim z
end
section
variable {X : Cx} {st : Stmt} {rest : List Stmt} {t u : TS} {e : Expr} {te : TE} {pos : Pos}
def tNext : TS := fun D σ H => D.nx σ H
def tSeq (t u : TS) : TS := fun D σ H => t { D with nx := u D } σ H
theorem pss_nil : PSs X [] tNext := fun _ _ σ H _ I h => wpAny_execs_nil ⟨σ, H, I, h⟩
theorem pss_cons (h1 : PS X st t) (h2 : PSs X rest u) : PSs X (st :: rest) (tSeq t u) := by
  intro pins s σ H D I h
  refine wpAny_execs_cons (thn (h1 pins s σ H { D with nx := u D } I h) fun f s1 q => ?_)
  cases f with
  | next =>
    obtain ⟨σ', H', I', q⟩ := q
    exact h2 pins s1 σ' H' D I' q
  | ret v => exact q
  | brk => exact q
  | cont => exact q
theorem pss_one (h1 : PS X st t) : PSs X [st] t := by
  intro pins s σ H D I h
  refine wpAny_execs_cons (thn (h1 pins s σ H D I h) fun f s1 q => ?_)
  cases f with
  | next => exact wpAny_execs_nil q
  | ret v => exact q
  | brk => exact q
  | cont => exact q
theorem Inv.quiet {pins : List (Addr × Obj)} {σ : St} {H : Hp} {s : Shared} (I : Inv X pins σ H s) : interactive X.env = false := by simp [interactive, I.ok.kind]
def tDrop (te : TE) : TS := fun D σ H => te σ H fun _ H1 => D.nx σ H1
theorem ps_expr (he : PE X e te) (hs : swapsWith e none pos.line X.env = pure false := by rfl) : PS X (.Expr e pos) (tDrop te) := by
  intro pins s σ H D I h
  exact wpAny_Expr_any (thn (he pins s σ H _ I h) fun v s1 ⟨x, H1, I1, r1, q1⟩ => ⟨σ, H1, I1, q1⟩) I.quiet hs
def tRet (te : TE) : TS := fun D σ H => te σ H D.rt
theorem ps_ret (he : PE X e te) : PS X (.Return (some e) pos) (tRet te) := by
  intro pins s σ H D I h
  exact wpAny_Return_some (thn (he pins s σ H _ I h) fun v s1 ⟨x, H1, I1, r1, q1⟩ => ⟨x, σ, H1, I1, r1, q1⟩)
def tIfS (c : TT) (t u : TS) : TS := fun D σ H => c σ H fun b H1 => if b = true then t D σ H1 else u D σ H1
theorem ps_if {c : Expr} {a b : List Stmt} {tc : TT} (hc : PT X c tc) (ha : PSs X a t) (hb : PSs X b u) : PS X (.If c a b pos) (tIfS tc t u) := by
  intro pins s σ H D I h
  refine wpAny_If (thn (hc pins s σ H _ I h) fun d s1 ⟨H1, I1, q1⟩ => ?_)
  cases d with
  | true => exact ha pins s1 σ H1 D I1 q1
  | false => exact hb pins s1 σ H1 D I1 q1
end
abbrev TG := V → St → Hp → (St → Hp → Prop) → Prop
abbrev TGs := List V → St → Hp → (St → Hp → Prop) → Prop
def PG (X : Cx) (target : Expr) (t : TG) : Prop :=
  ∀ (pins : List (Addr × Obj)) (s : Shared) (σ : St) (H : Hp) (v : V) (u : Value) (Q : St → Hp → Prop), Inv X pins σ H s → RelV v u → t v σ H Q →
    wpAny (model X.prog X.w) X.A (assign target X.env u) (fun _ s' => ∃ σ' H', Inv X pins σ' H' s' ∧ Q σ' H') X.xe s
def PGs (X : Cx) (ts : List Expr) (t : TGs) : Prop :=
  ∀ (pins : List (Addr × Obj)) (s : Shared) (σ : St) (H : Hp) (vs : List V) (us : List Value) (Q : St → Hp → Prop), Inv X pins σ H s → Vals vs us → t vs σ H Q →
    wpAny (model X.prog X.w) X.A (assignInOrder ((assignEach ts X.env).map (·.2)) us) (fun _ s' => ∃ σ' H', Inv X pins σ' H' s' ∧ Q σ' H') X.xe s
abbrev TSet := V → V → V → Hp → (Hp → Prop) → Prop
def PSet (X : Cx) (t : TSet) : Prop :=
  ∀ (pins : List (Addr × Obj)) (s : Shared) (σ : St) (H : Hp) (o i v : V) (ov iv u : Value) (Q : Hp → Prop), Inv X pins σ H s → RelV o ov → RelV i iv → RelV v u → t o i v H Q →
    wpAny (model X.prog X.w) X.A (setItem ov iv u) (fun _ s' => ∃ H', Inv X pins σ H' s' ∧ Q H') X.xe s
section
variable {X : Cx} {pos : Pos}
def gName (i : Nat) : TG := fun v σ H Q => Q (σ.set i (some v)) H
theorem pg_name {i : Nat} {x : Str} (hN : X.N.Nodup) (hi : X.N[i]? = some x) (hx : Loc X.env.scope x) (hf : X.fn x = true ∨ X.env.scope.names.lookup x = some .local := by first | exact .inl rfl | exact .inr rfl | assumption) : PG X (.Name x pos) (gName i) := by
  intro pins s σ H v u Q I r h
  exact wpAny_assign_Name (store_ok I hN hi hx r (fun s' I' => ⟨_, H, I', h⟩) hf)
def gNil : TGs := fun vs σ H Q => vs = [] ∧ Q σ H
def gCons (t : TG) (u : TGs) : TGs := fun vs σ H Q => ∃ v r, vs = v :: r ∧ t v σ H fun σ' H' => u r σ' H' Q
theorem pgs_nil : PGs X [] gNil := by
  intro pins s σ H vs us Q I r h
  obtain ⟨e, h⟩ := h
  subst e
  cases r
  exact assignInOrder_nil ⟨σ, H, I, h⟩
theorem pgs_cons {e : Expr} {es : List Expr} {t : TG} {u : TGs} (h1 : PG X e t) (h2 : PGs X es u)
    (hs : (assignEach (e :: es) X.env).map (·.2) = assign e X.env :: (assignEach es X.env).map (·.2) := by rfl) : PGs X (e :: es) (gCons t u) := by
  intro pins s σ H vs us Q I r h
  obtain ⟨v, vr, e1, h⟩ := h
  subst e1
  cases r with
  | cons r rr =>
    rw [hs]
    refine assignInOrder_cons (thn (h1 pins s σ H _ _ _ I r h) fun _ s1 ⟨σ1, H1, I1, q1⟩ => ?_)
    exact h2 pins s1 σ1 H1 _ _ Q I1 rr q1
def gTup (K : PySem.W.Frag) (n : Nat) (t : TGs) : TG := fun v σ H Q => ∃ a xs, v = .ref a ∧ SqT K H a xs ∧ xs.length = n ∧ t xs σ H Q
theorem pg_tup {es : List Expr} {k : Nat} {t : TGs} {n : Nat} (hc : X.calm = true) (h : PGs X es t)
    (hn : (assignEach es X.env).length = n := by rfl) (hst : (assignEach es X.env).findIdx? (·.1) = none := by rfl) : PG X (.Tuple es k pos) (gTup X.K n t) := by
  intro pins s σ H v u Q I r hw
  obtain ⟨a, xs, e1, hq, hl, hw⟩ := hw
  subst e1
  cases r
  obtain ⟨its, rv, ht, hz⟩ := I.tuple hq
  refine assign_Tuple_tuple (I.ok.hd hc) ht (by simp [hn, ← hl, rv.length]) hst fun h' hx => ?_
  have I1 : Inv X pins σ H { s with heap := h' } := I.kept (t' := s.toks) fun b o e => hx b o (Nat.ne_of_lt (Heap.lt_size e)) e
  exact h pins _ σ H xs _ Q I1 (by simpa using rv) hw
def gSub (to ti : TE) (t : TSet) : TG := fun v σ H Q => to σ H fun o H1 => ti σ H1 fun i H2 => t o i v H2 fun H3 => Q σ H3
theorem pg_sub {o i : Expr} {to ti : TE} {t : TSet} (ho : PE X o to) (hi : PE X i ti) (hs : PSet X t)
    (ha : ∀ v, assign (.Subscript o i pos) X.env v = (do
      let ov ← holding [v] (eval o X.env)
      let iv ← holding [v, ov] (eval i X.env)
      standAt pos
      holding [v, ov, iv] (setItem ov iv v)
      release [v, ov, iv] []) := by intro _; rfl) : PG X (.Subscript o i pos) (gSub to ti t) := by
  intro pins s σ H v u Q I r h
  rw [ha]
  refine wpAny_bind (wpAny_holding (thn (ho pins s σ H _ I h) fun ov s1 ⟨x, H1, I1, r1, q1⟩ => ?_))
  refine wpAny_bind (wpAny_holding (thn (hi pins s1 σ H1 _ I1 q1) fun iv s2 ⟨y, H2, I2, r2, q2⟩ => ?_))
  refine wpAny_bind (wpAny_standAt (wpAny_bind (wpAny_holding (thn (hs pins s2 σ H2 x y v ov iv u _ I2 r1 r2 r q2) fun _ s3 ⟨H3, I3, q3⟩ => ?_))))
  exact wpAny_release ⟨σ, H3, I3, q3⟩
def tAsg (te : TE) (g : TG) : TS := fun D σ H => te σ H fun x H1 => g x σ H1 D.nx
theorem ps_asg {tg e : Expr} {te : TE} {g : TG} (he : PE X e te) (hg : PG X tg g) (hs : swapsWithSole [tg] e pos.line X.env = pure false := by rfl) (hw : swappedStores [tg] e X.env = pure none := by rfl)
    (h1 : (assignEach [tg] X.env).map (·.2) = [assign tg X.env] := by rfl) : PS X (.Assign [tg] e pos) (tAsg te g) := by
  intro pins s σ H D I h
  refine wpAny_Assign_stores (thn (he pins s σ H _ I h) fun v s1 ⟨x, H1, I1, r1, q1⟩ => ?_) hs hw
  rw [h1]
  exact thn (hg pins s1 σ H1 x v _ I1 r1 q1) fun _ s2 q => q
theorem ps_set {i : Nat} {x : Str} {e : Expr} {te : TE} {pos' : Pos} (hN : X.N.Nodup) (hi : X.N[i]? = some x) (hx : Loc X.env.scope x) (he : PE X e te) (hs : swapsWith e (some (.Name x pos')) pos.line X.env = pure false := by rfl) (hf : X.fn x = true ∨ X.env.scope.names.lookup x = some .local := by first | exact .inl rfl | exact .inr rfl | assumption) :
    PS X (.Assign [.Name x pos'] e pos) (tAsg te (gName i)) := by
  intro pins s σ H D I h
  refine wpAny_Assign_Name (thn (he pins s σ H _ I h) fun v s1 ⟨y, H1, I1, r1, q1⟩ => ?_) hs
  exact store_ok I1 hN hi hx r1 (fun s2 I2 => ⟨_, H1, I2, q1⟩) hf
end
section
variable {X : Cx} {pos : Pos}
def tWhile (c : TT) (tb : TS) : TS := fun D σ H => ∃ W : Nat → St → Hp → Prop, (∃ m, W m σ H) ∧ ∀ m σ H, W m σ H →
  c σ H fun b H1 => if b = true then ∃ N : St → Hp → Prop, (∀ σ' H', N σ' H' → ∃ m', m' < m ∧ W m' σ' H') ∧ tb { D with nx := N, ct := N, bk := D.nx } σ H1 else D.nx σ H1
theorem ps_while {c : Expr} {body : List Stmt} {tc : TT} {tb : TS} (hp : PassesOwn (model X.prog X.w) X.A X.env X.xe) (hc : PT X c tc) (hb : PSs X body tb) : PS X (.While c body [] pos) (tWhile tc tb) := by
  intro pins s σ H D I h
  obtain ⟨W, ⟨m0, w0⟩, turn⟩ := h
  refine wpAny_While (codeAny_whileLoop (fun n s' => ∃ σ' H', Inv X pins σ' H' s' ∧ W n σ' H') ?_ m0 ⟨σ, H, I, w0⟩)
  rintro n s1 ⟨σ1, H1, I1, w1⟩
  refine wpAny_passesOwn hp (thn (hc pins s1 σ1 H1 _ I1 (turn n σ1 H1 w1)) fun b s2 ⟨H2, I2, q2⟩ => ?_)
  cases b with
  | true =>
    obtain ⟨N, hN, q2⟩ := q2
    rw [if_pos rfl]
    refine wpAny_passesOwn hp (thn (hb pins s2 σ1 H2 _ I2 q2) fun f s3 q3 => ?_)
    cases f with
    | next =>
      obtain ⟨σ3, H3, I3, n3⟩ := q3
      obtain ⟨m', hm, w3⟩ := hN σ3 H3 n3
      exact ⟨m', hm, σ3, H3, I3, w3⟩
    | cont =>
      obtain ⟨σ3, H3, I3, n3⟩ := q3
      obtain ⟨m', hm, w3⟩ := hN σ3 H3 n3
      exact ⟨m', hm, σ3, H3, I3, w3⟩
    | brk => exact q3
    | ret v => exact q3
  | false =>
    rw [if_neg Bool.false_ne_true]
    exact wpAny_execs_nil ⟨σ1, H2, I2, q2⟩
end
structure It where
  go : Nat → Hp → Prop
  yld : Nat → Hp → V → Hp → Prop
  stop : Nat → Hp → Prop
def FpOk (X : Cx) (pins : List (Addr × Obj)) (H : Hp) (b : Addr) : Prop :=
  H b = none ∧ b ≠ X.env.locals ∧ b ∉ X.fs ∧ (b ∈ X.ex ∨ X.s₀.heap.objs.size ≤ b) ∧ (∀ x c, X.env.cells.lookup x = some c → c ≠ b) ∧ ∀ p ∈ X.pn ++ pins, p.1 ≠ b
theorem Inv.fpOk {X : Cx} {pins : List (Addr × Obj)} {σ : St} {H H' : Hp} {s : Shared} {b : Addr} (I : Inv X pins σ H s) (hb : s.heap.objs.size ≤ b) (hn : H' b = none) : FpOk X pins H' b := by
  refine ⟨hn, Nat.ne_of_gt (Nat.lt_of_lt_of_le I.lt hb), I.nofs hb, .inr (Nat.le_trans I.sz hb), fun x c e z => ?_, fun p hp z => ?_⟩
  · obtain ⟨v, q⟩ := I.cell x c e
    exact absurd (Nat.lt_of_lt_of_le q.lt (by rw [z]; exact hb)) (Nat.lt_irrefl _)
  · exact absurd (Nat.lt_of_lt_of_le (Heap.lt_size (I.pin p hp).1) (by rw [z]; exact hb)) (Nat.lt_irrefl _)
structure Turn (P : Program) (w : World) (K : PySem.W.Frag) (tg : Expr) (J : It) (fp : List Addr) (it : Addr) (tn : Nat → Heap → Prop) : Prop where
  mem : it ∈ fp
  obj : ∀ i h, tn i h → ∀ b ∈ fp, ∃ o, h.get? b = some o ∧ ∀ v, o.data ≠ .cell v
  keep : ∀ i h h', tn i h → (∀ b ∈ fp, ∀ o, h.get? b = some o → h'.get? b = some o) → tn i h'
  item : ∀ (X : Cx), X.prog = P → X.w = w → X.K = K → X.calm = true → ∀ (i : Nat) (pins : List (Addr × Obj)) (s : Shared) (σ : St) (H : Hp) (E : Value → Shared → Prop), Inv X pins σ H s → (∀ b ∈ fp, FpOk X pins H b) → tn i s.heap → J.go i H →
    wpAny (model P w) X.A (pyNext (.ref it)) (fun r s1 => ∃ u, r = some u ∧
      wpAny (model P w) X.A (letOwnedTupleGo tg (.ref it) u) (fun _ s2 => ∃ x H', Inv X pins σ H' s2 ∧ RelV x u ∧ J.yld i H x H' ∧ tn (i + 1) s2.heap ∧ ∀ b ∈ fp, H' b = none) E s1) E s
  done : ∀ (X : Cx), X.prog = P → X.w = w → X.K = K → X.calm = true → ∀ (i : Nat) (pins : List (Addr × Obj)) (s : Shared) (σ : St) (H : Hp) (E : Value → Shared → Prop), Inv X pins σ H s → (∀ b ∈ fp, FpOk X pins H b) → tn i s.heap → J.stop i H →
    wpAny (model P w) X.A (pyNext (.ref it)) (fun r s1 => r = none ∧ Inv X pins σ H s1) E s
  self : ∀ (A : Around) (i : Nat) (s : Shared) (Q : Value → Shared → Prop) (E : Value → Shared → Prop), tn i s.heap → Q (.ref it) s → wpAny (model P w) A (pyIter (.ref it)) Q E s
abbrev TI := St → Hp → (It → Hp → Prop) → Prop
def PIE (X : Cx) (pins : List (Addr × Obj)) (σ : St) (tg : Expr) (R : It → Hp → Prop) (itv : Value) (s2 : Shared) : Prop :=
  ∃ (it : Addr) (fp : List Addr) (tn : Nat → Heap → Prop) (J : It) (H' : Hp), itv = .ref it ∧ Inv X pins σ H' s2 ∧ Turn X.prog X.w X.K tg J fp it tn ∧ tn 0 s2.heap ∧ (∀ b ∈ fp, FpOk X pins H' b) ∧ R J H'
def PI (X : Cx) (tg iter : Expr) (wi : TI) : Prop :=
  ∀ (pins : List (Addr × Obj)) (s : Shared) (σ : St) (H : Hp) (R : It → Hp → Prop), Inv X pins σ H s → wi σ H R →
    wpAny (model X.prog X.w) X.A (eval iter X.env) (fun v s1 => wpAny (model X.prog X.w) X.A (pyIter v) (PIE X pins σ tg R) X.xe s1) X.xe s
theorem go_of {M : Model} {A : Around} {E : Value → Shared → Prop} {s : Shared} {tg : Expr} {it : Addr} {u : Value} {o : Obj} {n : String} {vs : Array Value} {Q : Unit → Shared → Prop} (ho : s.heap.get? it = some o) (hc : o.cls = .type n) (hd : o.data = .fields vs)
    (hn : ["enumerate", "zip", "dict_itemiterator", "dict_reverseitemiterator", "odict_iterator", "itertools.zip_longest", "itertools.pairwise"].contains n = false) (hQ : Q () s) : wpAny M A (letOwnedTupleGo tg (.ref it) u) Q E s := by
  unfold letOwnedTupleGo
  cases tg <;> first
    | exact wpAny_pure hQ
    | (cases u <;> first
        | exact wpAny_pure hQ
        | (refine wpAny_bind (wpAny_load ho ?_)
           rw [hc, hd]
           show wpAny M A (if (["enumerate", "zip", "dict_itemiterator", "dict_reverseitemiterator", "odict_iterator", "itertools.zip_longest", "itertools.pairwise"].contains n && vs[0]? == some (rawInt _)) = true then _ else _) Q E s
           rw [if_neg (by intro h; rw [hn, Bool.false_and] at h; cases h)]
           exact wpAny_pure hQ))
def Itl (K : PySem.W.Frag) (a : Addr) : It :=
  ⟨fun i H => ∃ xs x, SqL K H a xs ∧ xs[i]? = some x, fun i H x H' => H' = H ∧ ∀ xs, SqL K H a xs → xs[i]? = some x, fun i H => ∃ xs, SqL K H a xs ∧ xs.length ≤ i⟩
def Itr (lo : Int) (n : Nat) : It := ⟨fun i _ => i < n, fun i H x H' => H' = H ∧ x = .int (lo + i), fun i _ => n ≤ i⟩
theorem turn_list {P : Program} {w : World} {K : PySem.W.Frag} {tg : Expr} (a it : Addr) : Turn P w K tg (Itl K a) [it] it (fun i h => h.IsListIter it a i) where
  mem := by simp
  obj := fun i h st b hb => by
    have e : b = it := by simpa using hb
    subst e
    obtain ⟨o, e, c, d⟩ := st
    exact ⟨o, e, fun v z => by rw [d] at z; cases z⟩
  keep := fun i h h' st k => st.at fun o e => k it (by simp) o e
  item := by
    intro X hP hw hK hc i pins s σ H E I hf st hg
    subst hP hw hK
    obtain ⟨xs, x, hq, hx⟩ := hg
    obtain ⟨its, rv, p, hz⟩ := I.list hq
    obtain ⟨u, hu, ru⟩ := rv.get hx
    obtain ⟨f0, f1, f2, f3, f4, f5⟩ := hf it (by simp)
    refine wpAny_pyNext_list_item st p.isList (x := u) (by simpa using hu) fun h' st' sb => ?_
    have I1 : Inv X pins σ H { s with heap := h' } := I.turned (t' := s.toks) (fun b o hb e => (sb.2 b hb).trans e) f0 f1 f3 f4 f5
    obtain ⟨o, e, c, d⟩ := id st'
    exact ⟨u, rfl, go_of (s := { s with heap := h' }) e c d (by decide) ⟨x, H, I1, ru, ⟨rfl, fun ys hy => by rw [I.list_inj hy hq]; exact hx⟩, st', fun b hb => (hf b hb).1⟩⟩
  done := by
    intro X hP hw hK hc i pins s σ H E I hf st hg
    subst hP hw hK
    obtain ⟨xs, hq, hx⟩ := hg
    obtain ⟨its, rv, p, hz⟩ := I.list hq
    obtain ⟨f0, f1, f2, f3, f4, f5⟩ := hf it (by simp)
    have hl := rv.length
    exact wpAny_pyNext_list_end (I.ok.hd hc) st p.isList (by simp; omega) fun h' eb => ⟨rfl, I.turned (t' := s.toks) (fun b o hb e => eb b o hb e) f0 f1 f3 f4 f5⟩
  self := fun _ _ _ _ _ st h => wpAny_pyIter_listiter st h
theorem turn_range {P : Program} {w : World} {K : PySem.W.Frag} {tg : Expr} (it : Addr) (lo : Int) (n : Nat) : Turn P w K tg (Itr lo n) [it] it (fun i h => IsRangeIter h it (lo + (i : Nat) * 1) ((n : Int) - (i : Nat)) 1) where
  mem := by simp
  obj := fun i h st b hb => by
    have e : b = it := by simpa using hb
    subst e
    exact ⟨_, st, fun v z => by
      have z' : Data.fields _ = Data.cell v := z
      cases z'⟩
  keep := fun i h h' st k => k it (by simp) _ st
  item := by
    intro X hP hw hK hc i pins s σ H E I hf st hg
    subst hP hw hK
    obtain ⟨f0, f1, f2, f3, f4, f5⟩ := hf it (by simp)
    have W := Walks.range (prog := X.prog) (w := X.w) (I.ok.hd hc) it lo 1 n
    refine W.item i s _ _ hg st fun v h' tk hv st' kk => ?_
    obtain ⟨t, rfl⟩ := hv
    have I1 : Inv X pins σ H { s with heap := h', toks := tk } := I.turned (fun b o hb e => kk b o (by simpa using hb) e) f0 f1 f3 f4 f5
    refine ⟨_, rfl, go_of (s := { s with heap := h', toks := tk }) (n := "range_iterator") st' rfl rfl (by decide) ⟨.int (lo + i), H, I1, ⟨t, ?_⟩, ⟨rfl, rfl⟩, st', fun b hb => (hf b hb).1⟩⟩
    rw [Int.mul_one]
  done := by
    intro X hP hw hK hc i pins s σ H E I hf st hg
    subst hP hw hK
    obtain ⟨f0, f1, f2, f3, f4, f5⟩ := hf it (by simp)
    exact wpAny_pyNext_range_end (I.ok.hd hc) st (by have : n ≤ i := hg; omega) fun h' eb => ⟨rfl, I.turned (t' := s.toks) (fun b o hb e => eb b o hb e) f0 f1 f3 f4 f5⟩
  self := fun _ _ _ _ _ st h => wpAny_pyIter_rangeiter st h
end L2
namespace L2
open PySem PySem.Spec PyProof.Rows
section
variable {X : Cx} {tg : Expr}
def iList (K : PySem.W.Frag) (tl : TE) : TI := fun σ H R => tl σ H fun x H1 => ∃ a, x = .ref a ∧ (∃ xs, SqL K H1 a xs) ∧ R (Itl K a) H1
theorem pi_list {l : Expr} {tl : TE} (hl : PE X l tl) : PI X tg l (iList X.K tl) := by
  intro pins s σ H R I h
  refine thn (hl pins s σ H _ I h) fun v s1 ⟨x, H1, I1, r1, q1⟩ => ?_
  obtain ⟨a, e, ⟨xs, hq⟩, q⟩ := q1
  subst e
  cases r1
  obtain ⟨its, rv, p, hz⟩ := I1.list hq
  refine wpAny_pyIter_list p.isList ?_
  refine ⟨s1.heap.objs.size, [s1.heap.objs.size], _, _, H1, rfl, I1.kept (t' := s1.toks) fun b o e => Heap.get?_push_of_some _ e, turn_list a _, ⟨_, Heap.get?_push_size _ rfl, rfl, rfl⟩, fun b hb => ?_, q⟩
  have e : b = s1.heap.objs.size := by simpa using hb
  subst e
  exact I1.fpOk (Nat.le_refl _) (I1.hok.fresh (Nat.le_refl _))
theorem range_it {pins : List (Addr × Obj)} {σ : St} {H : Hp} {s : Shared} {R : It → Hp → Prop} {E : Value → Shared → Prop} {lo hi : Int} {t u v : Tok} {tk : Nat} (I : Inv X pins σ H s) (h1 : -(2 ^ 62) ≤ lo) (h2 : lo < 2 ^ 62) (h3 : -(2 ^ 62) ≤ hi) (h4 : hi < 2 ^ 62)
    (q : R (Itr lo (hi - lo).toNat) H) : wpAny (model X.prog X.w) X.A (pyIter (.ref s.heap.objs.size)) (PIE X pins σ tg R) E { s with heap := s.heap.push { cls := .type "range", data := .fields #[.int lo t, .int hi u, .int 1 v] }, toks := tk } := by
  refine wpAny_pyIter_range (IsRange.new ..) (small_one h1 h2 h3 h4) ?_
  have I1 : Inv X pins σ H { s with heap := s.heap.push { cls := .type "range", data := .fields #[.int lo t, .int hi u, .int 1 v] }, toks := tk } := I.kept fun b o e => Heap.get?_push_of_some _ e
  refine ⟨(s.heap.push { cls := .type "range", data := .fields #[.int lo t, .int hi u, .int 1 v] }).objs.size, [(s.heap.push { cls := .type "range", data := .fields #[.int lo t, .int hi u, .int 1 v] }).objs.size], _, _, H, rfl,
    I1.kept (t' := tk) fun b o e => Heap.get?_push_of_some _ e, turn_range _ lo (hi - lo).toNat, ?_, fun b hb => ?_, q⟩
  · have e1 : lo + ((0 : Nat) : Int) * 1 = lo := by simp
    have e2 : (((hi - lo).toNat : Nat) : Int) - ((0 : Nat) : Int) = Builtin.Range.rangeSize lo hi 1 := by rw [rangeSize_one]; split <;> omega
    show IsRangeIter _ _ (lo + ((0 : Nat) : Int) * 1) ((((hi - lo).toNat : Nat) : Int) - ((0 : Nat) : Int)) 1
    rw [e1, e2]
    exact Heap.get?_push_size _ rfl
  · have e : b = (s.heap.push { cls := .type "range", data := .fields #[.int lo t, .int hi u, .int 1 v] }).objs.size := by simpa using hb
    subst e
    exact I1.fpOk (Nat.le_refl _) (I1.hok.fresh (Nat.le_refl _))
def iRng1 (ta : TA) : TI := fun σ H R => ta σ H fun vs H1 => ∃ j : Int, vs = [.int j] ∧ -(2 ^ 62) ≤ j ∧ j < 2 ^ 62 ∧ R (Itr 0 j.toNat) H1
def iRng2 (ta : TA) : TI := fun σ H R => ta σ H fun vs H1 => ∃ i j : Int, vs = [.int i, .int j] ∧ (-(2 ^ 62) ≤ i ∧ i < 2 ^ 62 ∧ -(2 ^ 62) ≤ j ∧ j < 2 ^ 62) ∧ R (Itr i (j - i).toNat) H1
theorem pi_range1 {a : Expr} {ta : TA} {p pos : Pos} (hg : Gl X "range") (hm : X.mg "range" = none) (ha : PA X [a] ta) (hs : starEach [a] X.env = [(false, eval a X.env)] := by rfl) : PI X tg (.Call (.Name "range" p) [a] [] pos) (iRng1 ta) := by
  intro pins s σ H R I h
  refine Call_ (ld_blt I hg hm boot_range (PyProof.Rows.callWith_type1 (thn (ha pos pins s σ H _ I h) fun us s1 ⟨vs, H1, I1, r1, q1⟩ => ?_) hs rfl))
  obtain ⟨j, e, q1, q2, q⟩ := q1
  subst e
  cases r1 with
  | cons r rr =>
    cases rr
    obtain ⟨t, rfl⟩ := r
    exact call_range_1 (range_it I1 (by omega) (by omega) q1 q2 (by simpa using q))
theorem pi_range2 {a b : Expr} {ta : TA} {p pos : Pos} (hg : Gl X "range") (hm : X.mg "range" = none) (ha : PA X [a, b] ta) (hs : starEach [a, b] X.env = [(false, eval a X.env), (false, eval b X.env)] := by rfl) (hs2 : starEach [b] X.env = [(false, eval b X.env)] := by rfl) :
    PI X tg (.Call (.Name "range" p) [a, b] [] pos) (iRng2 ta) := by
  intro pins s σ H R I h
  refine Call_ (ld_blt I hg hm boot_range (PyProof.Rows.callWith_type1 (thn (ha pos pins s σ H _ I h) fun us s1 ⟨vs, H1, I1, r1, q1⟩ => ?_) (by rw [hs, hs2]) (by rw [hs2]; rfl)))
  obtain ⟨i, j, e, ⟨q1, q2, q3, q4⟩, q⟩ := q1
  subst e
  cases r1 with
  | cons r rr =>
    cases rr with
    | cons r' rr =>
      cases rr
      obtain ⟨t, rfl⟩ := r
      obtain ⟨t', rfl⟩ := r'
      exact call_range_2 (range_it I1 q1 q2 q3 q4 q)
def tFor (wi : TI) (g : TG) (tb : TS) : TS := fun D σ H => wi σ H fun J H1 => ∃ W : Nat → Nat → St → Hp → Prop, (∃ m, W 0 m σ H1) ∧ ∀ i m σ H, W i m σ H →
  (J.stop i H ∧ D.nx σ H) ∨ (J.go i H ∧ ∃ N : St → Hp → Prop, (∀ σ' H', N σ' H' → ∃ m', m' < m ∧ W (i + 1) m' σ' H') ∧ ∀ x H', J.yld i H x H' → g x σ H' fun σ2 H2 => tb { D with nx := N, ct := N, bk := D.nx } σ2 H2)
def pinsAt (fp : List Addr) (h : Heap) : List (Addr × Obj) := fp.filterMap fun b => (h.get? b).map fun o => (b, o)
theorem mem_pinsAt {fp : List Addr} {h : Heap} {b : Addr} {o : Obj} (hb : b ∈ fp) (e : h.get? b = some o) : (b, o) ∈ pinsAt fp h := List.mem_filterMap.mpr ⟨b, hb, by rw [e]; rfl⟩
theorem of_pinsAt {fp : List Addr} {h : Heap} {p : Addr × Obj} (hp : p ∈ pinsAt fp h) : p.1 ∈ fp ∧ h.get? p.1 = some p.2 := by
  obtain ⟨b, hb, e⟩ := List.mem_filterMap.mp hp
  cases q : h.get? b with
  | none => rw [q] at e; cases e
  | some o =>
    rw [q] at e
    have e' : (b, o) = p := Option.some.inj e
    subst e'
    exact ⟨hb, q⟩
theorem Inv.pinned {pins : List (Addr × Obj)} {σ : St} {H : Hp} {s : Shared} {fp : List Addr} (I : Inv X pins σ H s) (hf : ∀ b ∈ fp, FpOk X pins H b) (ho : ∀ b ∈ fp, ∃ o, s.heap.get? b = some o ∧ ∀ v, o.data ≠ .cell v) : Inv X (pins ++ pinsAt fp s.heap) σ H s :=
  I.pins_of fun p hp => (List.mem_append.mp hp).elim (fun z => I.pin p (List.mem_append_right _ z)) fun z => by
    obtain ⟨hb, e⟩ := of_pinsAt z
    obtain ⟨f0, f1, f2, _⟩ := hf p.1 hb
    obtain ⟨o, e', d⟩ := ho p.1 hb
    rw [e] at e'; cases e'
    exact ⟨e, f0, f1, f2, d⟩
theorem Inv.unpinned {pins pl : List (Addr × Obj)} {σ : St} {H : Hp} {s : Shared} (I : Inv X (pins ++ pl) σ H s) : Inv X pins σ H s := I.pins_of fun p hp => I.pin p (List.mem_append_right _ (List.mem_append_left _ hp))
theorem ps_for {iter : Expr} {body : List Stmt} {wi : TI} {g : TG} {tb : TS} {pos : Pos} (hp : PassesOwn (model X.prog X.w) X.A X.env X.xe) (hc : X.calm = true) (hi : PI X tg iter wi) (hg : PG X tg g) (hb : PSs X body tb)
    (hs : ∀ x, foldedSetIterable iter X.env x = pure x := by intro _; rfl) : PS X (.For tg iter body [] pos) (tFor wi g tb) := by
  intro pins s σ H D I h
  refine wpAny_For (thn (hi pins s σ H _ I h) fun v s1 h1 => thn h1 fun itv s2 h2 => ?_) hs
  obtain ⟨it, fp, tn, J, H2, e, I2, T, st2, f2, W, ⟨m0, w0⟩, turn⟩ := h2
  subst e
  -- what stays true of the iterator's objects through the loop
  have stat : ∀ {H' : Hp}, (∀ b ∈ fp, H' b = none) → ∀ b ∈ fp, FpOk X pins H' b := fun hn b hb => ⟨hn b hb, (f2 b hb).2⟩
  refine codeAny_forLoop_any (fun n s' => ∃ i σ' H', Inv X pins σ' H' s' ∧ tn i s'.heap ∧ (∀ b ∈ fp, H' b = none) ∧ W i n σ' H') ?_ m0 ⟨0, σ, H2, I2, st2, fun b hb => (f2 b hb).1, w0⟩
  rintro n s3 ⟨i, σ3, H3, I3, st3, fr3, w3⟩
  rcases turn i n σ3 H3 w3 with ⟨stop, qn⟩ | ⟨go, N, hN, step⟩
  · refine wpAny_passesOwn hp (thn (T.done X rfl rfl rfl hc i pins s3 σ3 H3 X.xe I3 (stat fr3) st3 stop) fun r s4 ⟨hr, I4⟩ => ?_)
    subst hr
    exact wpAny_execs_nil ⟨σ3, H3, I4, qn⟩
  · refine wpAny_passesOwn hp (thn (T.item X rfl rfl rfl hc i pins s3 σ3 H3 X.xe I3 (stat fr3) st3 go) fun r s4 ⟨u, hr, h4⟩ => ?_)
    subst hr
    refine wpAny_passesOwn hp (thn h4 fun _ s5 ⟨x, H5, I5, r5, y5, st5, fr5⟩ => ?_)
    have I5' := I5.pinned (stat fr5) (T.obj _ _ st5)
    refine wpAny_passesOwn hp (thn (hg _ s5 σ3 H5 x u _ I5' r5 (step x H5 y5)) fun _ s6 ⟨σ6, H6, I6, q6⟩ => ?_)
    refine wpAny_passesOwn hp (thn (hb _ s6 σ6 H6 _ I6 q6) fun f s7 q7 => ?_)
    have again : ∀ {σ7 : St} {H7 : Hp}, Inv X (pins ++ pinsAt fp s5.heap) σ7 H7 s7 → N σ7 H7 → ∃ m, m < n ∧ ∃ i σ' H', Inv X pins σ' H' s7 ∧ tn i s7.heap ∧ (∀ b ∈ fp, H' b = none) ∧ W i m σ' H' := fun {σ7 H7} I7 n7 => by
      obtain ⟨m', hm, w7⟩ := hN σ7 H7 n7
      refine ⟨m', hm, i + 1, σ7, H7, I7.unpinned, T.keep _ _ _ st5 fun b hb o e => (I7.pin (b, o) (List.mem_append_right _ (List.mem_append_right _ (mem_pinsAt hb e)))).1, fun b hb => ?_, w7⟩
      obtain ⟨o, e, d⟩ := T.obj _ _ st5 b hb
      exact (I7.pin (b, o) (List.mem_append_right _ (List.mem_append_right _ (mem_pinsAt hb e)))).2.1
    cases f with
    | next => obtain ⟨σ7, H7, I7, n7⟩ := q7; exact again I7 n7
    | cont => obtain ⟨σ7, H7, I7, n7⟩ := q7; exact again I7 n7
    | brk => obtain ⟨σ7, H7, I7, q7⟩ := q7; exact ⟨σ7, H7, I7.unpinned, q7⟩
    | ret v => obtain ⟨x7, σ7, H7, I7, r7, q7⟩ := q7; exact ⟨x7, σ7, H7, I7.unpinned, r7, q7⟩
end
theorem for_list {K : PySem.W.Frag} {a : Addr} {xs : List V} {g : TG} {tb : TS} {D : Ends} {σ : St} {H : Hp} (Pv : Nat → St → Hp → Prop) (h0 : Pv 0 σ H) (hl : ∀ i σ H, i ≤ xs.length → Pv i σ H → SqL K H a xs)
    (hs : ∀ i x σ H, xs[i]? = some x → Pv i σ H → g x σ H fun σ2 H2 => tb { D with nx := Pv (i + 1), ct := Pv (i + 1), bk := D.nx } σ2 H2) (hd : ∀ σ H, Pv xs.length σ H → D.nx σ H) :
    ∃ W : Nat → Nat → St → Hp → Prop, (∃ m, W 0 m σ H) ∧ ∀ i m σ H, W i m σ H →
      ((Itl K a).stop i H ∧ D.nx σ H) ∨ ((Itl K a).go i H ∧ ∃ N : St → Hp → Prop, (∀ σ' H', N σ' H' → ∃ m', m' < m ∧ W (i + 1) m' σ' H') ∧ ∀ x H', (Itl K a).yld i H x H' → g x σ H' fun σ2 H2 => tb { D with nx := N, ct := N, bk := D.nx } σ2 H2) := by
  refine ⟨fun i m σ H => m = xs.length - i ∧ i ≤ xs.length ∧ Pv i σ H, ⟨xs.length, by simp, Nat.zero_le _, h0⟩, ?_⟩
  rintro i m σ H ⟨rfl, hi, p⟩
  have q := hl i σ H hi p
  by_cases hlt : i < xs.length
  · refine .inr ⟨⟨xs, xs[i], q, by simp [hlt]⟩, Pv (i + 1), fun σ' H' p' => ⟨xs.length - (i + 1), by omega, rfl, hlt, p'⟩, fun x H' y => ?_⟩
    obtain ⟨e, y⟩ := y
    subst e
    exact hs i x σ _ (y xs q) p
  · have e : i = xs.length := by omega
    subst e
    exact .inl ⟨⟨xs, q, Nat.le_refl _⟩, hd σ H p⟩
theorem for_range {lo : Int} {n : Nat} {g : TG} {tb : TS} {D : Ends} {σ : St} {H : Hp} (Pv : Nat → St → Hp → Prop) (h0 : Pv 0 σ H)
    (hs : ∀ i σ H, i < n → Pv i σ H → g (.int (lo + i)) σ H fun σ2 H2 => tb { D with nx := Pv (i + 1), ct := Pv (i + 1), bk := D.nx } σ2 H2) (hd : ∀ σ H, Pv n σ H → D.nx σ H) :
    ∃ W : Nat → Nat → St → Hp → Prop, (∃ m, W 0 m σ H) ∧ ∀ i m σ H, W i m σ H →
      ((Itr lo n).stop i H ∧ D.nx σ H) ∨ ((Itr lo n).go i H ∧ ∃ N : St → Hp → Prop, (∀ σ' H', N σ' H' → ∃ m', m' < m ∧ W (i + 1) m' σ' H') ∧ ∀ x H', (Itr lo n).yld i H x H' → g x σ H' fun σ2 H2 => tb { D with nx := N, ct := N, bk := D.nx } σ2 H2) := by
  refine ⟨fun i m σ H => m = n - i ∧ i ≤ n ∧ Pv i σ H, ⟨n, by simp, Nat.zero_le _, h0⟩, ?_⟩
  rintro i m σ H ⟨rfl, hi, p⟩
  by_cases hlt : i < n
  · refine .inr ⟨hlt, Pv (i + 1), fun σ' H' p' => ⟨n - (i + 1), by omega, rfl, hlt, p'⟩, fun x H' y => ?_⟩
    obtain ⟨e, y⟩ := y
    subst e y
    exact hs i σ _ hlt p
  · have e : i = n := by omega
    subst e
    exact .inl ⟨Nat.le_refl _, hd σ H p⟩
end L2
namespace L2
open PySem PySem.Spec PyProof.Rows
abbrev R2 := V → V → Hp → VK → Prop
def OpR (X : Cx) (f : Value → Value → Sem Value) (r : R2) : Prop :=
  ∀ (pins : List (Addr × Obj)) (s : Shared) (σ : St) (H : Hp) (x y : V) (v u : Value) (Q : VK), Inv X pins σ H s → RelV x v → RelV y u → r x y H Q →
    wpAny (model X.prog X.w) X.A (f v u) (EP X pins σ Q) X.xe s
def CallR (X : Cx) (f : Value) (r : List V → Hp → VK → Prop) : Prop :=
  ∀ (pins : List (Addr × Obj)) (s : Shared) (σ : St) (H : Hp) (xs : List V) (us : List Value) (Q : VK), Inv X pins σ H s → Vals xs us → r xs H Q →
    wpAny (model X.prog X.w) X.A (call f us) (EP X pins σ Q) X.xe s
def tOp (r : R2) (ta tb : TE) : TE := fun σ H Q => ta σ H fun x H1 => tb σ H1 fun y H2 => r x y H2 Q
def rI (C : Int → Int → Prop) (g : Int → Int → V) : R2 := fun x y H Q => ∃ i j, x = .int i ∧ y = .int j ∧ C i j ∧ Q (g i j) H
def rI0 (g : Int → Int → V) : R2 := fun x y H Q => ∃ i j, x = .int i ∧ y = .int j ∧ Q (g i j) H
section
variable {X : Cx} {a b c : Expr} {ta tb tc : TE} {pos : Pos}
theorem binT (ha : PE X a ta) (hb : PE X b tb) {pins : List (Addr × Obj)} {s : Shared} {σ : St} {H : Hp} {R : V → V → Hp → Prop} (I : Inv X pins σ H s)
    (h : ta σ H fun x H1 => tb σ H1 fun y H2 => R x y H2) {Q : Value → Shared → Prop} {f : Value → Value → Sem Value}
    (hf : ∀ v u s2 x y H2, Inv X pins σ H2 s2 → RelV x v → RelV y u → R x y H2 → wpAny (model X.prog X.w) X.A (f v u) Q X.xe s2) :
    wpAny (model X.prog X.w) X.A (eval a X.env) (fun v s₁ => wpAny (model X.prog X.w) X.A (eval b X.env) (fun u s₂ => wpAny (model X.prog X.w) X.A (f v u) Q X.xe s₂) X.xe s₁) X.xe s := by
  refine thn (ha pins s σ H _ I h) fun v s1 ⟨x, H1, I1, r1, q1⟩ => ?_
  refine thn (hb pins s1 σ H1 _ I1 q1) fun u s2 ⟨y, H2, I2, r2, q2⟩ => ?_
  exact hf v u s2 x y H2 I2 r1 r2 q2
theorem pe_op {op : Operator} {r : R2} (ho : OpR X (binaryOp op) r) (ha : PE X a ta) (hb : PE X b tb) : PE X (.BinOp a op b pos) (tOp r ta tb) := by
  intro pins s σ H Q I h
  exact wpAny_BinOp (binT ha hb I h fun v u s2 x y H2 I2 rx ry q => ho pins s2 σ H2 x y v u Q I2 rx ry q)
theorem opI {f : Value → Value → Sem Value} {C : Int → Int → Prop} {g : Int → Int → Int}
    (rule : ∀ (i j : Int) (t u : Tok) (s : Shared) (Q : Value → Shared → Prop) (E : Value → Shared → Prop), C i j → Q (.int (g i j) s.toks) { s with toks := s.toks + 1 } → wpAny (model X.prog X.w) X.A (f (.int i t) (.int j u)) Q E s) :
    OpR X f (rI C fun i j => .int (g i j)) := by
  intro pins s σ H x y v u Q I rx ry h
  obtain ⟨i, j, rfl, rfl, hc, q⟩ := h
  obtain ⟨t, rfl⟩ := rx
  obtain ⟨t', rfl⟩ := ry
  exact rule i j t t' s _ _ hc ⟨.int (g i j), H, I.tok _, ⟨_, rfl⟩, q⟩
theorem opI0 {f : Value → Value → Sem Value} {g : Int → Int → Int}
    (rule : ∀ (i j : Int) (t u : Tok) (s : Shared) (Q : Value → Shared → Prop) (E : Value → Shared → Prop), Q (.int (g i j) s.toks) { s with toks := s.toks + 1 } → wpAny (model X.prog X.w) X.A (f (.int i t) (.int j u)) Q E s) :
    OpR X f (rI0 fun i j => .int (g i j)) := by
  intro pins s σ H x y v u Q I rx ry h
  obtain ⟨i, j, rfl, rfl, q⟩ := h
  obtain ⟨t, rfl⟩ := rx
  obtain ⟨t', rfl⟩ := ry
  exact rule i j t t' s _ _ ⟨.int (g i j), H, I.tok _, ⟨_, rfl⟩, q⟩
theorem opB0 {f : Value → Value → Sem Value} {g : Int → Int → Bool}
    (rule : ∀ (i j : Int) (t u : Tok) (s : Shared) (Q : Value → Shared → Prop) (E : Value → Shared → Prop), Q (.bool (g i j)) s → wpAny (model X.prog X.w) X.A (f (.int i t) (.int j u)) Q E s) :
    OpR X f (rI0 fun i j => .bl (g i j)) := by
  intro pins s σ H x y v u Q I rx ry h
  obtain ⟨i, j, rfl, rfl, q⟩ := h
  obtain ⟨t, rfl⟩ := rx
  obtain ⟨t', rfl⟩ := ry
  exact rule i j t t' s _ _ ⟨.bl (g i j), H, I, rfl, q⟩
def CDiv (i j : Int) : Prop := 0 < j ∧ j < 1073741824
def CPow (i j : Int) : Prop := 0 ≤ j ∧ j ≤ 1000000 ∧ i.natAbs < 2 ^ 64
def CMul (i j : Int) : Prop := (-(2 ^ 64) < i ∧ i < 2 ^ 64) ∨ (-(2 ^ 64) < j ∧ j < 2 ^ 64)
theorem CMul.ok {i j : Int} (h : CMul i j) : IntMulOk i j := by
  rcases h with ⟨h1, h2⟩ | ⟨h1, h2⟩
  · exact .of_left (intBits_le_64 h1 h2)
  · exact .of_right (intBits_le_64 h1 h2)
theorem op_add : OpR X (binaryOp .Add) (rI0 fun i j => .int (i + j)) := opI0 fun _ _ _ _ _ _ _ q => add_int q
theorem op_sub : OpR X (binaryOp .Sub) (rI0 fun i j => .int (i - j)) := opI0 fun _ _ _ _ _ _ _ q => sub_int q
theorem op_mul : OpR X (binaryOp .Mult) (rI CMul fun i j => .int (i * j)) := opI fun _ _ _ _ _ _ _ hc q => mul_int q hc.ok
theorem op_fdiv : OpR X (binaryOp .FloorDiv) (rI CDiv fun i j => .int (i / j)) := opI fun i j _ _ _ _ _ hc q => by
  have h1 : (0 : Int) < j := hc.1
  have h2 : j < 1073741824 := hc.2
  exact floordiv_int (by omega) (by rw [Int.fdiv_eq_ediv_of_nonneg i (by omega)]; exact q) (.inl (PyProof.noPylong_small (by omega)))
theorem op_mod : OpR X (binaryOp .Mod) (rI (fun _ j => 0 < j) fun i j => .int (i % j)) := opI fun i j _ _ _ _ _ hc q => by
  have h1 : (0 : Int) < j := hc
  exact mod_int' (by omega) (by rw [Int.fmod_eq_emod_of_nonneg i (by omega)]; exact q)
theorem op_pow : OpR X (binaryOp .Pow) (rI CPow fun i j => .int (i ^ j.toNat)) := opI fun _ _ _ _ _ _ _ hc q => pow_int_small hc.1 hc.2.1 hc.2.2 q
end
def scal : V → V → Bool
  | .non, .non => true | .non, .int _ => true | .int _, .non => true | .non, .bl _ => true | .bl _, .non => true | .non, .str _ => true | .str _, .non => true
  | .int _, .int _ => true | .bl _, .bl _ => true | .str _, .str _ => true | .byt _, .byt _ => true
  | .int _, .str _ => true | .str _, .int _ => true | .bl _, .str _ => true | .str _, .bl _ => true
  | _, _ => false
def rEq : R2 := fun x y H Q => scal x y = true ∧ Q (.bl (decide (x = y))) H
def rNe : R2 := fun x y H Q => scal x y = true ∧ Q (.bl (!decide (x = y))) H
theorem dec_int {i j : Int} : decide (V.int i = V.int j) = (i == j) := by
  rw [Bool.eq_iff_iff]
  simp
theorem dec_bl {i j : Bool} : decide (V.bl i = V.bl j) = (i == j) := by
  rw [Bool.eq_iff_iff]
  simp
theorem dec_str {i j : Str} : decide (V.str i = V.str j) = (i == j) := by
  rw [Bool.eq_iff_iff]
  simp
theorem dec_byt {i j : Array UInt8} : decide (V.byt i = V.byt j) = (i.toList == j.toList) := by
  rw [Bool.eq_iff_iff]
  cases i
  cases j
  simp
section
variable {X : Cx} {a b c : Expr} {ta tb tc : TE} {pos : Pos}
theorem fin_bl {pins : List (Addr × Obj)} {σ : St} {H : Hp} {s : Shared} {Q : VK} {k k' : Bool} (I : Inv X pins σ H s) (q : Q (.bl k) H) (e : k = k') : EP X pins σ Q (.bool k') s := by
  subst e
  exact ⟨.bl k, H, I, rfl, q⟩
theorem op_eq : OpR X (compareOp .Eq) rEq := by
  intro pins s σ H x y v u Q I rx ry h
  obtain ⟨hs, q⟩ := h
  cases x with
  | non =>
    cases rx
    cases y with
    | non => cases ry; exact PySem.EqNone.eq_none_none (fin_bl I q (by simp))
    | bl j => cases ry; exact PySem.EqNone.eq_none_bool (fin_bl I q (by simp))
    | int j => obtain ⟨t', rfl⟩ := ry; exact PySem.EqNone.eq_none_int (fin_bl I q (by simp))
    | str j => obtain ⟨t', rfl⟩ := ry; exact PySem.EqNone.eq_none_str (fin_bl I q (by simp))
    | _ => exact absurd (show false = true from hs) Bool.false_ne_true
  | bl i =>
    cases rx
    cases y with
    | non => cases ry; exact PySem.EqNone.eq_bool_none (fin_bl I q (by simp))
    | bl j => cases ry; exact eq_bool (fin_bl I q dec_bl)
    | str j => obtain ⟨t', rfl⟩ := ry; exact PySem.EqMixed.eq_bool_str (fin_bl I q (by simp))
    | _ => exact absurd (show false = true from hs) Bool.false_ne_true
  | int i =>
    obtain ⟨t, rfl⟩ := rx
    cases y with
    | non => cases ry; exact PySem.EqNone.eq_int_none (fin_bl I q (by simp))
    | int j => obtain ⟨t', rfl⟩ := ry; exact eq_int (fin_bl I q dec_int)
    | str j => obtain ⟨t', rfl⟩ := ry; exact PySem.EqMixed.eq_int_str (fin_bl I q (by simp))
    | _ => exact absurd (show false = true from hs) Bool.false_ne_true
  | str i =>
    obtain ⟨t, rfl⟩ := rx
    cases y with
    | non => cases ry; exact PySem.EqNone.eq_str_none (fin_bl I q (by simp))
    | bl j => cases ry; exact PySem.EqMixed.eq_str_bool (fin_bl I q (by simp))
    | int j => obtain ⟨t', rfl⟩ := ry; exact PySem.EqMixed.eq_str_int (fin_bl I q (by simp))
    | str j => obtain ⟨t', rfl⟩ := ry; exact eq_str (fin_bl I q dec_str)
    | _ => exact absurd (show false = true from hs) Bool.false_ne_true
  | byt i =>
    obtain ⟨t, rfl⟩ := rx
    cases y with
    | byt j => obtain ⟨t', rfl⟩ := ry; exact PySem.W.eq_bytes (fin_bl I q dec_byt)
    | _ => exact absurd (show false = true from hs) Bool.false_ne_true
  | _ => cases y <;> exact absurd (show false = true from hs) Bool.false_ne_true
theorem op_ne : OpR X (compareOp .NotEq) rNe := by
  intro pins s σ H x y v u Q I rx ry h
  obtain ⟨hs, q⟩ := h
  cases x with
  | non =>
    cases rx
    cases y with
    | non => cases ry; exact PySem.EqNone.ne_none_none (fin_bl I q (by simp))
    | bl j => cases ry; exact PySem.EqNone.ne_none_bool (fin_bl I q (by simp))
    | int j => obtain ⟨t', rfl⟩ := ry; exact PySem.EqNone.ne_none_int (fin_bl I q (by simp))
    | str j => obtain ⟨t', rfl⟩ := ry; exact PySem.EqNone.ne_none_str (fin_bl I q (by simp))
    | _ => exact absurd (show false = true from hs) Bool.false_ne_true
  | bl i =>
    cases rx
    cases y with
    | non => cases ry; exact PySem.EqNone.ne_bool_none (fin_bl I q (by simp))
    | bl j => cases ry; exact ne_bool (fin_bl I q (congrArg not dec_bl))
    | str j => obtain ⟨t', rfl⟩ := ry; exact PySem.EqMixed.ne_bool_str (fin_bl I q (by simp))
    | _ => exact absurd (show false = true from hs) Bool.false_ne_true
  | int i =>
    obtain ⟨t, rfl⟩ := rx
    cases y with
    | non => cases ry; exact PySem.EqNone.ne_int_none (fin_bl I q (by simp))
    | int j => obtain ⟨t', rfl⟩ := ry; exact ne_int (fin_bl I q (congrArg not dec_int))
    | str j => obtain ⟨t', rfl⟩ := ry; exact PySem.EqMixed.ne_int_str (fin_bl I q (by simp))
    | _ => exact absurd (show false = true from hs) Bool.false_ne_true
  | str i =>
    obtain ⟨t, rfl⟩ := rx
    cases y with
    | non => cases ry; exact PySem.EqNone.ne_str_none (fin_bl I q (by simp))
    | bl j => cases ry; exact PySem.EqMixed.ne_str_bool (fin_bl I q (by simp))
    | int j => obtain ⟨t', rfl⟩ := ry; exact PySem.EqMixed.ne_str_int (fin_bl I q (by simp))
    | str j => obtain ⟨t', rfl⟩ := ry; exact ne_str (fin_bl I q (congrArg not dec_str))
    | _ => exact absurd (show false = true from hs) Bool.false_ne_true
  | byt i =>
    obtain ⟨t, rfl⟩ := rx
    cases y with
    | byt j => obtain ⟨t', rfl⟩ := ry; exact PySem.W.ne_bytes (fin_bl I q (congrArg not dec_byt))
    | _ => exact absurd (show false = true from hs) Bool.false_ne_true
  | _ => cases y <;> exact absurd (show false = true from hs) Bool.false_ne_true
theorem op_lt : OpR X (compareOp .Lt) (rI0 fun i j => .bl (decide (i < j))) := opB0 fun _ _ _ _ _ _ _ q => lt_int q
theorem op_le : OpR X (compareOp .LtE) (rI0 fun i j => .bl (decide (i ≤ j))) := opB0 fun _ _ _ _ _ _ _ q => le_int q
theorem op_gt : OpR X (compareOp .Gt) (rI0 fun i j => .bl (decide (j < i))) := opB0 fun _ _ _ _ _ _ _ q => gt_int q
theorem nomark (b : Expr) {op : CmpOp} (h : op ≠ .In := by decide) (h2 : op ≠ .NotIn := by decide) : behindInMarks op b = false := by
  have e1 : (op == CmpOp.In) = false := by cases op <;> first | rfl | exact absurd rfl h
  have e2 : (op == CmpOp.NotIn) = false := by cases op <;> first | rfl | exact absurd rfl h2
  cases b <;> simp [behindInMarks, e1, e2]
theorem pe_cmpR {op : CmpOp} {r : R2} (ho : OpR X (compareOp op) r) (ha : PE X a ta) (hb : PE X b tb) (hm : behindInMarks op b = false) : PE X (.Compare a [op] [b] pos) (tOp r ta tb) := by
  intro pins s σ H Q I h
  exact wpAny_Compare1 (binT ha hb I h fun v u s2 x y H2 I2 rx ry q => ho pins s2 σ H2 x y v u Q I2 rx ry q) hm
def tTest (t : TE) : TT := fun σ H Q => t σ H fun x H' => ∃ k, x = .bl k ∧ Q k H'
theorem pt_cmpR {op : CmpOp} {r : R2} (ho : OpR X (compareOp op) r) (ha : PE X a ta) (hb : PE X b tb) (hm : behindInMarks op b = false) : PT X (.Compare a [op] [b] pos) (tTest (tOp r ta tb)) := by
  intro pins s σ H Q I h
  refine wpAny_isTrue_Compare1 (thn (ha pins s σ H _ I h) fun v s1 ⟨x, H1, I1, r1, q1⟩ => thn (hb pins s1 σ H1 _ I1 q1) fun u s2 ⟨y, H2, I2, r2, q2⟩ =>
    thn (ho pins s2 σ H2 x y v u _ I2 r1 r2 q2) fun c s3 ⟨z, H3, I3, r3, k, e, q3⟩ => ?_) hm
  subst e
  cases r3
  exact wpAny_truthy_bool ⟨H3, I3, q3⟩
def tChain (r r' : R2) (ta tb tc : TE) : TE := fun σ H Q => ta σ H fun x H1 => tb σ H1 fun y H2 => r x y H2 fun z H3 => ∃ k, z = .bl k ∧
  (if k = true then tc σ H3 fun w' H4 => r' y w' H4 Q else Q (.bl false) H3)
theorem pt_chain {op op' : CmpOp} {r r' : R2} (ho : OpR X (compareOp op) r) (ho' : OpR X (compareOp op') r') (ha : PE X a ta) (hb : PE X b tb) (hc : PE X c tc)
    (hm : lastMarks [op, op'] [b, c] = false := by with_unfolding_all rfl) : PT X (.Compare a [op, op'] [b, c] pos) (tTest (tChain r r' ta tb tc)) := by
  intro pins s σ H Q I h
  refine isTrue_chain (thn (ha pins s σ H _ I h) fun v s1 ⟨x, H1, I1, r1, q1⟩ => test_link (thn (hb pins s1 σ H1 _ I1 q1) fun u s2 ⟨y, H2, I2, r2, q2⟩ =>
    thn (ho pins s2 σ H2 x y v u _ I2 r1 r2 q2) fun d s3 ⟨z, H3, I3, r3, k, e, q3⟩ => ?_)) hm
  subst e
  cases r3
  refine wpAny_truthy_bool ?_
  cases k with
  | false =>
    obtain ⟨k', e', q'⟩ := q3
    cases e'
    exact ite_ff ⟨H3, I3, q'⟩
  | true =>
    refine ite_tt (test_last (thn (hc pins s3 σ H3 _ I3 q3) fun w' s4 ⟨z', H4, I4, r4, q4⟩ => thn (ho' pins s4 σ H4 y z' u w' _ I4 r2 r4 q4) fun d' s5 ⟨z2, H5, I5, r5, k2, e2, q5⟩ => ?_))
    subst e2
    cases r5
    exact wpAny_truthy_bool ⟨H5, I5, q5⟩
theorem line63 : (sizeLine : Nat) < 2 ^ 63 := by rw [sizeLine_eq]; decide
theorem op_add_str : OpR X (binaryOp .Add) (fun x y H Q => ∃ i j, x = .str i ∧ y = .str j ∧ i.length + j.length ≤ sizeLine ∧ Q (.str (i ++ j)) H) := by
  intro pins s σ H x y v u Q I rx ry h
  obtain ⟨i, j, rfl, rfl, hz, q⟩ := h
  obtain ⟨t, rfl⟩ := rx
  obtain ⟨t', rfl⟩ := ry
  exact add_str (fun t' tk => ⟨.str (i ++ j), H, I.tok _, ⟨_, rfl⟩, q⟩) hz
theorem vals1 {x : V} {us : List Value} (r : Vals [x] us) : ∃ u, us = [u] ∧ RelV x u := by
  cases r with
  | cons r1 r2 => cases r2; exact ⟨_, rfl, r1⟩
theorem vals2 {x y : V} {us : List Value} (r : Vals [x, y] us) : ∃ u w', us = [u, w'] ∧ RelV x u ∧ RelV y w' := by
  cases r with
  | cons r1 r2 =>
    cases r2 with
    | cons r3 r4 => cases r4; exact ⟨_, _, rfl, r1, r3⟩
theorem call_abs : CallR X (.builtin "abs") (fun xs H Q => ∃ i, xs = [.int i] ∧ Q (.int (if i < 0 then -i else i)) H) := by
  intro pins s σ H xs us Q I r h
  obtain ⟨i, rfl, q⟩ := h
  obtain ⟨u, rfl, t, rfl⟩ := vals1 r
  exact call_abs_int fun u tk => ⟨.int (if i < 0 then -i else i), H, I.tok _, ⟨_, rfl⟩, q⟩
theorem call_max2 (hc : X.calm = true) : CallR X (.builtin "max") (fun xs H Q => ∃ i j, xs = [.int i, .int j] ∧ Q (.int (if j > i then j else i)) H) := by
  intro pins s σ H xs us Q I r h
  obtain ⟨i, j, rfl, q⟩ := h
  obtain ⟨u, w', rfl, ⟨t, rfl⟩, ⟨t', rfl⟩⟩ := vals2 r
  refine max_two_ints (I.ok.hd hc) fun h' tk k => ⟨_, H, I.kept k, ?_, q⟩
  by_cases hj : j > i
  · rw [if_pos hj, if_pos hj]; exact ⟨_, rfl⟩
  · rw [if_neg hj, if_neg hj]; exact ⟨_, rfl⟩
end
end L2
namespace L2
open PySem PySem.Spec PyProof.Rows
structure ObjM (h : Heap) (x dx C : Addr) (mA : Str → Option Value) : Prop where
  obj : h.get? x = some (PySem.W.instObj C dx)
  ns : h.Ns1 dx mA
  ne : dx ≠ x
section
variable {prog : Program} {w : World} {A : Around} {E : Value → Shared → Prop} {s : Shared} {K : PySem.W.Frag} {x dx C f : Addr} {mA : Str → Option Value} {name : Str} {v : Value}
end
theorem RelO.some_of {v : V} {o : Option Value} (r : RelO (some v) o) : ∃ u, o = some u ∧ RelV v u := by
  cases o with
  | none => exact (show False from r).elim
  | some u => exact ⟨u, rfl, r⟩
section
variable {P : Program} {w : World} {H H' : Hp} {h h' : Heap} {a C dx : Addr} {fs fs' : List (Str × V)}
end
structure Cls (K : PySem.W.Frag) (C : Addr) : Prop where
  pg : PySem.W.plainGet K C Str.empty = true
  hd : PySem.W.hasDictIn K C = true
  po : PySem.W.plainOver K C = true
  sa : PySem.W.findIn K (.ref C) "__setattr__" = some (some (.builtin "object.__setattr__"))
structure Con (K : PySem.W.Frag) (C : Addr) (f : Str) (v : V) (u : Value) : Prop where
  at_ : PySem.W.findIn K (.ref C) f = some (some u)
  rel : RelV v u
  get : PySem.W.specialIn K u "__get__" = some none
  cp : PySem.W.copiedNames.contains f = false
structure Meth (K : PySem.W.Frag) (C : Addr) (m : Str) (f : Addr) : Prop where
  at_ : PySem.W.findIn K (.ref C) m = some (some (.ref f))
  fn : PySem.W.isFn K (.ref f) = true
  kp : PySem.W.keepIn K (.ref f) = true
section
variable {X : Cx} {pins : List (Addr × Obj)} {σ : St} {H : Hp} {s : Shared} {a C dx : Addr} {fs : List (Str × V)} {f : Str} {v : V} {A : Around} {E : Value → Shared → Prop}
end
section
variable {X : Cx} {o e value : Expr} {f : Str} {pos pos' tpos : Pos} {ta tv : TE}
end
section
variable {X : Cx} {pins : List (Addr × Obj)} {σ : St} {H : Hp} {s : Shared} {A : Around} {E : Value → Shared → Prop} {Q : Value → Shared → Prop} {c : Value} {b : Bool}
inductive TyOf (K : PySem.W.Frag) (H : Hp) : V → Value → Prop where
  | non : TyOf K H .non (.type "NoneType")
  | bl (x : Bool) : TyOf K H (.bl x) (.type "bool")
  | int (i : Int) : TyOf K H (.int i) (.type "int")
  | str (x : Str) : TyOf K H (.str x) (.type "str")
  | flt (x : UInt64) : TyOf K H (.flt x) (.type "float")
  | lst {a : Addr} {xs : List V} (e : H a = some (.lst xs)) : TyOf K H (.ref a) (.type "list")
  | frz {a : Addr} {o : Obj} {xs : List V} (e : H a = some (.frz o (.lst xs))) : TyOf K H (.ref a) (.type "list")
  | tup {a : Addr} {xs : List V} (e : H a = some (.tup xs)) : TyOf K H (.ref a) (.type "tuple")
  | dK {a : Addr} {kvs : List (Key × V)} (e : H a = some (.dK kvs)) : TyOf K H (.ref a) (.type "dict")
  | dT {a : Addr} {kvs : List (List Key × V)} (e : H a = some (.dT kvs)) : TyOf K H (.ref a) (.type "dict")
  | ins {a C dx : Addr} {fs : List (Str × V)} (e : H a = some (.ins C dx fs)) (cl : Cls K C) (ha : PySem.W.findIn K (.ref C) "__class__" = some (some (.builtin "object.__class__")))
      (hn : PySem.W.specialIn K (.builtin "object.__class__") "__get__" = some (some (.builtin "getset_descriptor.__get__"))) (htk : PySem.W.takesIn K (.builtin "object.__class__") = some true)
      (hm : PySem.W.mroIn K C (.type "object") = some true) : TyOf K H (.ref a) (.ref C)
end
end L2
namespace L2
open PySem PySem.Spec PyProof.Rows
structure Room (k : Nat) (A : Around) : Prop where
  hd : A.handled = none
  dp : A.depth + 3 * k + 5 < recursionLimit
  un : A.units + 16 * k + 200 < cLine
theorem Room.mono {j k : Nat} {A : Around} (r : Room k A) (h : j ≤ k) : Room j A := ⟨r.hd, by have := r.dp; omega, by have := r.un; omega⟩
theorem Room.deeper {k : Nat} {A : Around} (r : Room (k + 1) A) (env : Env) : Room k (A.deeper env) :=
  ⟨r.hd, by have := r.dp; show A.depth + 1 + 3 * k + 5 < _; omega, by have := r.un; show A.units + 3 + 16 * k + 200 < _; omega⟩
theorem Room.in1 {k : Nat} {A : Around} (r : Room (k + 1) A) : Room k A.in1 :=
  ⟨r.hd, by have := r.dp; show A.depth + 3 * k + 5 < _; omega, by have := r.un; show A.units + 1 + 16 * k + 200 < _; omega⟩
theorem Room.depth {k : Nat} {A : Around} (r : Room k A) : A.depth < recursionLimit := by have := r.dp; omega
theorem Room.units {k : Nat} {A : Around} (r : Room k A) : A.units + 64 < cLine := by have := r.un; omega
def tNil : TA := fun _ H Q => Q [] H
def tCons (ta : TE) (tr : TA) : TA := fun σ H Q => ta σ H fun x H1 => tr σ H1 fun xs H2 => Q (x :: xs) H2
section
variable {X : Cx} {e : Expr} {es : List Expr} {te : TE} {t : TA} {pos : Pos}
theorem pa_nil : PA X [] tNil := fun _ _ _ _ H Q I h => Calls.spliced_nil ⟨[], H, I, .nil, h⟩
theorem pa_cons (ha : PE X e te) (hr : PA X es t) (hs : starEach (e :: es) X.env = (false, eval e X.env) :: starEach es X.env := by rfl) : PA X (e :: es) (tCons te t) := by
  intro pos pins s σ H Q I h
  rw [hs]
  show wpAny _ _ (spliced ((false, eval e X.env) :: backTo pos (starEach es X.env))) _ _ s
  refine Calls.spliced_cons (thn (ha pins s σ H _ I h) fun u s1 ⟨x, H1, I1, r1, q1⟩ => ?_)
  exact thn (hr pos pins s1 σ H1 _ I1 q1) fun us s2 ⟨xs, H2, I2, r2, q2⟩ => ⟨x :: xs, H2, I2, .cons r1 r2, q2⟩
def tTup (t : TA) : TE := fun σ H Q => t σ H fun xs H1 => xs.length ≤ sizeLine ∧ ∀ p, H1 p = none → Q (.ref p) (upd H1 p (.tup xs))
def tLst (t : TA) : TE := fun σ H Q => t σ H fun xs H1 => xs.length ≤ sizeLine ∧ ∀ p, H1 p = none → Q (.ref p) (upd H1 p (.lst xs))
theorem pe_tup {x1} (h : PA X es t) : PE X (.Tuple es x1 pos) (tTup t) := by
  intro pins s σ H Q I hq
  refine wpAny_Tuple_spliced (thn (h pos pins s σ H _ I hq) fun us s1 ⟨xs, H1, I1, r, z, q⟩ => ⟨by rw [← r.length]; exact z, ?_⟩)
  have hf : H1 s1.heap.objs.size = none := I1.hok.fresh (Nat.le_refl _)
  refine ⟨.ref s1.heap.objs.size, upd H1 s1.heap.objs.size (.tup xs), I1.laid (t' := s1.toks) (fun b u e => Heap.get?_push_of_some _ e) (Nat.le_refl _) ?_, rfl, q _ hf⟩
  exact ⟨z, us, r, ⟨_, Heap.get?_push_size _ rfl, rfl, _, rfl⟩⟩
theorem pe_lst (h : PA X es t) : PE X (.List es pos) (tLst t) := by
  intro pins s σ H Q I hq
  refine wpAny_List_spliced (thn (h pos pins s σ H _ I hq) fun us s1 ⟨xs, H1, I1, r, z, q⟩ => ⟨by rw [← r.length]; exact z, ?_⟩)
  have hf : H1 s1.heap.objs.size = none := I1.hok.fresh (Nat.le_refl _)
  refine ⟨.ref s1.heap.objs.size, upd H1 s1.heap.objs.size (.lst xs), I1.laid (t' := s1.toks) (fun b u e => Heap.get?_push_of_some _ e) (Nat.le_refl _) ?_, rfl, q _ hf⟩
  exact ⟨z, us, 0, r, Heap.get?_push_size _ rfl⟩
end
abbrev Sp := List V → Hp → VK → XK → Prop
abbrev CXT := List Env → Hp → Shared → XK → Value → Shared → Prop
structure Env0 (P : Program) (w : World) (K : PySem.W.Frag) (mg : Str → Option Value) (base : Heap) (A : Around) (outer : List Env) (s : Shared) (H : Hp) : Prop where
  frames : A.frames = some outer
  mod : Mod K mg base
  bs : ∀ b o, base.get? b = some o → s.heap.get? b = some o ∧ H b = none
  bsz : base.objs.size ≤ s.heap.objs.size
  funs : s.heap.FunFrames base outer
  frf : ∀ b ∈ frs outer, H b = none
  hok : HOk P w H s.heap
  bare : AllBare s.gens
def CE (outer : List Env) (P : Program) (w : World) (H : Hp) (s : Shared) (Q : VK) (u : Value) (s' : Shared) : Prop :=
  ∃ v H', s'.os = s.os ∧ AllBare s'.gens ∧ Un (frs outer) [] H H' s.heap s'.heap ∧ HOk P w H' s'.heap ∧ RelV v u ∧ Q v H'
def CR (CX : CXT) (outer : List Env) (P : Program) (w : World) (H : Hp) (s : Shared) (Q : VK) (E : XK) (r : Result) (s' : Shared) : Prop :=
  match r with
  | .ok (.ret u) => CE outer P w H s Q u s'
  | .ok _ => False
  | .error e => CX outer H s E e s'
structure FnOk (P : Program) (w : World) (K : PySem.W.Frag) (mg : Str → Option Value) (base : Heap) (CX : CXT) (k : Nat) (f : Addr) (fd : FuncData) (ps : List Str) (sp : Sp) : Prop where
  len : ∀ vs H Q E, sp vs H Q E → vs.length = ps.length
  run : ∀ (A : Around) (outer : List Env) (s : Shared) (H : Hp) (args : Args) (us : List Value) (vs : List V) (Q : VK) (E : XK), Room k A → Env0 P w K mg base A outer s H → BindsTo s fd args (ps.zip us) → Vals vs us → sp vs H Q E →
    codeAny (model P w) A (.call (.ref f) args) (CR CX outer P w H s Q E) s
section
variable {X : Cx} {pins : List (Addr × Obj)} {σ : St} {H : Hp} {s s' : Shared}
theorem Inv.env0 (I : Inv X pins σ H s) : Env0 X.prog X.w X.K X.mg X.base X.A X.stack s H :=
  ⟨I.ok.frames, I.ok.mod, I.bs, Nat.le_trans I.ok.bsz I.sz, I.stack, I.stkFree, I.hok, I.bare⟩
theorem Inv.after {Q : VK} {u : Value} (I : Inv X pins σ H s) (h : CE X.stack X.prog X.w H s Q u s') : EP X pins σ Q u s' := by
  obtain ⟨v, H', os, bare, un, hok, r, q⟩ := h
  obtain ⟨hh, g, d, t, os'⟩ := s'
  obtain rfl : os' = s.os := os
  exact ⟨v, H', I.call (h' := hh) (g' := g) (d' := d) (t' := t) (ch := []) un hok bare (fun b z => absurd z (by simp)), r, q⟩
end
def tCall (sp : Sp) (dvs : List V) (E : XK) (t : TA) : TE := fun σ H Q => t σ H fun vs H1 => sp (vs ++ dvs) H1 Q E
def Binds (K : PySem.W.Frag) (fd : FuncData) (ps : List Str) (ds : List Value) : Prop :=
  ∀ (s : Shared) (us : List Value), K.In s.heap → (us ++ ds).length = ps.length → BindsTo s fd ⟨us, []⟩ (ps.zip (us ++ ds))
theorem Binds.all {K : PySem.W.Frag} {fd : FuncData} {ps : List Str} (h : ∀ us : List Value, us.length = ps.length → bindArgs fd ⟨us, []⟩ = pure (ps.zip us)) : Binds K fd ps [] := fun s us _ hl => by
  rw [List.append_nil] at hl ⊢
  exact .of_eq (h us hl)
def Passes (CX : CXT) (X : Cx) (E : XK) : Prop := ∀ (pins : List (Addr × Obj)) (σ : St) (H : Hp) (s : Shared) (e : Value) (s' : Shared), Inv X pins σ H s → CX X.stack H s E e s' → X.xe e s'
section
variable {X : Cx} {CX : CXT} {k : Nat} {f C : Addr} {fd : FuncData} {ps : List Str} {sp : Sp} {dvs : List V} {ds : List Value} {E : XK} {x m : Str} {p pos apos : Pos} {e o : Expr} {es : List Expr} {ta : TE} {t : TA}
theorem run_fn {pins : List (Addr × Obj)} {σ : St} {H : Hp} {s : Shared} {Q : VK} {us : List Value} {vs : List V} (F : FnOk X.prog X.w X.K X.mg X.base CX k f fd ps sp) (hr : Room k X.A) (hb : Binds X.K fd ps ds) (hd : Vals dvs ds) (hx : Passes CX X E)
    (I : Inv X pins σ H s) (r : Vals vs us) (h : sp (vs ++ dvs) H Q E) : wpAny (model X.prog X.w) X.A (call (.ref f) us) (EP X pins σ Q) X.xe s := by
  have r2 : Vals (vs ++ dvs) (us ++ ds) := r.append hd
  have hl : (us ++ ds).length = ps.length := by rw [← r2.length]; exact F.len _ _ _ _ h
  refine wpAny_call (codeAny_mono (F.run X.A X.stack s H ⟨us, []⟩ (us ++ ds) (vs ++ dvs) Q E hr I.env0 (hb s us I.kIn hl) r2 h) fun r s' hq => ?_)
  cases r with
  | error e => exact hx pins σ H s e s' I hq
  | ok fl =>
    cases fl with
    | ret u => exact I.after hq
    | next => exact False.elim hq
    | brk => exact False.elim hq
    | cont => exact False.elim hq
theorem pe_call (F : FnOk X.prog X.w X.K X.mg X.base CX k f fd ps sp) (hr : Room k X.A) (hg : Gl X x) (hm : X.mg x = some (.ref f)) (hk : PySem.W.keepIn X.K (.ref f) = true) (hb : Binds X.K fd ps ds) (hd : Vals dvs ds) (hx : Passes CX X E)
    (ha : PA X (e :: es) t) (hdb : (x == ("__debug__" : Str)) = false := by decide) (he : starEach (e :: es) X.env = (false, eval e X.env) :: starEach es X.env := by rfl) (hpl : (backTo pos (starEach es X.env)).any (·.1) = false := by rfl) :
    PE X (.Call (.Name x p) (e :: es) [] pos) (tCall sp dvs E t) := by
  intro pins s σ H Q I h
  refine wpAny_Call_Name_kw (ld_glob I hg hm ?_ hdb)
  refine PySem.W.callWith_K (h₀ := X.base) I.ok.mod.kin hk (thn (ha pos pins s σ H _ I h) fun us s1 ⟨vs, H1, I1, r, q⟩ => ⟨I1.kIn, ?_⟩) he hpl
  exact run_fn F hr hb hd hx I1 r q
structure Mk (K : PySem.W.Frag) (C f : Addr) : Prop where
  makes : PySem.W.makesIn K C = true
  init : PySem.W.findIn K (.ref C) "__init__" = some (some (.ref f))
  fn : PySem.W.isFn K (.ref f) = true
  kp : PySem.W.keepIn K (.ref C) = true
end
def PK (X : Cx) (kws : List Keyword) (t : TA) : Prop :=
  ∀ (pos : Pos) (pins : List (Addr × Obj)) (s : Shared) (σ : St) (H : Hp) (Q : List V → Hp → Prop), Inv X pins σ H s → t σ H Q → wpAny (model X.prog X.w) X.A (evalAll ((backToKw pos (keywordEach kws X.env)).map (·.2))) (AP X pins σ Q) X.xe s
section
variable {X : Cx} {CX : CXT} {k : Nat} {f C : Addr} {fd : FuncData} {ps ks : List Str} {sp : Sp} {E : XK} {x m : Str} {p pos apos kpos : Pos} {e o : Expr} {es : List Expr} {kws : List Keyword} {te ta : TE} {t tk : TA} {nm : Option Str}
theorem pk_nil : PK X [] tNil := fun _ _ _ _ H Q I h => wpAny_evalAll_nil ⟨[], H, I, .nil, h⟩
theorem pk_cons (ha : PE X e te) (hr : PK X kws t) : PK X (⟨nm, e, kpos⟩ :: kws) (tCons te t) := by
  intro pos pins s σ H Q I h
  show wpAny _ _ (evalAll ((do let v ← eval e X.env; standAt pos; pure v) :: (backToKw pos (keywordEach kws X.env)).map (·.2))) _ _ s
  refine wpAny_evalAll_cons (wpAny_bind (thn (ha pins s σ H _ I h) fun u s1 ⟨x, H1, I1, r1, q1⟩ => wpAny_bind (wpAny_standAt (wpAny_pure ?_))))
  exact thn (hr pos pins s1 σ H1 _ I1 q1) fun us s2 ⟨xs, H2, I2, r2, q2⟩ => ⟨x :: xs, H2, I2, .cons r1 r2, q2⟩
structure KBinds (K : PySem.W.Frag) (fd : FuncData) (ps ks : List Str) (g : List Value → List Value → List Value) (gV : List V → List V → List V) : Prop where
  to : ∀ (s : Shared) (us ws : List Value), K.In s.heap → (g us ws).length = ps.length → BindsTo s fd ⟨us, ks.zip ws⟩ (ps.zip (g us ws))
  rel : ∀ {vs : List V} {us : List Value} {zs : List V} {ws : List Value}, Vals vs us → Vals zs ws → Vals (gV vs zs) (g us ws)
variable {g : List Value → List Value → List Value} {gV : List V → List V → List V}
end
structure FnScope (N P : List Str) (sc : Scope) : Prop where
  kind : sc.kind = .function
  co : sc.isCoroutine = false
  gen : sc.isGenerator = false
  nd : N.Nodup
  pre : N.take P.length = P
  par : ∀ x ∈ P, sc.names.lookup x = some .local ∨ sc.names.lookup x = some .cell
  nofree : ∀ y ∈ sc.names, y.2 ≠ .free
theorem bindL_out {kindOf : Str → Option NameKind} {x : Str} : ∀ {binds : List (Str × Value)} {m : Str → Option Value}, (∀ v, (x, v) ∉ binds) → bindL kindOf binds m x = m x
  | [], _, _ => rfl
  | (n, v) :: r, m, h => by
    unfold bindL
    rw [bindL_out fun w hw => h w (List.mem_cons_of_mem _ hw)]
    split
    · have : x ≠ n := by rintro rfl; exact h v List.mem_cons_self
      simp [this]
    · rfl
theorem bindC_out {kindOf : Str → Option NameKind} {x : Str} : ∀ {binds : List (Str × Value)} {m : Str → Option Value}, (∀ v, (x, v) ∉ binds) → bindC kindOf binds m x = m x
  | [], _, _ => rfl
  | (n, v) :: r, m, h => by
    unfold bindC
    rw [bindC_out fun w hw => h w (List.mem_cons_of_mem _ hw)]
    split
    · rfl
    · have : x ≠ n := by rintro rfl; exact h v List.mem_cons_self
      simp [this]
theorem bindL_get {kindOf : Str → Option NameKind} {x : Str} {v : Value} : ∀ {P : List Str} {vs : List Value} {i : Nat} {m : Str → Option Value}, P.Nodup → P[i]? = some x → vs[i]? = some v → kindOf x = some .local →
    bindL kindOf (P.zip vs) m x = some v
  | [], _, _, _, _, h, _, _ => by simp at h
  | _ :: _, [], _, _, _, _, h, _ => by simp at h
  | p :: P, w :: vs, 0, m, nd, h1, h2, hk => by
    simp at h1 h2; subst h1; subst h2
    show bindL kindOf ((p, w) :: P.zip vs) m p = _
    unfold bindL
    rw [bindL_out fun v hv => (List.nodup_cons.mp nd).1 (List.of_mem_zip hv).1, if_pos hk]
    simp
  | p :: P, w :: vs, i + 1, m, nd, h1, h2, hk => by
    show bindL kindOf ((p, w) :: P.zip vs) m x = _
    unfold bindL
    exact bindL_get (i := i) (List.nodup_cons.mp nd).2 (by simpa using h1) (by simpa using h2) hk
theorem bindC_get {kindOf : Str → Option NameKind} {x : Str} {v : Value} : ∀ {P : List Str} {vs : List Value} {i : Nat} {m : Str → Option Value}, P.Nodup → P[i]? = some x → vs[i]? = some v → kindOf x ≠ some .local →
    bindC kindOf (P.zip vs) m x = some v
  | [], _, _, _, _, h, _, _ => by simp at h
  | _ :: _, [], _, _, _, _, h, _ => by simp at h
  | p :: P, w :: vs, 0, m, nd, h1, h2, hk => by
    simp at h1 h2; subst h1; subst h2
    show bindC kindOf ((p, w) :: P.zip vs) m p = _
    unfold bindC
    rw [bindC_out fun v hv => (List.nodup_cons.mp nd).1 (List.of_mem_zip hv).1, if_neg hk]
    simp
  | p :: P, w :: vs, i + 1, m, nd, h1, h2, hk => by
    show bindC kindOf ((p, w) :: P.zip vs) m x = _
    unfold bindC
    exact bindC_get (i := i) (List.nodup_cons.mp nd).2 (by simpa using h1) (by simpa using h2) hk
def start (N : List Str) (vs : List V) : St := vs.map some ++ List.replicate (N.length - vs.length) none
def cxOf (CX : CXT) (P : Program) (w : World) (K : PySem.W.Frag) (mg : Str → Option Value) (base : Heap) (N : List Str) (qual : Str) (scope : Scope) (f : Addr) (cd : Value) (A : Around) (outer : List Env) (s : Shared) (H : Hp) (E : XK) : Cx where
  prog := P
  w := w
  K := K
  mg := mg
  base := base
  A := A.deeper (envOfC qual scope s.heap.objs.size f cd)
  N := N
  s₀ := s
  H₀ := H
  env := envOfC qual scope s.heap.objs.size f cd
  outer := outer
  stack := envOfC qual scope s.heap.objs.size f cd :: outer
  ex := []
  calm := true
  fn := fun _ => true
  pn := []
  xe := fun e s' => wpAny (model P w) (A.deeper (envOfC qual scope s.heap.objs.size f cd)) (leaving (envOfC qual scope s.heap.objs.size f cd) e) (fun _ s'' => CX outer H s E e s'') (fun e' s'' => CX outer H s E e' s'') s'
theorem cell_has {sc : Scope} {n : Nat} {x : Str} (h : sc.names.lookup x = some .cell) : ∃ c, (cellsFrom n sc.names []).lookup x = some c := by
  have q := PySem.W.cellsFrom_some sc.names n [] (.inl h)
  exact Option.isSome_iff_exists.mp q
theorem inv_start {CX : CXT} {P : Program} {w : World} {K : PySem.W.Frag} {mg : Str → Option Value} {base : Heap} {N ps : List Str} {qual : Str} {scope : Scope} {f : Addr} {cd : Value} {A : Around} {outer : List Env} {s s1 : Shared} {H : Hp} {E : XK} {us : List Value} {vs : List V}
    (S : FnScope N ps scope) (hd : A.handled = none) (e0 : Env0 P w K mg base A outer s H) (hl : vs.length = ps.length) (r : Vals vs us)
    (x : InCallC s s.heap.objs.size (bindL (envOfC qual scope s.heap.objs.size f cd).kindOf (ps.zip us) fun _ => none) (cellsFrom (s.heap.objs.size + 1) scope.names []) (bindC (envOfC qual scope s.heap.objs.size f cd).kindOf (ps.zip us) fun _ => none) s1) :
    Inv (cxOf CX P w K mg base N qual scope f cd A outer s H E) [] (start N vs) H s1 := by
  have hpl : ps.length ≤ N.length := by have := congrArg List.length S.pre; rw [List.length_take] at this; omega
  obtain ⟨h1, tk, rfl, hk⟩ := x.done
  have noA : ∀ b : Addr, b ∉ (cxOf CX P w K mg base N qual scope f cd A outer s H E).ex := fun b z => absurd (show b ∈ ([] : List Addr) from z) (by simp)
  refine ⟨⟨e0.mod, S.kind, rfl, rfl, Nat.le_refl _, fun y z c h1 h2 => ?_, fun y hy => ?_, fun y c _ h => ?_, fun _ => hd, Around.frames_deeper e0.frames, .inr ⟨rfl, rfl⟩, fun b z => absurd z (noA b), e0.bs, e0.bsz, fun b _ _ => noA b, fun b z => absurd z (noA b), e0.funs, e0.frf⟩,
    rfl, e0.bare, Un.kept hk, ⟨_, x.toInCall.ns, fun i y v h1 h2 h3 => ?_⟩, fun y c h => ⟨_, x.cell y c h⟩, e0.hok.fresh (Nat.le_refl _), fun y c h => ?_, fun p hp => absurd (show p ∈ ([] : List (Addr × Obj)) from hp) (by simp), e0.hok.kept hk, ?_⟩
  · exact name_of_addr x.apart (PySem.mem_of_lookup h1) (PySem.mem_of_lookup h2)
  · have hy : scope.names.lookup y = some .cell ∨ scope.names.lookup y = some .free := hy
    rcases hy with hy | hy
    · exact cell_has hy
    · exact absurd rfl (S.nofree _ (PySem.mem_of_lookup hy))
  · exact Nat.le_of_lt (x.above y c (PySem.mem_of_lookup h))
  · have hi : i < vs.length := by
      unfold start at h2
      by_cases hi : i < vs.length
      · exact hi
      · rw [List.getElem?_append_right (by simpa using hi)] at h2
        rw [List.getElem?_replicate] at h2
        split at h2 <;> cases h2
    have ha : vs[i]? = some v := by
      unfold start at h2
      rw [List.getElem?_append_left (by simpa using hi), List.getElem?_map] at h2
      cases e : vs[i]? with
      | none => rw [e] at h2; cases h2
      | some a => rw [e] at h2; cases h2; rfl
    obtain ⟨u, hu, rv⟩ := r.get ha
    have hp : ps[i]? = some y := by
      rw [← S.pre, List.getElem?_take_of_lt (by omega)]; exact h1
    have ndP : ps.Nodup := by rw [← S.pre]; exact S.nd.sublist (List.take_sublist _ _)
    refine ⟨u, rv, ?_⟩
    rcases S.par y (List.mem_of_getElem? hp) with k | k
    · exact .inl ⟨k, bindL_get ndP hp hu k⟩
    · obtain ⟨c, e⟩ := cell_has (n := s.heap.objs.size + 1) k
      refine .inr ⟨.inl k, c, e, ?_⟩
      have q := x.cell y c e
      rw [bindC_get ndP hp hu (by show scope.names.lookup y ≠ _; rw [k]; decide)] at q
      exact q
  · exact e0.hok.fresh (Nat.le_of_lt (x.above y c (PySem.mem_of_lookup h)))
  · unfold start
    show _ = N.length
    rw [List.length_append, List.length_map, List.length_replicate]
    omega
theorem fn_of {CX : CXT} {P : Program} {w : World} {K : PySem.W.Frag} {mg : Str → Option Value} {base : Heap} {k : Nat} {f : Addr} {name qual : Str} {params : Arguments} {body : List Stmt} {scope : Scope} {dV kV doc pm cdv ct oc : Value} {an od : Option Addr}
    {osl : Array (Option Value)} {N ps : List Str} {sp : Sp} (lk : K.lookup f = some ⟨oc, od, .func (PySem.W.fnOf name qual params body scope dV kV doc pm an cdv ct), osl⟩) (hcd : PySem.W.codeIn K cdv qual = true) (S : FnScope N ps scope)
    (len : ∀ vs H Q E, sp vs H Q E → vs.length = ps.length)
    (hbody : ∀ (A : Around) (outer : List Env) (s : Shared) (H : Hp) (vs : List V) (Q : VK) (E : XK), Room k (A.deeper (envOfC qual scope s.heap.objs.size f cdv)) → sp vs H Q E →
      ∃ t, PSs (cxOf CX P w K mg base N qual scope f cdv A outer s H E) body t ∧ t { nx := fun _ H' => Q .non H', rt := Q } (start N vs) H) :
    FnOk P w K mg base CX (k + 1) f (PySem.W.fnOf name qual params body scope dV kV doc pm an cdv ct) ps sp := by
  refine ⟨len, fun A outer s H args us vs Q E hr e0 hb r hsp => ?_⟩
  have hl := len _ _ _ _ hsp
  have KX : K.In s.heap := e0.mod.kin.keeps fun b o e => (e0.bs b o e).1
  have lim : s.heap.NoLimit := e0.mod.nolimit.keeps fun b o e => (e0.bs b o e).1
  have hkind : ∀ y ∈ ps.zip us, scope.names.lookup y.1 = some .local ∨ (scope.names.lookup y.1 = some .cell ∧ ((cellsFrom (s.heap.objs.size + 1) scope.names []).lookup y.1).isSome = true) := fun ⟨n, v⟩ hy => by
    rcases S.par n (List.of_mem_zip hy).1 with q | q
    · exact .inl q
    · exact .inr ⟨q, PySem.W.cellsFrom_some _ _ _ (.inl q)⟩
  refine codeAny_call_function hr.depth (KX _ _ lk) rfl S.co S.gen rfl (PySem.W.codeRec_of KX hcd) (hb _ _ _ _ ?_)
  refine wpAny_newFunctionEnv_cells S.kind hkind fun env he s1 x => ?_
  subst he
  refine ⟨lim.keeps x.toInCall.keep, codeAny_func ?_⟩
  obtain ⟨t, ht, hq⟩ := hbody A outer s H vs Q E (hr.deeper _) hsp
  have I : Inv (cxOf CX P w K mg base N qual scope f cdv A outer s H E) [] (start N vs) H s1 := inv_start S hr.hd e0 hl r x
  refine wpAny_mono (ht [] s1 (start N vs) H _ I hq) (fun fl s' hs => ?_) fun e s' hs => hs
  have fin : ∀ {σ' : St} {H' : Hp} {v : V} {u : Value}, Inv (cxOf CX P w K mg base N qual scope f cdv A outer s H E) [] σ' H' s' → RelV v u → Q v H' → CE outer P w H s Q u s' :=
    fun {σ' H' v u} J rv q => ⟨v, H', J.os, J.bare, J.base, J.hok, rv, q⟩
  cases fl with
  | ret u =>
    obtain ⟨v, σ', H', J, rv, q⟩ := hs
    exact fin J rv q
  | next =>
    obtain ⟨σ', H', J, q⟩ := hs
    exact fin (v := V.non) (u := Value.none) J rfl q
  | brk =>
    obtain ⟨_, _, _, q⟩ := hs
    exact False.elim q
  | cont =>
    obtain ⟨_, _, _, q⟩ := hs
    exact False.elim q
end L2
namespace L2
open PySem PySem.Spec PyProof.Rows
section
variable {X : Cx} {x : Str} {p pos : Pos} {e : Expr} {es : List Expr} {t : TA} {id T : String} {r : List V → Hp → VK → Prop}
def tCB (r : List V → Hp → VK → Prop) (t : TA) : TE := fun σ H Q => t σ H fun vs H1 => r vs H1 Q
theorem pe_callB (hc : CallR X (.builtin id) r) (hg : Gl X x) (hm : X.mg x = none) (hv : bootBuiltins x = some (.builtin id)) (ha : PA X (e :: es) t) (hn : x ≠ "__name__" := by decide) (hdb : (x == ("__debug__" : Str)) = false := by decide)
    (he : starEach (e :: es) X.env = (false, eval e X.env) :: starEach es X.env := by rfl) (hpl : (backTo pos (starEach es X.env)).any (·.1) = false := by rfl) : PE X (.Call (.Name x p) (e :: es) [] pos) (tCB r t) := by
  intro pins s σ H Q I h
  refine wpAny_Call_Name_kw (ld_blt I hg hm hv ?_ hn hdb)
  exact PyProof.Rows.callWith_builtin1 (thn (ha pos pins s σ H _ I h) fun us s1 ⟨vs, H1, I1, r1, q1⟩ => hc pins s1 σ H1 vs us Q I1 r1 q1) he hpl
theorem pe_callTy (hc : CallR X (.type T) r) (hg : Gl X x) (hm : X.mg x = none) (hv : bootBuiltins x = some (.type T)) (ha : PA X (e :: es) t) (hn : x ≠ "__name__" := by decide) (hdb : (x == ("__debug__" : Str)) = false := by decide)
    (he : starEach (e :: es) X.env = (false, eval e X.env) :: starEach es X.env := by rfl) (hpl : (backTo pos (starEach es X.env)).any (·.1) = false := by rfl) : PE X (.Call (.Name x p) (e :: es) [] pos) (tCB r t) := by
  intro pins s σ H Q I h
  refine wpAny_Call_Name_kw (ld_blt I hg hm hv ?_ hn hdb)
  exact PyProof.Rows.callWith_type1 (thn (ha pos pins s σ H _ I h) fun us s1 ⟨vs, H1, I1, r1, q1⟩ => hc pins s1 σ H1 vs us Q I1 r1 q1) he hpl
end
end L2
namespace HT
open PySem PyProof.Rows
theorem eqAt_int (A : Around) (s : Shared) (a : Int) (t : Tok) (c : Int) (u : Tok) : ∃ e, SeqAt.EqAt A s (.int a t) (.int c u) e ∧ (e = true ↔ a = c) :=
  ⟨(a == c), SeqAt.EqAt.int_int a t c u, by simp⟩
section
open PySem.SeqAt
open PySem.AutoSeq1 (wpAny_loadPart')
open PySem.MeetsSeq PySem.MeetsSeq2 PySem.MeetsSeq3
end
section
variable {prog : Program} {w : World} {A : Around} {E : Value → Shared → Prop} {s : Shared}
def sIx (n d : Nat) : Option Int → Nat
  | none => d
  | some v => if v < 0 then (v + (n : Int)).toNat else min v.toNat n
theorem sIx_none (n d : Nat) : sIx n d none = d := rfl
theorem sIx_nat (n d k : Nat) : sIx n d (some (k : Int)) = min k n := by
  show (if (k : Int) < 0 then ((k : Int) + (n : Int)).toNat else min (k : Int).toNat n) = min k n
  rw [if_neg (by omega), Int.toNat_natCast]
end
end HT
namespace L2
open PySem PySem.Spec PyProof.Rows
abbrev TO := St → Hp → (Option Int → Hp → Prop) → Prop
def PO (X : Cx) (e : Option Expr) (t : TO) : Prop :=
  ∀ (pins : List (Addr × Obj)) (s : Shared) (σ : St) (H : Hp) (Q : Option Int → Hp → Prop), Inv X pins σ H s → t σ H Q →
    wpAny (model X.prog X.w) X.A (evalPart e X.env) (fun u s' => ∃ o H', Inv X pins σ H' s' ∧ IsPart u o ∧ Q o H') X.xe s
def tNoPart : TO := fun _ H Q => Q none H
def tPart (t : TE) : TO := fun σ H Q => t σ H fun x H1 => ∃ i, x = .int i ∧ Q (some i) H1
theorem intsAre_of {ns : List Int} : ∀ {us : List Value}, Vals (ns.map V.int) us → IntsAre us ns := by
  induction ns with
  | nil => intro us r; rw [List.map_nil] at r; cases r; exact .nil
  | cons n ns ih =>
    intro us r
    rw [List.map_cons] at r
    cases r with
    | cons r1 r2 =>
      obtain ⟨t, e⟩ := r1
      subst e
      exact .cons n t (ih r2)
section
variable {X : Cx} {e : Expr} {te : TE} {lo hi : Option Expr} {tl th : TO} {pos p2 : Pos}
theorem po_none : PO X none tNoPart := by
  intro pins s σ H Q I h
  rw [evalPart_none]
  exact wpAny_pure ⟨none, H, I, .none, h⟩
theorem po_some (h : PE X e te) : PO X (some e) (tPart te) := by
  intro pins s σ H Q I hw
  rw [evalPart_some]
  refine thn (h pins s σ H _ I hw) fun u s1 ⟨x, H1, I1, r1, q1⟩ => ?_
  obtain ⟨i, rfl, q⟩ := q1
  obtain ⟨t, rfl⟩ := r1
  exact ⟨some i, H1, I1, .int i t, q⟩
def SlR (X : Cx) (r : V → Option Int → Option Int → Hp → VK → Prop) : Prop :=
  ∀ (pins : List (Addr × Obj)) (s : Shared) (σ : St) (H : Hp) (x : V) (v vl vu : Value) (lo hi : Option Int) (sl : Addr) (Q : VK), Inv X pins σ H s → RelV x v → s.heap.IsSliceOf sl vl vu .none → IsPart vl lo → IsPart vu hi → r x lo hi H Q →
    ∃ T id, typeLookup (.type T) "__getitem__" = pure (some (.builtin id)) ∧ s.TypeIs v T ∧ wpAny (model X.prog X.w) X.A (getItem v (.ref sl)) (EP X pins σ Q) X.xe s
def tSl (r : V → Option Int → Option Int → Hp → VK → Prop) (te : TE) (tl th : TO) : TE := fun σ H Q => te σ H fun x H1 => tl σ H1 fun l H2 => th σ H2 fun u H3 => r x l u H3 Q
theorem pe_slice {r : V → Option Int → Option Int → Hp → VK → Prop} (hr : SlR X r) (he : PE X e te) (hl : PO X lo tl) (hu : PO X hi th) : PE X (.Subscript e (.Slice lo hi none p2) pos) (tSl r te tl th) := by
  intro pins s σ H Q I h
  refine Subscript_ (thn (he pins s σ H _ I h) fun v s1 ⟨x, H1, I1, r1, q1⟩ => ?_)
  refine wpAny_Slice (thn (hl pins s1 σ H1 _ I1 q1) fun vl s2 ⟨l, H2, I2, pl, q2⟩ => thn (hu pins s2 σ H2 _ I2 q2) fun vu s3 ⟨u, H3, I3, pu, q3⟩ => ?_)
  rw [evalPart_none]
  refine wpAny_pure ?_
  have I4 : Inv X pins σ H3 { s3 with heap := s3.heap.push { cls := .type "slice", data := .fields #[vl, vu, .none] } } := I3.kept (t' := s3.toks) fun b ob q => Heap.get?_push_of_some _ q
  obtain ⟨T, id, hT, ht, hg⟩ := hr pins { s3 with heap := s3.heap.push { cls := .type "slice", data := .fields #[vl, vu, .none] } } σ H3 x v vl vu l u s3.heap.objs.size Q I4 r1 (Heap.IsSliceOf.new ..) pl pu q3
  show wpAny (model X.prog X.w) X.A (subscriptTail e (.Slice lo hi none p2) v (.ref s3.heap.objs.size)) (EP X pins σ Q) X.xe { s3 with heap := s3.heap.push { cls := .type "slice", data := .fields #[vl, vu, .none] } }
  exact tail_any (ops := [.ref s3.heap.objs.size, v]) ht hT hg (by with_unfolding_all rfl)
def cutV (xs : List V) (lo hi : Option Int) : List V := (xs.drop (HT.sIx xs.length 0 lo)).take (HT.sIx xs.length xs.length hi - HT.sIx xs.length 0 lo)
theorem cutV_length (xs : List V) (lo hi : Option Int) : (cutV xs lo hi).length ≤ xs.length := by
  unfold cutV
  rw [List.length_take, List.length_drop]
  omega
end
end L2
namespace L2
open PySem PySem.Spec PyProof.Rows
def ixN (n : Nat) (i : Int) : Option Nat := if 0 ≤ i then (if i < n then some i.toNat else none) else if -(n : Int) ≤ i then some (i + n).toNat else none
def atI {α : Type} (xs : List α) (i : Int) : Option α := (ixN xs.length i).bind fun j => xs[j]?
theorem ixN_seq {n : Nat} {i : Int} {j : Nat} (h : ixN n i = some j) : seqIndex? i n = some j ∧ j < n ∧ -(n : Int) ≤ i ∧ i < n := by
  unfold ixN at h
  by_cases h0 : 0 ≤ i
  · rw [if_pos h0] at h
    by_cases h1 : i < n
    · rw [if_pos h1] at h
      have e : i.toNat = j := Option.some.inj h
      exact ⟨by rw [seqIndex_of h0 h1, e], by omega, by omega, h1⟩
    · rw [if_neg h1] at h; cases h
  · rw [if_neg h0] at h
    by_cases h1 : -(n : Int) ≤ i
    · rw [if_pos h1] at h
      have e : (i + n).toNat = j := Option.some.inj h
      exact ⟨by rw [seqIndex_neg (by omega) h1, e], by omega, h1, by omega⟩
    · rw [if_neg h1] at h; cases h
theorem atI_get {α : Type} {xs : List α} {i : Int} {v : α} (h : atI xs i = some v) : ∃ j, seqIndex? i xs.length = some j ∧ xs[j]? = some v ∧ j < xs.length ∧ -(xs.length : Int) ≤ i ∧ i < xs.length := by
  unfold atI at h
  cases e : ixN xs.length i with
  | none => rw [e] at h; cases h
  | some j =>
    rw [e] at h
    obtain ⟨h1, h2, h3, h4⟩ := ixN_seq e
    exact ⟨j, h1, h, h2, h3, h4⟩
theorem atI_nat {α : Type} {xs : List α} {j : Nat} {v : α} (h : xs[j]? = some v) : atI xs (j : Int) = some v := by
  have hj : j < xs.length := (List.getElem?_eq_some_iff.mp h).1
  have e : ixN xs.length (j : Int) = some j := by
    unfold ixN
    rw [if_pos (by omega), if_pos (by omega)]; simp
  unfold atI; rw [e]; exact h
def PlainIx (b : Expr) : Prop := ∀ o i, subscripted b false o i = operate [o, i] (getItem o i)
def IxR (X : Cx) (r : R2) : Prop :=
  ∀ (value slice : Expr) (pins : List (Addr × Obj)) (s : Shared) (σ : St) (H : Hp) (x y : V) (v u : Value) (Q : VK), Inv X pins σ H s → RelV x v → RelV y u → r x y H Q →
    subscripted slice false v u = operate [v, u] (getItem v u) → wpAny (model X.prog X.w) X.A (subscriptTail value slice v u) (EP X pins σ Q) X.xe s
def MtR (X : Cx) (id : String) (r : V → List V → Hp → VK → Prop) : Prop :=
  ∀ (pins : List (Addr × Obj)) (s : Shared) (σ : St) (H : Hp) (x : V) (xs : List V) (v : Value) (us : List Value) (Q : VK), Inv X pins σ H s → RelV x v → Vals xs us → r x xs H Q →
    wpAny (model X.prog X.w) X.A (call (.builtin id) (v :: us)) (EP X pins σ Q) X.xe s
section
variable {X : Cx} {a b : Expr} {ta tb : TE} {pos : Pos}
theorem pe_ix {r : R2} (hr : IxR X r) (ha : PE X a ta) (hb : PE X b tb) (hs : PlainIx b) : PE X (.Subscript a b pos) (tOp r ta tb) := by
  intro pins s σ H Q I h
  exact Subscript_ (binT ha hb I h fun v u s2 x y H2 I2 rx ry q => hr a b pins s2 σ H2 x y v u Q I2 rx ry q (hs _ _))
def rIxL (K : PySem.W.Frag) : R2 := fun x y H Q => ∃ p xs i v, x = .ref p ∧ y = .int i ∧ SqL K H p xs ∧ atI xs i = some v ∧ Q v H
def rIxT (K : PySem.W.Frag) : R2 := fun x y H Q => ∃ p xs i v, x = .ref p ∧ y = .int i ∧ SqT K H p xs ∧ atI xs i = some v ∧ Q v H
def rIxS : R2 := fun x y H Q => ∃ z i c, x = .str z ∧ y = .int i ∧ z.length ≤ sizeLine ∧ atI z.cps.toList i = some c ∧ Q (.str ⟨#[c]⟩) H
theorem ix_list : IxR X (rIxL X.K) := by
  intro value slice pins s σ H x y v u Q I rx ry h hs
  obtain ⟨p, xs, i, z, rfl, rfl, hq, he, q⟩ := h
  cases rx
  obtain ⟨t, rfl⟩ := ry
  obtain ⟨its, r, pl, hz⟩ := I.list hq
  obtain ⟨j, h1, h2, h3, h4, h5⟩ := atI_get he
  obtain ⟨w, ew, rw'⟩ := r.get h2
  have hl := r.length
  have hn := line63
  have fin : EP X pins σ Q w s := ⟨z, H, I, rw', q⟩
  by_cases h0 : 0 ≤ i
  · have hj : i.toNat = j := by
      rw [seqIndex_of h0 h5] at h1
      exact Option.some.inj h1
    exact item_listR pl.isList h0 (by omega) (by rw [hj]; simpa using ew) fin hs
  · have hj : (i + (its.toArray.size : Int)).toNat = j := by
      rw [seqIndex_neg (by omega) h4] at h1
      rw [List.size_toArray, ← hl]
      exact Option.some.inj h1
    exact subscriptTail_builtinR (x := w) pl.isList.typeIs slot_list_getitem.lookup
      (wpAny_getItem_list_neg (Q := fun r s' => r = w ∧ EP X pins σ Q r s') pl.isList (by omega) (by rw [List.size_toArray] <;> omega) (by omega) (by rw [hj]; simpa using ew) ⟨rfl, fin⟩) hs
theorem ix_tup : IxR X (rIxT X.K) := by
  intro value slice pins s σ H x y v u Q I rx ry h hs
  obtain ⟨p, xs, i, z, rfl, rfl, hq, he, q⟩ := h
  cases rx
  obtain ⟨t, rfl⟩ := ry
  obtain ⟨its, r, pl, hz⟩ := I.tuple hq
  obtain ⟨j, h1, h2, h3, h4, h5⟩ := atI_get he
  obtain ⟨w, ew, rw'⟩ := r.get h2
  have hl := r.length
  have hn := line63
  have fin : EP X pins σ Q w s := ⟨z, H, I, rw', q⟩
  exact subscriptTail_builtinR (x := w) pl.typeIs slot_tuple_getitem.lookup
    (getItem_tuple (j := j) (Q := fun r s' => r = w ∧ EP X pins σ Q r s') pl (by omega) (by omega) (by rw [List.size_toArray, ← hl]; exact h1) (by simpa using ew) ⟨rfl, fin⟩) hs
theorem ix_str : IxR X rIxS := by
  intro value slice pins s σ H x y v u Q I rx ry h hs
  obtain ⟨z, i, c, rfl, rfl, hz, he, q⟩ := h
  obtain ⟨t, rfl⟩ := rx
  obtain ⟨t', rfl⟩ := ry
  obtain ⟨j, h1, h2, h3, h4, h5⟩ := atI_get he
  have hl : z.cps.toList.length = z.length := by simp [Str.length]
  rw [hl] at h1 h4 h5
  have hn := line63
  exact tail_any (typeIs_str s z t) slot_str_getitem.lookup (getItem_str (c := c) (by
    have e1 : decide (i < -(2 ^ 63 : Int)) = false := decide_eq_false (by omega)
    have e2 : decide (i ≥ 2 ^ 63) = false := decide_eq_false (by omega)
    rw [e1, e2, Bool.or_false]) (by rw [h1]; simpa using h2) ⟨.str ⟨#[c]⟩, H, I.tok _, ⟨_, rfl⟩, q⟩) hs
theorem mapSeq_set (its : List Value) (n j : Nat) (u : Value) : Obj.mapSeq (·.setIfInBounds j u) { cls := .type "list", data := .seq its.toArray n } = { cls := .type "list", data := .seq (its.set j u).toArray n } := by
  simp [Obj.mapSeq]
theorem Inv.lst {pins : List (Addr × Obj)} {σ : St} {H : Hp} {s : Shared} {p : Addr} {xs : List V} (I : Inv X pins σ H s) (h : H p = some (.lst xs)) :
    ∃ (its : List Value) (n : Nat), Vals xs its ∧ s.heap.get? p = some { cls := .type "list", data := .seq its.toArray n } ∧ xs.length ≤ sizeLine := by
  obtain ⟨z, its, n, r, e⟩ := I.hok p _ h
  exact ⟨its, n, r, e, z⟩
theorem Inv.lstUpd {pins : List (Addr × Obj)} {σ : St} {H : Hp} {s : Shared} {p : Addr} {xs ys : List V} {its its' : List Value} {n n' : Nat} {f : Obj → Obj} (I : Inv X pins σ H s) (h : H p = some (.lst xs))
    (ho : s.heap.get? p = some { cls := .type "list", data := .seq its.toArray n }) (hf : f { cls := .type "list", data := .seq its.toArray n } = { cls := .type "list", data := .seq its'.toArray n' }) (r : Vals ys its') (hz : ys.length ≤ sizeLine) (t : Nat) :
    Inv X pins σ (upd H p (.lst ys)) { s with heap := s.heap.update p f, toks := t } := by
  have e : (s.heap.update p f).get? p = some { cls := .type "list", data := .seq its'.toArray n' } := by
    rw [Heap.get?_update_self f ho (by rw [hf] <;> rfl), hf]
  refine I.write (x := p) (e := p) (by rw [h]; trivial) (.inl rfl) (fun b u hb q => (Heap.get?_update_other _ _ (Ne.symm hb)).trans q) ⟨_, e⟩ ?_
  exact ⟨hz, its', n', r, e⟩
def rSetL : V → V → V → Hp → (Hp → Prop) → Prop := fun o i v H Q => ∃ p xs k j, o = .ref p ∧ i = .int k ∧ H p = some (.lst xs) ∧ ixN xs.length k = some j ∧ Q (upd H p (.lst (xs.set j v)))
theorem set_list : PSet X rSetL := by
  intro pins s σ H o i v ov iv u Q I ro ri rv h
  obtain ⟨p, xs, k, j, rfl, rfl, hp, hj, q⟩ := h
  cases ro
  obtain ⟨t, rfl⟩ := ri
  obtain ⟨its, n, r, ho, hz⟩ := I.lst hp
  obtain ⟨h1, h2, h3, h4⟩ := ixN_seq hj
  have hl := r.length
  have hn := line63
  have I' : Inv X pins σ (upd H p (.lst (xs.set j v))) { s with heap := s.heap.update p (Obj.mapSeq (·.setIfInBounds j u)) } :=
    I.lstUpd hp ho (mapSeq_set its n j u) (r.set rv j) (by rw [List.length_set]; exact hz) s.toks
  by_cases h0 : 0 ≤ k
  · have hk : k.toNat = j := by
      rw [seqIndex_of h0 h4] at h1
      exact Option.some.inj h1
    exact PySem.W.ki_setAt ho h0 (by omega) (by rw [List.size_toArray, ← hl]; exact h4) (by rw [hk]; exact ⟨_, I', q⟩)
  · have hk : (k + (its.toArray.size : Int)).toNat = j := by
      rw [seqIndex_neg (by omega) h3] at h1
      rw [List.size_toArray, ← hl]
      exact Option.some.inj h1
    exact PySem.W.ki_setBack ho (by omega) (by rw [List.size_toArray, ← hl]; exact h3) (by omega) (by rw [hk]; exact ⟨_, I', q⟩)
theorem slice_bounds (lo hi : Option Int) (n : Nat) : (sliceBounds lo hi none n).1 = ((HT.sIx n 0 lo : Nat) : Int) ∧ (sliceBounds lo hi none n).2.1 = ((HT.sIx n n hi : Nat) : Int) ∧ (sliceBounds lo hi none n).2.2 = 1 := by
  refine ⟨?_, ?_, rfl⟩
  · cases lo with
    | none => simp [sliceBounds, HT.sIx]
    | some i =>
      simp only [sliceBounds, HT.sIx, Option.getD_none, show (1 : Int) > 0 by decide, if_true]
      by_cases h : i < 0
      · simp only [h, if_true] <;> omega
      · simp only [h, if_false] <;> omega
  · cases hi with
    | none => simp [sliceBounds, HT.sIx]
    | some i =>
      simp only [sliceBounds, HT.sIx, Option.getD_none, show (1 : Int) > 0 by decide, if_true]
      by_cases h : i < 0
      · simp only [h, if_true] <;> omega
      · simp only [h, if_false] <;> omega
theorem slicePick_cut (its : List Value) (lo hi : Option Int) : slicePick its.toArray lo hi none = ((its.drop (HT.sIx its.length 0 lo)).take (HT.sIx its.length its.length hi - HT.sIx its.length 0 lo)).toArray := by
  obtain ⟨h1, h2, h3⟩ := slice_bounds lo hi its.toArray.size
  unfold slicePick
  rw [h1, h2, h3]
  simp only [sliceRange_one, pick_run, List.size_toArray] <;> rfl
def rSlL (K : PySem.W.Frag) : V → Option Int → Option Int → Hp → VK → Prop := fun x lo hi H Q => ∃ a xs, x = .ref a ∧ SqL K H a xs ∧ ∀ p, H p = none → Q (.ref p) (upd H p (.lst (cutV xs lo hi)))
theorem sl_list : SlR X (rSlL X.K) := by
  intro pins s σ H x v vl vu lo hi sl Q I rx hs pl pu h
  obtain ⟨a, xs, rfl, hx, q⟩ := h
  cases rx
  obtain ⟨its, r, ht, hz⟩ := I.list hx
  have hlen := r.length
  refine ⟨"list", _, slot_list_getitem.lookup, ht.isList.typeIs, ?_⟩
  refine wpAny_getItem_list_slice ht.isList hs pl pu .none (by simp) ?_ (by rw [List.size_toArray] <;> omega)
  rw [slicePick_cut, ← hlen]
  refine ⟨.ref s.heap.objs.size, _, I.laid (t' := s.toks) (o := .lst (cutV xs lo hi)) (fun b ob q => Heap.get?_push_of_some _ q) (Nat.le_refl _) ?_, rfl, q _ (I.hok.fresh (Nat.le_refl _))⟩
  exact ⟨Nat.le_trans (cutV_length xs lo hi) hz, _, 0, (r.drop (HT.sIx xs.length 0 lo)).take (HT.sIx xs.length xs.length hi - HT.sIx xs.length 0 lo), Heap.get?_push_size _ rfl⟩
def flatV : V → Bool
  | .non => true
  | .bl _ => true
  | .int _ => true
  | .str _ => true
  | _ => false
def eqV : V → V → Bool
  | .non, .non => true
  | .bl a, .bl b => a == b
  | .bl a, .int b => (if a then 1 else 0) == b
  | .int a, .bl b => a == (if b then 1 else 0)
  | .int a, .int b => a == b
  | .str a, .str b => a == b
  | _, _ => false
theorem eqAt_V {A : Around} {s : Shared} {y x : V} {u v : Value} (ry : RelV y u) (rx : RelV x v) (fy : flatV y = true) (fx : flatV x = true) : SeqAt.EqAt A s u v (eqV y x) := by
  cases y with
  | non =>
    cases ry
    cases x with
    | non => cases rx; exact SeqAt.EqAt.same _
    | bl b => cases rx; exact SeqAt.EqAt.none_bool b
    | int b => obtain ⟨t, rfl⟩ := rx; exact SeqAt.EqAt.none_int b t
    | str b => obtain ⟨t, rfl⟩ := rx; exact SeqAt.EqAt.none_str b t
    | _ => exact absurd (show false = true from fx) Bool.false_ne_true
  | bl a =>
    cases ry
    cases x with
    | non => cases rx; exact SeqAt.EqAt.bool_none a
    | bl b => cases rx; exact SeqAt.EqAt.bool_bool a b
    | int b => obtain ⟨t, rfl⟩ := rx; exact SeqAt.EqAt.bool_int a b t
    | str b => obtain ⟨t, rfl⟩ := rx; exact SeqAt.EqAt.bool_str a b t
    | _ => exact absurd (show false = true from fx) Bool.false_ne_true
  | int a =>
    obtain ⟨t', rfl⟩ := ry
    cases x with
    | non => cases rx; exact SeqAt.EqAt.int_none a t'
    | bl b => cases rx; exact SeqAt.EqAt.int_bool a t' b
    | int b => obtain ⟨t, rfl⟩ := rx; exact SeqAt.EqAt.int_int a t' b t
    | str b => obtain ⟨t, rfl⟩ := rx; exact SeqAt.EqAt.int_str a t' b t
    | _ => exact absurd (show false = true from fx) Bool.false_ne_true
  | str a =>
    obtain ⟨t', rfl⟩ := ry
    cases x with
    | non => cases rx; exact SeqAt.EqAt.str_none a t'
    | bl b => cases rx; exact SeqAt.EqAt.str_bool a t' b
    | int b => obtain ⟨t, rfl⟩ := rx; exact SeqAt.EqAt.str_int a t' b t
    | str b => obtain ⟨t, rfl⟩ := rx; exact SeqAt.EqAt.str_str a t' b t
    | _ => exact absurd (show false = true from fx) Bool.false_ne_true
  | _ => exact absurd (show false = true from fy) Bool.false_ne_true
def eqU (x : V) (u : Value) : Bool := match u with
  | .none => eqV .non x
  | .bool b => eqV (.bl b) x
  | .int i _ => eqV (.int i) x
  | .str z _ => eqV (.str z) x
  | _ => false
theorem eqU_of {x y : V} {u : Value} (r : RelV y u) (f : flatV y = true) : eqU x u = eqV y x := by
  cases y with
  | non => cases r; rfl
  | bl b => cases r; rfl
  | int i => obtain ⟨t, rfl⟩ := r; rfl
  | str z => obtain ⟨t, rfl⟩ := r; rfl
  | _ => exact absurd (show false = true from f) Bool.false_ne_true
theorem any_eqU {x : V} : ∀ {xs : List V} {us : List Value}, Vals xs us → xs.all flatV = true → us.any (eqU x) = xs.any fun y => eqV y x
  | _, _, .nil, _ => rfl
  | y :: xs, u :: us, .cons r t, f => by
    rw [List.all_cons, Bool.and_eq_true] at f
    rw [List.any_cons, List.any_cons, eqU_of r f.1, any_eqU t f.2]
theorem mem_eqAt {A : Around} {s : Shared} {x : V} {v : Value} (rx : RelV x v) (fx : flatV x = true) : ∀ {xs : List V} {us : List Value}, Vals xs us → xs.all flatV = true → ∀ u ∈ us, SeqAt.EqAt A s u v (eqU x u)
  | _, _, .nil, _ => fun u hu => by cases hu
  | y :: xs, u :: us, .cons r t, f => fun u' hu => by
    rw [List.all_cons, Bool.and_eq_true] at f
    rcases List.mem_cons.mp hu with rfl | hu
    · rw [eqU_of r f.1]; exact eqAt_V r rx f.1 fx
    · exact mem_eqAt rx fx t f.2 u' hu
def inV (x : V) (xs : List V) : Bool := xs.any fun y => eqV y x
def rIn (K : PySem.W.Frag) (neg : Bool) : R2 := fun x y H Q => ∃ p xs, y = .ref p ∧ (SqL K H p xs ∨ SqT K H p xs) ∧ flatV x = true ∧ xs.all flatV = true ∧ Q (.bl (if neg then !inV x xs else inV x xs)) H
theorem op_in_seq : OpR X (compareOp .In) (rIn X.K false) := by
  intro pins s σ H x y v u Q I rx ry h
  obtain ⟨p, xs, rfl, hq, fx, fs, q⟩ := h
  cases ry
  rcases hq with hq | hq
  · obtain ⟨its, r, pl, hz⟩ := I.list hq
    refine SeqAt.in_listAt (eqU x) pl.isList (fun w hw => mem_eqAt rx fx r fs w (by simpa using hw)) ⟨.bl _, H, I, rfl, ?_⟩
    rw [show its.toArray.any (eqU x) = its.any (eqU x) by simp, any_eqU r fs]
    exact q
  · obtain ⟨its, r, pl, hz⟩ := I.tuple hq
    refine SeqAt.in_tupleAt (eqU x) pl (fun w hw => mem_eqAt rx fx r fs w (by simpa using hw)) ⟨.bl _, H, I, rfl, ?_⟩
    rw [show its.toArray.any (eqU x) = its.any (eqU x) by simp, any_eqU r fs]
    exact q
theorem call_len_seq : CallR X (.builtin "len") (fun xs H Q => ∃ p ys, xs = [.ref p] ∧ (SqL X.K H p ys ∨ SqT X.K H p ys) ∧ Q (.int ys.length) H) := by
  intro pins s σ H xs us Q I r h
  obtain ⟨p, ys, rfl, hq, q⟩ := h
  obtain ⟨u, rfl, rx⟩ := vals1 r
  cases rx
  have hn := line63
  rcases hq with hq | hq
  · obtain ⟨its, r', pl, hz⟩ := I.list hq
    have hlen := r'.length
    exact Calls.call_len_list pl.isList (by simp only [List.size_toArray] <;> omega) ⟨.int ys.length, H, I.tok _, ⟨s.toks + 1, by rw [List.size_toArray, hlen]⟩, q⟩
  · obtain ⟨its, r', pl, hz⟩ := I.tuple hq
    have hlen := r'.length
    exact len_tuple pl (by simp only [List.size_toArray] <;> omega) ⟨.int ys.length, H, I.tok _, ⟨s.toks + 1, by rw [List.size_toArray, hlen]⟩, q⟩
theorem call_len_str : CallR X (.builtin "len") (fun xs H Q => ∃ z, xs = [.str z] ∧ z.length ≤ sizeLine ∧ Q (.int z.length) H) := by
  intro pins s σ H xs us Q I r h
  obtain ⟨z, rfl, hz, q⟩ := h
  obtain ⟨u, rfl, t, rfl⟩ := vals1 r
  have hn := line63
  exact len_str (by omega) ⟨.int z.length, H, I.tok _, ⟨_, rfl⟩, q⟩
theorem call_list_of : CallR X (.type "list") (fun xs H Q => ∃ p ys, xs = [.ref p] ∧ (SqL X.K H p ys ∨ SqT X.K H p ys) ∧ ∀ l, H l = none → Q (.ref l) (upd H l (.lst ys))) := by
  intro pins s σ H xs us Q I r h
  obtain ⟨p, ys, rfl, hq, q⟩ := h
  obtain ⟨u, rfl, rx⟩ := vals1 r
  cases rx
  have fin : ∀ (its : List Value), Vals ys its → ys.length ≤ sizeLine → ∀ (h' : Heap) (c' : Nat), (∀ b o', s.heap.get? b = some o' → h'.get? b = some o') →
      h'.get? s.heap.objs.size = some { cls := .type "list", dict := none, data := .seq its.toArray c', slots := #[] } → EP X pins σ Q (.ref s.heap.objs.size) { s with heap := h' } := fun its r' hz h' c' kp e =>
    ⟨.ref s.heap.objs.size, _, I.laid (t' := s.toks) kp (Nat.le_refl _) (show ObjOk X.prog X.w _ h' _ (.lst ys) from ⟨hz, its, c', r', e⟩), rfl, q _ (I.hok.fresh (Nat.le_refl _))⟩
  rcases hq with hq | hq
  · obtain ⟨its, r', pl, hz⟩ := I.list hq
    have hlen := r'.length
    obtain ⟨o, ho, hc, n, hd⟩ := pl.isList
    exact call_list_seq p (.inl rfl) ho hc hd (fun h' c' kp e => fin its r' hz h' c' kp e) (by simp only [List.size_toArray] <;> omega)
  · obtain ⟨its, r', pl, hz⟩ := I.tuple hq
    have hlen := r'.length
    obtain ⟨o, ho, hc, n, hd⟩ := pl
    exact call_list_seq p (.inr rfl) ho hc hd (fun h' c' kp e => fin its r' hz h' c' kp e) (by simp only [List.size_toArray] <;> omega)
def tyV (K : PySem.W.Frag) (T : String) (x : V) (H : Hp) : Prop := match x with
  | .str _ => T = "str"
  | .int _ => T = "int"
  | .ref p => (T = "list" ∧ ∃ xs, SqL K H p xs) ∨ (T = "tuple" ∧ ∃ o, K.lookup p = some o ∧ o.cls = .type "tuple" ∧ o.dict = none) ∨
      (T = "dict" ∧ ((∃ kvs, H p = some (.dK kvs)) ∨ ∃ kvs, H p = some (.dT kvs))) ∨ (T = "set" ∧ ∃ S n, H p = some (.set S n))
  | _ => False
theorem tyV_is {pins : List (Addr × Obj)} {σ : St} {H : Hp} {s : Shared} {T : String} {x : V} {v : Value} (I : Inv X pins σ H s) (r : RelV x v) (ty : tyV X.K T x H) :
    s.TypeIs v T ∧ ∀ a, v = .ref a → ∃ ob, s.heap.get? a = some ob ∧ ob.dict = none := by
  cases x with
  | str z =>
    obtain ⟨t, rfl⟩ := r
    cases (show T = "str" from ty)
    exact ⟨typeIs_str s z t, fun _ e => nomatch e⟩
  | int i =>
    obtain ⟨t, rfl⟩ := r
    cases (show T = "int" from ty)
    exact ⟨typeIs_int s i t, fun _ e => nomatch e⟩
  | ref p =>
    cases r
    rcases ty with ⟨rfl, xs, hq⟩ | ⟨rfl, o, hk, hc, hd⟩ | ⟨rfl, hk⟩ | ⟨rfl, S, n, hk⟩
    · obtain ⟨its, _, pl, _⟩ := I.list hq
      refine ⟨pl.isList.typeIs, fun a e => ?_⟩
      cases e
      obtain ⟨o, n, e, c, hd, _⟩ := pl
      exact ⟨o, e, hd⟩
    · refine ⟨⟨o, I.kIn p o hk, hc⟩, fun a e => ?_⟩
      cases e
      exact ⟨o, I.kIn _ o hk, hd⟩
    · have z : ∃ o, s.heap.get? p = some o ∧ o.ExactDict := by
        rcases hk with ⟨kvs, hk⟩ | ⟨kvs, hk⟩
        · obtain ⟨_, _, _, _, o, _, _, e, ex, _⟩ := I.hok p _ hk
          exact ⟨o, e, ex⟩
        · obtain ⟨_, _, _, _, o, _, _, e, ex, _⟩ := I.hok p _ hk
          exact ⟨o, e, ex⟩
      obtain ⟨o, e, ex⟩ := z
      refine ⟨⟨o, e, ex.1⟩, fun a e2 => ?_⟩
      cases e2
      exact ⟨o, e, ex.2.1⟩
    · obtain ⟨o, _, _, _, e, ex, _⟩ := I.hok p _ hk
      refine ⟨⟨o, e, ex.1⟩, fun a e2 => ?_⟩
      cases e2
      exact ⟨o, e, ex.2.1⟩
  | _ => exact False.elim ty
def tBM (K : PySem.W.Frag) (T : String) (r : V → List V → Hp → VK → Prop) (to : TE) (t : TA) : TE := fun σ H Q => to σ H fun x H1 => tyV K T x H1 ∧ t σ H1 fun xs H2 => r x xs H2 Q
variable {o e : Expr} {es : List Expr} {to : TE} {t : TA} {name : Str} {apos cpos : Pos} {T id : String} {r : V → List V → Hp → VK → Prop}
theorem pe_bm (pa : PlainAttrs T) (slot : Slot T name id) (hty : typeOf (.builtin id) = pure (.type "method_descriptor")) (hm : MtR X id r) (ho : PE X o to) (ha : PA X (e :: es) t)
    (hbase : attributeBase o name X.env (eval o X.env) = eval o X.env := by rfl)
    (hfew : ((backTo cpos (starEach (e :: es) X.env)).all (fun x => !x.1) && (backToKw cpos (keywordEach [] X.env)).all (fun x => x.1.isSome)
      && decide ((e :: es).length + ([] : List Keyword).length + (if ([] : List Keyword).isEmpty then 0 else 1) < 30)) = true := by rfl)
    (hline : (apos.endLine == cpos.line) = true := by rfl) (hs : starEach (e :: es) X.env = (false, eval e X.env) :: starEach es X.env := by rfl) (hplain : (backTo cpos (starEach es X.env)).any (·.1) = false := by rfl) :
    PE X (.Call (.Attribute o name apos) (e :: es) [] cpos) (tBM X.K T r to t) := by
  intro pins s σ H Q I h
  refine wpAny_Call_method_late hbase hfew hline rfl (thn (ho pins s σ H _ I h) fun v s1 ⟨x, H1, I1, r1, ty, q1⟩ => ?_)
  obtain ⟨h1, h2⟩ := tyV_is I1 r1 ty
  refine ⟨T, id, pa, slot, hty, h1, h2, ?_⟩
  have hA := ha cpos pins s1 σ H1 _ I1 q1
  rw [hs] at hA ⊢
  refine Calls.callWith_builtin (by show (false || (backTo cpos (starEach es X.env)).any (·.1)) = false; rw [hplain] <;> rfl) (Calls.evalArgs_plain ?_)
  exact thn hA fun us s2 ⟨vs, H2, I2, r2, q2⟩ => hm pins s2 σ H2 x vs v us Q I2 r1 r2 q2
/- xs.append(e), list.index on a module's tuple .. are MtR facts of 06m -/
end
end L2
namespace L2
open PySem PySem.Spec PyProof.Rows
def MtM (X : Cx) (id : String) (r : V → List V → Hp → VK → Prop) : Prop :=
  ∀ (pins : List (Addr × Obj)) (s : Shared) (σ : St) (H : Hp) (x : V) (xs : List V) (v : Value) (us : List Value) (Q : VK), Inv X pins σ H s → RelV x v → Vals xs us → r x xs H Q →
    wpAny (model X.prog X.w) X.A (call (.builtin id) (v :: us)) (EP X pins σ Q) X.xe s
theorem Vals.one : ∀ {x : V} {us : List Value}, Vals [x] us → ∃ u, us = [u] ∧ RelV x u
  | _, _, .cons r .nil => ⟨_, rfl, r⟩
theorem Vals.rep {xs : List V} {us : List Value} (h : Vals xs us) : ∀ k : Nat, Vals (List.replicate k xs).flatten (List.replicate k us).flatten
  | 0 => .nil
  | k + 1 => by
    rw [List.replicate_succ, List.replicate_succ, List.flatten_cons, List.flatten_cons]
    exact Vals.append h (Vals.rep h k)
theorem foldl_rep (its : List Value) : ∀ (k : Nat) (acc : List Value),
    List.foldl (fun x1 x2 => x1 ++ x2) acc.toArray (List.replicate k its.toArray) = (acc ++ (List.replicate k its).flatten).toArray
  | 0, acc => by simp
  | k + 1, acc => by
    have e : acc.toArray ++ its.toArray = (acc ++ its).toArray := by simp
    have e2 : (acc ++ its) ++ (List.replicate k its).flatten = acc ++ (List.replicate (k + 1) its).flatten := by
      rw [List.replicate_succ, List.flatten_cons, List.append_assoc]
    rw [← e2, ← foldl_rep its k (acc ++ its), ← e, List.replicate_succ, List.foldl_cons]
section
variable {X : Cx} {pins : List (Addr × Obj)} {σ : St} {H : Hp} {s : Shared} {l b : Addr} {xs ys zs : List V}
theorem Inv.lset {its its' : List Value} {n : Nat} {f : Array Value → Array Value} {t' : Nat} (I : Inv X pins σ H s) (hH : H l = some (.lst xs))
    (e : s.heap.get? l = some { cls := .type "list", data := .seq its.toArray n }) (hf : f its.toArray = its'.toArray) (hv : Vals ys its') (hz : ys.length ≤ sizeLine) :
    Inv X pins σ (upd H l (.lst ys)) { s with heap := s.heap.update l (Obj.mapSeq f), toks := t' } := by
  have q := PySem.IsL.update e f
  rw [hf] at q
  refine I.write (x := l) (e := l) (by rw [hH]; exact trivial) (.inl rfl) (fun b' u hb hu => (Heap.get?_update_other s.heap (Obj.mapSeq f) (Ne.symm hb)).trans hu) ⟨_, q⟩ ?_
  exact ⟨hz, its', _, hv, q⟩
theorem Inv.lnew {its : List Value} {t' : Nat} (I : Inv X pins σ H s) (hv : Vals ys its) (hz : ys.length ≤ sizeLine) :
    Inv X pins σ (upd H s.heap.objs.size (.lst ys)) { s with heap := s.heap.push { cls := .type "list", data := .seq its.toArray }, toks := t' } :=
  I.laid (fun _ _ q => Heap.get?_push_of_some _ q) (Nat.le_refl _) ⟨hz, its, 0, hv, Heap.get?_push_size _ rfl⟩
theorem Inv.fresh (I : Inv X pins σ H s) : H s.heap.objs.size = none := I.hok.fresh (Nat.le_refl _)
theorem Inv.lstM (I : Inv X pins σ H s) (hH : H l = some (.lst xs)) : xs.length ≤ sizeLine ∧ ∃ (its : List Value) (n : Nat), Vals xs its ∧ xs.length = its.length ∧ s.heap.get? l = some { cls := .type "list", data := .seq its.toArray n } := by
  obtain ⟨z, its, n, r, e⟩ := I.hok l _ hH
  exact ⟨z, its, n, r, r.length, e⟩
theorem notLongL {n : Nat} (h : n ≤ sizeLine) : Builtin.List.listTooLong n = false := by
  unfold Builtin.List.listTooLong
  exact decide_eq_false (by omega)
end
section
variable {X : Cx}
def rAppend : V → List V → Hp → VK → Prop := fun x vs H Q => ∃ l xs y, x = .ref l ∧ vs = [y] ∧ H l = some (.lst xs) ∧ xs.length < sizeLine ∧ Q .non (upd H l (.lst (xs ++ [y])))
theorem mt_append : MtM X "list.append" rAppend := by
  intro pins s σ H x vs v us Q I rx rv h
  obtain ⟨l, xs, y, rfl, rfl, hH, hz, q⟩ := h
  cases rx
  obtain ⟨u, rfl, ru⟩ := rv.one
  obtain ⟨z, its, n, r, hl, e⟩ := I.lstM hH
  refine call_meets F.slot_list_append ⟨_, e, rfl⟩ F.entry_list_append (F.args_list_append_2 _ _) (PySem.list_append l its.toArray n u (by rw [List.size_toArray]; omega)) ⟨e, ?_⟩
  refine ⟨.non, _, I.lset (its' := its ++ [u]) hH e (by simp) (r.append (.cons ru .nil)) ?_, rfl, q⟩
  rw [List.length_append, List.length_singleton]
  omega
def rExtend : V → List V → Hp → VK → Prop := fun x vs H Q => ∃ l b xs zs, x = .ref l ∧ vs = [.ref b] ∧ H l = some (.lst xs) ∧ H b = some (.lst zs) ∧ xs.length + zs.length ≤ sizeLine ∧ Q .non (upd H l (.lst (xs ++ zs)))
theorem mt_extend : MtM X "list.extend" rExtend := by
  intro pins s σ H x vs v us Q I rx rv h
  obtain ⟨l, b, xs, zs, rfl, rfl, hH, hB, hz, q⟩ := h
  cases rx
  obtain ⟨u, rfl, ru⟩ := rv.one
  cases ru
  obtain ⟨z, its, n, r, hl, e⟩ := I.lstM hH
  obtain ⟨z2, its2, n2, r2, hl2, e2⟩ := I.lstM hB
  have hsz : its.toArray.size + its2.toArray.size ≤ sizeLine := by rw [List.size_toArray, List.size_toArray]; omega
  have hlong : ¬ (!its.toArray.isEmpty && Builtin.List.listTooLong (its.toArray.size + its2.toArray.size)) = true := by
    rw [notLongL hsz, Bool.and_false]
    exact Bool.false_ne_true
  refine call_meets F.slot_list_extend ⟨_, e, rfl⟩ F.entry_list_extend (F.args_list_extend_2 _ _)
    (AutoSeq1.list_extend_list_list_0 l its.toArray n b its2.toArray n2 hlong (by rw [List.size_toArray]; omega) (by omega)) ⟨e, e2, ?_⟩
  refine ⟨.non, _, I.lset (its' := its ++ its2) hH e (by simp) (r.append r2) ?_, rfl, q⟩
  rw [List.length_append]
  omega
def rRep : R2 := fun x y H Q => ∃ l k xs, x = .ref l ∧ y = .int k ∧ H l = some (.lst xs) ∧ -(2 ^ 63) ≤ k ∧ k < 2 ^ 63 ∧ xs.length * k.toNat ≤ sizeLine ∧
  ∀ p, H p = none → Q (.ref p) (upd H p (.lst (List.replicate k.toNat xs).flatten))
theorem len_rep {α : Type} (xs : List α) (k : Nat) : (List.replicate k xs).flatten.length = k * xs.length := by
  induction k with
  | zero => simp
  | succ k ih => rw [List.replicate_succ, List.flatten_cons, List.length_append, ih, Nat.succ_mul, Nat.add_comm]
theorem op_rep : OpR X (binaryOp .Mult) rRep := by
  intro pins s σ H x y v u Q I rx ry h
  obtain ⟨l, k, xs, rfl, rfl, hH, h1, h2, hz, q⟩ := h
  cases rx
  obtain ⟨t, rfl⟩ := ry
  obtain ⟨z, its, n, r, hl, e⟩ := I.lstM hH
  have hlen : its.toArray.size * k.toNat ≤ sizeLine := by rw [List.size_toArray, ← hl]; exact hz
  have hcap : ¬ its.toArray.size * k.toNat > (2 ^ 63 - 1) / 8 := by
    have : (sizeLine : Nat) ≤ (2 ^ 63 - 1) / 8 := by decide
    omega
  have hfit : ¬ (!Builtin.List.listFitsIndex k) = true := by
    rw [fitsIndex_both h1 h2]
    exact Bool.false_ne_true
  have hlong : ¬ Builtin.List.listTooLong (its.toArray.size * k.toNat) = true := by
    rw [notLongL hlen]
    exact Bool.false_ne_true
  have hnew : List.foldl (fun x1 x2 => x1 ++ x2) #[] (List.replicate (if its.toArray.isEmpty = true then 0 else k.toNat) its.toArray) = (List.replicate k.toNat its).flatten.toArray := by
    have f0 : ∀ m : Nat, List.foldl (fun x1 x2 => x1 ++ x2) #[] (List.replicate m its.toArray) = (List.replicate m its).flatten.toArray := fun m => by
      have := foldl_rep its m []
      rw [List.nil_append] at this
      exact this
    rw [f0]
    cases its with
    | nil => simp
    | cons a r' => rw [if_neg (by simp)]
  refine wpAny_binaryOp_repeat_ref (T := "list") (U := "int") (by decide) ⟨_, e, rfl⟩ (fun s' => typeIs_int s' k t) noFill_list_mul F.fills_int_mul F.slot_int_rmul repeat_list F.slot_int_index.lookup
    (call_meets F.slot_int_rmul (typeIs_int s k t) F.entry_int_rmul (F.args_int_rmul_2 _ _) (int___rmul___int_list k t l its.toArray n)
      ⟨e, rfl, ⟨_, e, rfl⟩, call_meets F.slot_list_mul ⟨_, e, rfl⟩ F.entry_list_mul (F.args_list_mul_2 _ _) (AutoListH.list___mul___list_int_3 l its.toArray n k t hfit hcap hlong) ⟨e, ?_⟩⟩)
  rw [hnew]
  exact ⟨.ref _, _, I.lnew (t' := s.toks) (r.rep k.toNat) (by rw [len_rep, Nat.mul_comm]; exact hz), rfl, q _ I.fresh⟩
end
section
variable {prog : Program} {w : World} {A : Around} {E : Value → Shared → Prop} {s : Shared}
end
section
variable {X : Cx}
end
end L2
namespace Att
open PySem PySem.W PySem.Calls PyProof.Rows
theorem ints_of_wellAll {P : Params} {h : Heap} : ∀ (ns : List Int) (vs : List Value), WellAll P h vs (ns.map WData.int) → IntsAre vs ns := by
  intro ns
  induction ns with
  | nil =>
    intro vs w
    rw [List.map_nil] at w
    cases w
    exact .nil
  | cons n ns ih =>
    intro vs w
    rw [List.map_cons] at w
    cases w with
    | cons a b =>
      cases a
      exact .cons _ _ (ih _ b)
theorem script_of {l : OpenLaw} {n : Nat} (hn : l.most = some n) {P : Params} {h : Heap} {args : List WData} {vals : List Value}
    (hpre : l.row.toRowW.claim.pre args = true) (hwl : WellAll P h vals args) :
    ∃ a vs ns, vals = [Value.ref a] ∧ args = [WData.list (ns.map WData.int)] ∧ h.get? a = some { cls := .type "list", data := .seq vs.toArray } ∧ IntsAre vs ns ∧ ns.length ≤ n := by
  have hsh : WShape.hasAll [] args [.list .int] = true := (pre_splitW hpre).1
  have hc : l.pre.holds [] { args := args } = true := (pre_splitW hpre).2
  obtain ⟨d, r, rfl, h1, h2⟩ := hasAllW_cons hsh
  obtain rfl := hasAllW_nil h2
  obtain ⟨xs, rfl, h3⟩ := hasW_list h1
  obtain ⟨ns, rfl⟩ := items_int h3
  have hlen : ns.length ≤ n := by
    unfold OpenLaw.pre at hc
    have h4 : (WTm.not (.lt (.lit (.int (n : Int))) (.len (.arg 0)))).holds [] { args := [.list (ns.map .int)] } = true := by
      have h4 := (holds_andW hc).1
      rw [hn] at h4
      exact h4
    have h5 := condW_of h4 (w_not (w_lt w_lit (w_len_list (w_arg rfl))))
    rw [List.length_map] at h5
    refine Nat.le_of_not_lt fun q => ?_
    have q' : (n : Int) < ((ns.length : Nat) : Int) := by omega
    first
      | (rw [decide_eq_true q'] at h5; exact absurd h5 (by decide))
      | (simp at h5; omega)
  cases hwl with
  | cons w1 w2 =>
    cases w2
    cases w1 with
    | list ho hall => exact ⟨_, _, ns, rfl, rfl, ho, ints_of_wellAll ns _ hall, hlen⟩
theorem post_true (l : OpenLaw) (args : List WData) : l.row.toRowW.claim.post args (.bool true) args = true :=
  postW_of (r := l.row.toRowW) (X := (true == true))
    (show WShape.has [] (.bool true) .bool = true by first | rfl | decide | simp [WShape.has, WShape.arms, WShape.armsAll])
    (show (WTm.eq .res (.lit (.bool true))).value [] { args := args, res := some (.bool true), after := args } = some (.bool (true == true)) from w_eq_bool (w_res rfl) w_lit) rfl
theorem attach_call {l : OpenLaw} {n : Nat} {q : Program} {loose : List Str} {XP : (Str → Option Value) → Heap → Prop} {YP : World → Heap → Prop} {d : DefRec}
    (hn : l.most = some n) (hdf : d.params.defaults = [])
    (call : ∀ (w : World) (s₀ s₁ : Shared) (mg mb : Str → Option Value) (fa : Addr) (o : Obj) (pm cd doc : Value) (a : Addr) (vs : List Value) (ns : List Int),
      Ground q loose [] XP w s₀ mg mb s₁.heap → YP w s₁.heap →
      s₁.heap.get? fa = some o → o.data = .func (docDef d.name d.params d.body d.scope pm cd doc) → s₁.heap.CodeRec cd d.name → mg d.name = some (.ref fa) →
      s₁.heap.get? a = some { cls := .type "list", data := .seq vs.toArray } → IntsAre vs ns → ns.length ≤ n → s₁.gens = #[] →
      codeAny (model l.prog w) callerA (.call (.ref fa) ⟨[.ref a], []⟩) (fun r s' => r = .ok (.ret (.bool true)) ∧ OldK s₁.heap s'.heap ∧ s'.os = s₁.os ∧ AllBare s'.gens) s₁) :
    WalkO q loose XP YP l.row.toRowW d [] (fun f vs => PySem.call f vs) := by
  intro w s₀ s₁ mg mb G Y fa o pm cd doc dV kV ho hd hcd hD hmg hg args vals as hpre hlay hrd hwl hlo
  obtain rfl : dV = .none := Dflts.none hD hdf
  obtain rfl : kV = .none := Dflts.noKw hD
  obtain ⟨a, vs, ns, rfl, rfl, hobj, hints, hlen⟩ := script_of hn hpre hwl
  refine enter_call (codeAny_mono (call w s₀ s₁ mg mb fa o pm cd doc a vs ns G Y ho (fd_plain hd) hcd hmg hobj hints hlen hg) fun r s' hq => ?_)
  obtain ⟨rfl, h2, h3, h4⟩ := hq
  exact ⟨.inl ⟨.bool true, .bool true, [], rfl, fun _ => rfl, .bool true, post_true l _, fun _ => ⟨List.Pairwise.nil, fun _ hm => (nomatch hm)⟩⟩, h2, h3, h4⟩
section
variable {prog : Program} {w : World} {A : Around} {E : Value → Shared → Prop} {s : Shared} {K : Frag}
end
end Att
namespace L2
open PySem PySem.Spec PyProof.Rows
theorem vals_ints : ∀ {vs : List Value} {ns : List Int}, IntsAre vs ns → Vals (ns.map V.int) vs
  | _, _, .nil => .nil
  | _, _, .cons n t h => .cons ⟨t, rfl⟩ (vals_ints h)
end L2
namespace L2
open PySem PySem.Spec PyProof.Rows
end L2
/- THE LAST THEOREM (shape; LID, My.* are yours):
   My.Adr: a structure of the addresses that your layer names (classes, functions); My.Txt K t: a structure (Prop) of the equations over K;
   My.txt_mk : {K} {implicit addresses ..} (e1 : nsIn K mainGlobals "law" = some (some (.ref f))) (e2 : K.lookup f = some ⟨oc, od, .func (fnOf "law" "law" params body scope dV kV doc pm an cdv ct), sl⟩) (e3 : codeIn K cdv "law" = true) .. : ∃ t, My.Txt K t
set_option maxRecDepth 100000 in
set_option maxHeartbeats 0 in
theorem PySem.Challenge.cw_LID_holds : PySem.Challenge.rw_LID.Holds := by
  w_on; o_law; k_head; (case hw => w_witness2)
  k_fill
  refine L2.walk_of (l := PySem.Challenge.rw_LID) (n := 63) (k := 40) (x := "script") (CX := fun w => ..) (sp := fun _ => My.sp_law) rfl (by decide) rfl ⟨rfl, by decide, by decide⟩ (fun w h Y => PySem.W.kIn_of Y) ?F ?S ?C
  case F =>
    intro w mg fa h KX G hmg
    have T : ∃ t, My.Txt (L2.KOf KX) t := by
      dsimp only [L2.KOf]                          -- K must stand as «<heap const> w.params» for k_is
      refine' My.txt_mk ?e1 ?e2 ?e3 ..
      (case e1 => PySem.W.k_is)                    -- in the order: a name -> its address -> its object -> its parts
      (case e2 => PySem.W.k_is)
      ..
    obtain ⟨t, T⟩ := T
    have e0 := hmg.symm.trans (PySem.W.mg_of KX G T.law)
    cases e0                                       -- fa is the law's own address
    exact ⟨_, fun s u => .of_eq rfl, fun base kb nb => My.law_fn T kb nb⟩     -- if «.of_eq rfl» comes too early: refine' ⟨_, ?b, fun base kb nb => My.law_fn T kb nb⟩; exact fun s u => .of_eq rfl
  case S => exact fun w H a ns hl hO hS => ..
  case C => exact ..
(the tactic k_is has no namespace: write k_is) -/
namespace L2
open PySem PySem.Spec PyProof.Rows
def defArgs (s : Stmt) : Arguments := match s with
  | .FunctionDef _ a _ _ _ _ _ _ _ _ => a
  | _ => { posonlyargs := [], args := [], vararg := none, kwonlyargs := [], kw_defaults := [], kwarg := none, defaults := [] }
def defBody (s : Stmt) : List Stmt := match s with
  | .FunctionDef _ _ b _ _ _ _ _ _ _ => b
  | _ => []
def defScope (s : Stmt) : Scope := match s with
  | .FunctionDef _ _ _ _ _ _ sc _ _ _ => sc
  | _ => { kind := .function, names := [], isGenerator := false, isCoroutine := false }
abbrev CX0 : CXT := fun _ _ _ _ _ _ => False
abbrev E0 : XK := fun _ _ _ => False
theorem pass0 {X : Cx} : Passes CX0 X E0 := fun _ _ _ _ _ _ _ h => h.elim
structure Fun (K : PySem.W.Frag) (x qual : Str) (st : Stmt) (f : Addr) (fd : FuncData) : Prop where
  ex : ∃ (oc : Value) (od : Option Addr) (kV doc pm : Value) (an : Option Addr) (cdv ct : Value) (osl : Array (Option Value)),
    fd = PySem.W.fnOf x qual (defArgs st) (defBody st) (defScope st) .none kV doc pm an cdv ct ∧ K.lookup f = some ⟨oc, od, .func fd, osl⟩ ∧ PySem.W.codeIn K cdv qual = true
  kp : PySem.W.keepIn K (.ref f) = true
section
variable {P : Program} {w : World} {K : PySem.W.Frag} {mg : Str → Option Value} {base : Heap}
theorem Fun.ok {x qual : Str} {st : Stmt} {f : Addr} {fd : FuncData} {N ps : List Str} {k : Nat} {sp : Sp} (F : Fun K x qual st f fd) (S : FnScope N ps (defScope st)) (len : ∀ vs H Q E, sp vs H Q E → vs.length = ps.length)
    (hbody : ∀ (cdv : Value) (A : Around) (outer : List Env) (s : Shared) (H : Hp) (vs : List V) (Q : VK) (E : XK), Room k (A.deeper (envOfC qual (defScope st) s.heap.objs.size f cdv)) → sp vs H Q E →
      ∃ t, PSs (cxOf CX0 P w K mg base N qual (defScope st) f cdv A outer s H E).nox (defBody st) t ∧ t { nx := fun _ H' => Q .non H', rt := Q } (start N vs) H) : FnOk P w K mg base CX0 (k + 1) f fd ps sp := by
  obtain ⟨oc, od, kV, doc, pm, an, cdv, ct, osl, rfl, lk, hcd⟩ := F.ex
  refine fn_of lk hcd S len fun A outer s H vs Q E hr hsp => ?_
  obtain ⟨t, h, q⟩ := hbody cdv A outer s H vs Q E hr hsp
  exact ⟨t, h.nox, q⟩
theorem Fun.binds {x qual : Str} {st : Stmt} {f : Addr} {fd : FuncData} {ps : List Str} (F : Fun K x qual st f fd)
    (h : ∀ (kV doc pm : Value) (an : Option Addr) (cdv ct : Value) (us : List Value), us.length = ps.length → bindArgs (PySem.W.fnOf x qual (defArgs st) (defBody st) (defScope st) .none kV doc pm an cdv ct) ⟨us, []⟩ = pure (ps.zip us)) : Binds K fd ps [] := by
  obtain ⟨oc, od, kV, doc, pm, an, cdv, ct, osl, rfl, lk, hcd⟩ := F.ex
  exact .all (h kV doc pm an cdv ct)
theorem fun_mk {x qual : Str} {st : Stmt} {f : Addr} {oc : Value} {od an : Option Addr} {osl : Array (Option Value)} {kV doc pm cdv ct : Value} (l : K.lookup f = some ⟨oc, od, .func (PySem.W.fnOf x qual (defArgs st) (defBody st) (defScope st) .none kV doc pm an cdv ct), osl⟩)
    (c : PySem.W.codeIn K cdv qual = true) (k : PySem.W.keepIn K (.ref f) = true) : Fun K x qual st f (PySem.W.fnOf x qual (defArgs st) (defBody st) (defScope st) .none kV doc pm an cdv ct) := ⟨⟨oc, od, kV, doc, pm, an, cdv, ct, osl, rfl, l, c⟩, k⟩
end
section
variable {X : Cx}
theorem pv (i : Nat) {x : Str} {pos : Pos} (hN : X.N[i]? = some x := by rfl) (hv : Vis X.env.scope x := by first | exact Or.inl rfl | exact Or.inr (Or.inl rfl) | exact Or.inr (Or.inr rfl)) (hd : (x == ("__debug__" : Str)) = false := by decide)
    (hcd : (x == ("__classdict__" : Str)) = false := by decide) : PE X (.Name x pos) (tVar i) := pe_var hN hv hd hcd
end
theorem iteF {A B : Prop} (h : B) : if false = true then A else B := by
  rw [if_neg Bool.false_ne_true]
  exact h
theorem iteT {A B : Prop} (h : A) : if true = true then A else B := by
  rw [if_pos rfl]
  exact h
theorem ite2 {c A B : Prop} [Decidable c] (h1 : c → A) (h2 : ¬ c → B) : if c then A else B := by
  by_cases h : c
  · rw [if_pos h]
    exact h1 h
  · rw [if_neg h]
    exact h2 h
theorem iteNS {c A B : Prop} [Decidable c] (hc : c) (h : B) : if (!decide c) = true then A else B := by
  rw [decide_eq_true hc]
  exact iteF h
def Same (H H' : Hp) : Prop := ∀ b o, H b = some o → H' b = some o
theorem Same.refl (H : Hp) : Same H H := fun _ _ h => h
theorem Same.trans {H H1 H2 : Hp} (a : Same H H1) (b : Same H1 H2) : Same H H2 := fun c o h => b c o (a c o h)
theorem Same.seq {K : PySem.W.Frag} {H H' : Hp} {a : Addr} {xs : List V} (e : Same H H') (h : SqL K H a xs) : SqL K H' a xs := by
  rcases h with (h | ⟨o, h⟩) | h
  · exact .inl (.inl (e _ _ h))
  · exact .inl (.inr ⟨o, e _ _ h⟩)
  · exact .inr h
end L2
namespace L2
open PySem PySem.Spec PyProof.Rows
theorem rel_look {env : Env} {y : Str} {k : NameKind} : ∀ {names : List (Str × NameKind)},
    (names.map fun (n, k) => if (k == NameKind.free && env.scope.kind == .function && env.kindOf n == some .cell) then (n, NameKind.cell) else (n, k)).lookup y = some k →
      ∃ k0, names.lookup y = some k0 ∧ (k = k0 ∨ (k0 = .free ∧ k = .cell))
  | [], h => by simp at h
  | (n, q) :: r, h => by
    have ih := @rel_look env y k r
    rw [List.map_cons] at h
    dsimp only at h
    cases hx : y == n with
    | true =>
      refine ⟨q, by simp [List.lookup_cons, hx], ?_⟩
      by_cases hc : (q == NameKind.free && env.scope.kind == .function && env.kindOf n == some .cell) = true
      · rw [if_pos hc] at h
        simp only [List.lookup_cons, hx] at h
        cases h
        have hq : (q == NameKind.free) = true := by
          cases e : q == NameKind.free with
          | true => rfl
          | false => rw [e] at hc; simp at hc
        exact .inr ⟨by simpa using hq, rfl⟩
      · rw [if_neg hc] at h
        simp only [List.lookup_cons, hx] at h
        cases h
        exact .inl rfl
    | false =>
      have h2 : (r.map fun (n, k) => if (k == NameKind.free && env.scope.kind == .function && env.kindOf n == some .cell) then (n, NameKind.cell) else (n, k)).lookup y = some k := by
        by_cases hc : (q == NameKind.free && env.scope.kind == .function && env.kindOf n == some .cell) = true
        · rw [if_pos hc] at h
          simpa only [List.lookup_cons, hx] using h
        · rw [if_neg hc] at h
          simpa only [List.lookup_cons, hx] using h
      obtain ⟨k0, e, r'⟩ := ih h2
      exact ⟨k0, by simpa only [List.lookup_cons, hx] using e, r'⟩
theorem clos_go {env : Env} : ∀ (names : List (Str × NameKind)) (acc : List (Str × Addr)), (∀ y ∈ names, y.2 = .free → ∃ c, env.cells.lookup y.1 = some c) → (∀ y c, acc.lookup y = some c → env.cells.lookup y = some c) →
    ∃ cl, (forIn names acc fun (x : Str × NameKind) (r : List (Str × Addr)) => (if (x.2 == NameKind.free) = true then (do let c ← cellOf env x.1; pure (ForInStep.yield ((x.1, c) :: r))) else pure (ForInStep.yield r) : Sem (ForInStep (List (Str × Addr))))) = (pure cl : Sem (List (Str × Addr))) ∧
      (∀ y c, cl.lookup y = some c → env.cells.lookup y = some c) ∧ (∀ y ∈ names, y.2 = .free → ∃ c, cl.lookup y.1 = some c) ∧ ∀ y c, acc.lookup y = some c → ∃ c', cl.lookup y = some c'
  | [], acc, _, ha => ⟨acc, rfl, ha, (fun y hy => absurd hy (by simp)), fun y c h => ⟨c, h⟩⟩
  | (n, k) :: r, acc, hn, ha => by
    by_cases hk : k = NameKind.free
    · obtain ⟨c, hc⟩ := hn (n, k) List.mem_cons_self hk
      have hacc : ∀ y d, ((n, c) :: acc).lookup y = some d → env.cells.lookup y = some d := fun y d e => by
        cases hx : y == n with
        | true =>
          simp only [List.lookup_cons, hx] at e
          cases e
          have : y = n := by simpa using hx
          rw [this]
          exact hc
        | false =>
          simp only [List.lookup_cons, hx] at e
          exact ha y d e
      obtain ⟨cl, e, h1, h2, h3⟩ := clos_go r ((n, c) :: acc) (fun y hy => hn y (List.mem_cons_of_mem _ hy)) hacc
      have hn3 : ∃ c', cl.lookup n = some c' := h3 n c (by simp)
      refine ⟨cl, ?_, h1, fun y hy hf => ?_, fun y d hd => ?_⟩
      · rw [List.forIn_cons]
        dsimp only
        rw [if_pos (by simp [hk])]
        have ec : cellOf env n = pure c := by
          unfold cellOf
          rw [hc]
        rw [ec]
        simp only [pure_bind]
        exact e
      · rcases List.mem_cons.mp hy with z | z
        · subst z
          exact hn3
        · exact h2 y z hf
      · cases hx : y == n with
        | true =>
          have : y = n := by simpa using hx
          rw [this]
          exact hn3
        | false => exact h3 y d (by simpa only [List.lookup_cons, hx] using hd)
    · obtain ⟨cl, e, h1, h2, h3⟩ := clos_go r acc (fun y hy => hn y (List.mem_cons_of_mem _ hy)) ha
      refine ⟨cl, ?_, h1, fun y hy hf => ?_, h3⟩
      · rw [List.forIn_cons]
        dsimp only
        rw [if_neg (by simpa using hk), pure_bind]
        exact e
      · rcases List.mem_cons.mp hy with z | z
        · subst z
          exact absurd hf hk
        · exact h2 y z hf
theorem clos_ok {env : Env} {scope : Scope} (hn : ∀ y ∈ scope.names, y.2 = .free → ∃ c, env.cells.lookup y.1 = some c) :
    ∃ cl, closureFor scope env = pure cl ∧ (∀ y c, cl.lookup y = some c → env.cells.lookup y = some c) ∧ ∀ y ∈ scope.names, y.2 = .free → ∃ c, cl.lookup y.1 = some c := by
  obtain ⟨cl, e, h1, h2, _⟩ := clos_go (env := env) scope.names [] hn (fun y c h => by simp at h)
  refine ⟨cl, ?_, h1, h2⟩
  unfold closureFor
  dsimp only
  have e2 : ∀ (f g : Str × NameKind → List (Str × Addr) → Sem (ForInStep (List (Str × Addr)))), (∀ x r, f x r = g x r) → (forIn scope.names [] f : Sem (List (Str × Addr))) = forIn scope.names [] g := fun f g h => by
    have : f = g := by funext x r; exact h x r
    rw [this]
  rw [e2 _ _ (fun x r => ?_), e]
  · rfl
  · obtain ⟨n, k⟩ := x
    dsimp only
theorem comp_loop_go {prog : Program} {w : World} {A : Around} {R : Result → Shared → Prop} {s : Shared} {elt target iter : Expr} {ifs : List Expr} {scope : Scope} {pos : Pos} {it acc : Value} {env : Env} (J : Nat → Shared → Prop)
    (turn : ∀ n s, J n s → wpAny (model prog w) A (pyNext it) (fun r s1 => match r with
      | none => R (.ok .next) s1
      | some v => wpAny (model prog w) A (letOwnedTupleGo target it v) (fun _ s1' => wpAny (model prog w) A (assign target env v) (fun _ s2 =>
          wpAny (model prog w) A (forIn ifs true fun c r => if r = true then do let ok ← isTrue c env (eval c env); pure (ForInStep.yield ok) else pure (ForInStep.yield r)) (fun ok s3 =>
            if ok = true then wpAny (model prog w) A (eval elt env) (fun x s4 =>
              wpAny (model prog w) A (call (.builtin "list.append") [acc, x]) (fun _ s5 => ∃ m, m < n ∧ J m s5) (fun _ _ => False) s4) (fun _ _ => False) s3
            else ∃ m, m < n ∧ J m s3) (fun _ _ => False) s2) (fun _ _ => False) s1') (fun _ _ => False) s1) (fun _ _ => False) s)
    (n : Nat) (h : J n s) : codeAny (model prog w) A (.compLoop (.ListComp elt [⟨target, iter, ifs, 0⟩] scope pos) 0 it acc env) R s := by
  have no : ∀ {E : Value → Shared → Prop} (e : Value) (s : Shared), (fun (_ : Value) (_ : Shared) => False) e s → E e s := fun _ _ f => f.elim
  refine codeAny_loop rfl J (fun n s hJ => ?_) n h
  show wpAny _ A ((compTurn (.ListComp elt [⟨target, iter, ifs, 0⟩] scope pos) 0 it acc env).onRaise _) _ _ s
  refine wpAny_noted ?_
  rw [compTurn_list]
  refine wpAny_bind (wpAny_standAt (wpAny_bind (wpAny_mono (turn n s hJ) (fun r s1 h1 => ?_) no)))
  cases r with
  | none => exact wpAny_pure h1
  | some v =>
    refine wpAny_bind (wpAny_mono h1 (fun _ s1' h1' => wpAny_bind (wpAny_mono h1' (fun _ s2 h2 => wpAny_bind (wpAny_mono h2 (fun ok s3 h3 => ?_) no)) no)) no)
    cases ok with
    | false => exact wpAny_pure ⟨rfl, h3⟩
    | true => exact wpAny_bind (wpAny_bind (wpAny_mono h3 (fun x s4 h4 => wpAny_bind (wpAny_mono h4 (fun _ s5 h5 => wpAny_pure (wpAny_pure ⟨rfl, h5⟩)) no)) no))
abbrev Cx.comp (X : Cx) (x : Str) (scope : Scope) (cl : List (Str × Addr)) (C : Addr) (fp : List Addr) (s : Shared) (H : Hp) : Cx :=
  { X with N := x :: X.N, s₀ := s, H₀ := H, env := compEnvC scope cl C X.env, outer := X.stack, ex := fp, fn := fun _ => false, pn := [], xe := fun _ _ => False }
def capOk (scope : Scope) (env : Env) (y : Str) : Bool := match scope.names.lookup y with
  | none => true
  | some .free => env.kindOf y == some .cell || env.kindOf y == some .free
  | some _ => false
structure CompSc (X : Cx) (x : Str) (scope : Scope) : Prop where
  kind : scope.kind = .function
  cell : ∀ y ∈ scope.names, y.2 ≠ .cell
  names : ∀ y ∈ scope.names, y.2 = .local → scope.names.lookup y.1 = some .local
  hx : scope.names.lookup x = some .local
  free : ∀ y ∈ scope.names, y.2 = .free → X.env.kindOf y.1 = some .cell ∨ X.env.kindOf y.1 = some .free
  cap : ∀ y ∈ X.N, capOk scope X.env y = true
  nd : (x :: X.N).Nodup
theorem free_mem {scope : Scope} {y : Str} (h : scope.names.lookup y = some .free) : (y, NameKind.free) ∈ scope.names := PySem.mem_of_lookup h
theorem comp_inv {X : Cx} {x : Str} {scope : Scope} {cl : List (Str × Addr)} {fp : List Addr} {pins : List (Addr × Obj)} {σ : St} {H : Hp} {s : Shared} {h' : Heap} {tk : Nat} {m : Str → Option Value} (S : CompSc X x scope) (I : Inv X pins σ H s)
    (hns : h'.Ns s.heap.objs.size m) (hk : ∀ b o, s.heap.get? b = some o → h'.get? b = some o) (hf : ∀ b ∈ fp, FpOk X pins H b) (ho : ∀ b ∈ fp, ∃ o, s.heap.get? b = some o)
    (hsub : ∀ y c, cl.lookup y = some c → X.env.cells.lookup y = some c) (hall : ∀ y ∈ scope.names, y.2 = .free → ∃ c, cl.lookup y.1 = some c) :
    Inv (X.comp x scope cl s.heap.objs.size fp s H) (X.pn ++ pins) (none :: σ) H { s with heap := h', toks := tk } := by
  refine ⟨⟨I.ok.mod, S.kind, I.ok.glob, I.ok.blt, Nat.le_refl _, fun y z c h1 h2 => I.ok.inj y z c (hsub y c h1) (hsub z c h2), fun y hy => ?_, fun y c hfn => absurd hfn Bool.false_ne_true, I.ok.hd, I.ok.frames, .inl rfl, fun b hb => ⟨?_, fun y c e => (hf b hb).2.2.2.2.1 y c (hsub y c e)⟩,
    I.bs, Nat.le_trans I.ok.bsz I.sz, fun b o e hb => ?_, fun b hb hs => ?_, I.stack, I.stkFree⟩, rfl, I.bare, Un.kept hk, ⟨m, hns, fun i y v e1 e2 e3 => ?_⟩, fun y c e => ?_, I.fresh, fun y c e => I.freeC y c (hsub y c e), fun p hp => ?_, I.hok.kept hk, ?_⟩
  · have hy' : ∃ k, (k = NameKind.cell ∨ k = NameKind.free) ∧ (relabel scope X.env).names.lookup y = some k := by
      rcases hy with z | z
      · exact ⟨_, .inl rfl, z⟩
      · exact ⟨_, .inr rfl, z⟩
    obtain ⟨k, hk', e⟩ := hy'
    obtain ⟨k0, e0, r⟩ := rel_look e
    have kf : k0 = .free := by
      rcases r with r | r
      · subst r
        rcases hk' with z | z
        · subst z
          exact absurd rfl (S.cell _ (PySem.mem_of_lookup e0))
        · exact z
      · exact r.1
    subst kf
    exact hall (y, .free) (free_mem e0) rfl
  · obtain ⟨o, e⟩ := ho b hb
    exact Nat.ne_of_lt (Heap.lt_size e)
  · rcases (hf b hb).2.2.2.1 with z | z
    · exact I.ok.noex b o e z
    · exact absurd (Nat.lt_of_lt_of_le (Heap.lt_size e) (Nat.le_trans I.ok.bsz z)) (Nat.lt_irrefl _)
  · rcases List.mem_cons.mp (I.stkSub b hs) with z | z
    · exact (hf b hb).2.1 z
    · exact (hf b hb).2.2.1 z
  · cases i with
    | zero => simp at e2
    | succ i =>
      have e1' : X.N[i]? = some y := by simpa using e1
      have e2' : σ[i]? = some (some v) := by simpa using e2
      have hc := S.cap y (List.mem_of_getElem? e1')
      have hvis : ∃ k, (relabel scope X.env).names.lookup y = some k := by
        rcases e3 with z | z | z
        · exact ⟨_, z⟩
        · exact ⟨_, z⟩
        · exact ⟨_, z⟩
      obtain ⟨k, ek⟩ := hvis
      obtain ⟨k0, e0, r⟩ := rel_look ek
      unfold capOk at hc
      rw [e0] at hc
      have kf : k0 = .free := by cases k0 <;> simp_all
      subst kf
      have hkk : X.env.kindOf y = some .cell ∨ X.env.kindOf y = some .free := by simpa using hc
      obtain ⟨m0, hn0, hl0⟩ := I.loc
      obtain ⟨u, ru, l⟩ := hl0 i y v e1' e2' (.inr hkk)
      refine ⟨u, ru, .inr ?_⟩
      obtain ⟨c', hc'⟩ := hall (y, .free) (free_mem e0) rfl
      rcases l with ⟨z, _⟩ | ⟨_, c, ec, ⟨o, ho', hd'⟩⟩
      · rcases hkk with q | q <;> rw [z] at q <;> cases q
      · have e4 := hsub y c' hc'
        rw [ec] at e4
        have e5 : c = c' := Option.some.inj e4
        subst e5
        refine ⟨?_, c, hc', o, hk _ _ ho', hd'⟩
        rcases r with r | r
        · subst r
          exact .inr ek
        · obtain ⟨_, r⟩ := r
          subst r
          exact .inl ek
  · obtain ⟨v, o, ho', hd'⟩ := I.cell y c (hsub y c e)
    exact ⟨v, o, hk _ _ ho', hd'⟩
  · have hp' : p ∈ X.pn ++ pins := by simpa using hp
    obtain ⟨e, n, ne, nf, d⟩ := I.pin p hp'
    refine ⟨hk _ _ e, n, Nat.ne_of_lt (Heap.lt_size e), fun z => ?_, d⟩
    rcases List.mem_cons.mp (I.stkSub p.1 z) with q | q
    · exact ne q
    · exact nf q
  · show σ.length + 1 = X.N.length + 1
    rw [I.len]
def PTs (X : Cx) (ifs : List Expr) (t : TT) : Prop :=
  ∀ (pins : List (Addr × Obj)) (s : Shared) (σ : St) (H : Hp) (Q : Bool → Hp → Prop), Inv X pins σ H s → t σ H Q →
    wpAny (model X.prog X.w) X.A (forIn ifs true fun c r => if r = true then do let ok ← isTrue c X.env (eval c X.env); pure (ForInStep.yield ok) else pure (ForInStep.yield r)) (TP X pins σ Q) X.xe s
def ttAll : TT := fun _ H Q => Q true H
theorem pts_nil {X : Cx} : PTs X [] ttAll := fun pins s σ H Q I h => by
  rw [List.forIn_nil]
  exact wpAny_pure ⟨H, I, h⟩
theorem pts_one {X : Cx} {c : Expr} {t : TT} (hc : PT X c t) : PTs X [c] t := fun pins s σ H Q I h => by
  rw [List.forIn_cons, if_pos rfl]
  refine wpAny_bind (wpAny_bind (thn (hc pins s σ H Q I h) fun ok s1 q => wpAny_pure ?_))
  try dsimp only
  rw [List.forIn_nil]
  exact wpAny_pure q
def CompGo (J : It) (H1 : Hp) (σ : St) (tt : TT) (te : TE) (Q : VK) : Prop := ∀ D, H1 D = none → ∃ W : Nat → Nat → Hp → Prop, (∃ m, W 0 m (upd H1 D (.lst []))) ∧ ∀ i m H, W i m H →
  (J.stop i H ∧ Q (.ref D) H) ∨ (J.go i H ∧ ∀ x H', J.yld i H x H' → tt (some x :: σ) H' fun b H2 => if b = true then te (some x :: σ) H2 fun y H3 => ∃ ys, H3 D = some (.lst ys) ∧ ys.length < sizeLine ∧ ∃ m', m' < m ∧ W (i + 1) m' (upd H3 D (.lst (ys ++ [y])))
    else ∃ m', m' < m ∧ W (i + 1) m' H2)
def tComp (wi : TI) (tt : TT) (te : TE) : TE := fun σ H Q => wi σ H fun J H1 => CompGo J H1 σ tt te Q
section
variable {X : Cx} {x : Str} {px pos : Pos} {elt iter : Expr} {ifs : List Expr} {scope : Scope} {wi : TI} {tt : TT} {te : TE}
theorem comp_core {pins : List (Addr × Obj)} {σ : St} {H2 : Hp} {s2 : Shared} {it : Addr} {fp : List Addr} {tn : Nat → Heap → Prop} {J : It} {Q : VK} {cl : List (Str × Addr)} {E : Value → Shared → Prop} {RR : Value → Addr → Result → Shared → Prop}
    (S : CompSc X x scope) (hcal : X.calm = true) (hclos : (∀ y c, cl.lookup y = some c → X.env.cells.lookup y = some c) ∧ ∀ y ∈ scope.names, y.2 = .free → ∃ c, cl.lookup y.1 = some c)
    (ht : ∀ cl C fp s H, PTs (X.comp x scope cl C fp s H) ifs tt) (he : ∀ cl C fp s H, PE (X.comp x scope cl C fp s H) elt te)
    (I2 : Inv X pins σ H2 s2) (T : Turn X.prog X.w X.K (.Name x px) J fp it tn) (st2 : tn 0 s2.heap) (f2 : ∀ b ∈ fp, FpOk X pins H2 b)
    (q : CompGo J H2 σ tt te Q)
    (hRR : ∀ D C s' H' m', Inv X pins σ H' s' → s'.heap.Ns C m' → FpOk X pins H' C → Q (.ref D) H' → RR (.ref D) C (.ok .next) s') :
    wpAny (model X.prog X.w) X.A (newList []) (fun acc s3 => wpAny (model X.prog X.w) X.A (newFunctionEnv scope X.env.globals cl [] X.env.qual none .none (some X.env)) (fun cenv s4 =>
      codeAny (model X.prog X.w) X.A (.compStart (.ListComp elt [⟨.Name x px, iter, ifs, 0⟩] scope pos) 0 (.ref it) acc { cenv with scope := relabel scope X.env }) (RR acc cenv.locals) s4) E s3) E s2 := by
  obtain ⟨hsub, hall⟩ := hclos
  refine wpAny_newObj_type (wpAny_newFunctionEnv S.cell (by intro y hy; simp at hy) (fun h1 hns hsb => ?_) S.kind)
  have I3 : Inv X pins σ (upd H2 s2.heap.objs.size (.lst [])) { s2 with heap := s2.heap.push { cls := .type "list", data := .seq ([] : List Value).toArray } } := I2.lnew (t' := s2.toks) .nil (by simp)
  have hD : H2 s2.heap.objs.size = none := I2.fresh
  obtain ⟨W, ⟨m0, w0⟩, turn⟩ := q _ hD
  generalize hs3 : ({ s2 with heap := s2.heap.push { cls := .type "list", data := .seq ([] : List Value).toArray } } : Shared) = s3 at I3
  have hs3' : ({ s2 with heap := s2.heap.push { cls := .type "list", dict := none, data := .seq ([] : List Value).toArray } } : Shared) = s3 := hs3
  dsimp only at hns hsb ⊢
  generalize hDD : s2.heap.objs.size = D at *
  have eh : s2.heap.push { cls := .type "list", dict := none, data := .seq ([] : List Value).toArray } = s3.heap := by rw [← hs3]
  rw [eh] at hns hsb
  have keep : ∀ b o, s3.heap.get? b = some o → h1.get? b = some o := fun b o e => hsb.extBut b o (Nat.ne_of_lt (Heap.lt_size e)) (Heap.get?_push_of_some _ e)
  have objs : ∀ b ∈ fp, ∃ o, s3.heap.get? b = some o := fun b hb => by
    obtain ⟨o, e, _⟩ := T.obj _ _ st2 b hb
    rw [← eh]
    exact ⟨o, Heap.get?_push_of_some _ e⟩
  have f3 : ∀ b ∈ fp, FpOk X pins (upd H2 D (.lst [])) b := fun b hb => by
    obtain ⟨o, e, _⟩ := T.obj _ _ st2 b hb
    have ne : b ≠ D := by rw [← hDD]; exact Nat.ne_of_lt (Heap.lt_size e)
    exact ⟨by rw [upd_ne ne]; exact (f2 b hb).1, (f2 b hb).2⟩
  have I4 : Inv (X.comp x scope cl s3.heap.objs.size fp s3 (upd H2 D (.lst []))) (X.pn ++ pins) (none :: σ) (upd H2 D (.lst [])) { s3 with heap := h1, toks := s3.toks + ([] : List (Str × Value)).length } := comp_inv S I3 hns keep f3 objs hsub hall
  have st4 : tn 0 h1 := T.keep _ _ _ st2 fun b hb o e => keep b o (by rw [← eh]; exact Heap.get?_push_of_some _ e)
  -- what stays true of the iterator's objects
  have stat : ∀ {H' : Hp}, (∀ b ∈ fp, H' b = none) → ∀ b ∈ fp, FpOk (X.comp x scope cl s3.heap.objs.size fp s3 (upd H2 D (.lst []))) (X.pn ++ pins) H' b := fun hn b hb => by
    refine ⟨hn b hb, (I4.ok.exf b hb).1, I4.ok.exfs b hb, .inl hb, (I4.ok.exf b hb).2, fun p hp => (f3 b hb).2.2.2.2.2 p (by simpa using hp)⟩
  have loop : codeAny (model X.prog X.w) X.A (.compLoop (.ListComp elt [⟨.Name x px, iter, ifs, 0⟩] scope pos) 0 (.ref it) (.ref D) (compEnvC scope cl s3.heap.objs.size X.env)) (RR (.ref D) s3.heap.objs.size) { s3 with heap := h1, toks := s3.toks + ([] : List (Str × Value)).length } := by
    refine comp_loop_go (fun n s' => ∃ i o H', Inv (X.comp x scope cl s3.heap.objs.size fp s3 (upd H2 D (.lst []))) (X.pn ++ pins) (o :: σ) H' s' ∧ tn i s'.heap ∧ (∀ b ∈ fp, H' b = none) ∧ W i n H') ?_ m0
      ⟨0, none, _, I4, st4, fun b hb => (f3 b hb).1, w0⟩
    rintro n s5 ⟨i, o, H5, I5, st5, fr5, w5⟩
    rcases turn i n H5 w5 with ⟨stop, qn⟩ | ⟨go, step⟩
    · refine thn (T.done (X.comp x scope cl s3.heap.objs.size fp s3 (upd H2 D (.lst []))) rfl rfl rfl hcal i _ s5 _ H5 _ I5 (stat fr5) st5 stop) fun r s6 ⟨hr, I6⟩ => ?_
      subst hr
      obtain ⟨m6, hn6, _⟩ := I6.loc
      have I7 : Inv X pins σ H5 s6 := I3.call' (ch := fp) I6.os I6.base I6.hok I6.bare fun b hb => ⟨(f3 b hb).2.2.2.1, (f3 b hb).2.1, (f3 b hb).2.2.2.2.1, (f3 b hb).2.2.2.2.2⟩
      exact hRR D s3.heap.objs.size s6 H5 m6 I7 hn6 (I3.fpOk (Nat.le_refl _) I6.free) qn
    · refine thn (T.item (X.comp x scope cl s3.heap.objs.size fp s3 (upd H2 D (.lst []))) rfl rfl rfl hcal i _ s5 _ H5 _ I5 (stat fr5) st5 go) fun r s6 ⟨u, hr, h6⟩ => ?_
      subst hr
      refine thn h6 fun _ s7 ⟨y, H7, I7, r7, y7, st7, fr7⟩ => ?_
      have I7' := I7.pinned (stat fr7) (T.obj _ _ st7)
      have hxl : (relabel scope X.env).names.lookup x = some .local := lookup_relabel_local S.hx
      refine thn (pg_name (X := X.comp x scope cl s3.heap.objs.size fp s3 (upd H2 D (.lst []))) (i := 0) S.nd rfl (.inl hxl) (.inr hxl) _ s7 (o :: σ) H7 y u (fun σ' H' => σ' = some y :: σ ∧ H' = H7) I7' r7 ⟨rfl, rfl⟩) fun _ s8 ⟨σ8, H8, I8, e8, e8'⟩ => ?_
      subst e8 e8'
      refine thn (ht _ _ _ _ _ _ s8 _ H8 _ I8 (step y H8 y7)) fun ok s9 ⟨H9, I9, q9⟩ => ?_
      have back : ∀ {H' : Hp} {s' : Shared} {m' : Nat}, Inv (X.comp x scope cl s3.heap.objs.size fp s3 (upd H2 D (.lst []))) (X.pn ++ pins ++ pinsAt fp s7.heap) (some y :: σ) H' s' → m' < n → W (i + 1) m' H' →
          ∃ m, m < n ∧ ∃ i o H', Inv (X.comp x scope cl s3.heap.objs.size fp s3 (upd H2 D (.lst []))) (X.pn ++ pins) (o :: σ) H' s' ∧ tn i s'.heap ∧ (∀ b ∈ fp, H' b = none) ∧ W i m H' := fun {H' s' m'} I' hm w' => by
        have pin : ∀ b o, b ∈ fp → s7.heap.get? b = some o → s'.heap.get? b = some o ∧ H' b = none := fun b o hb e => by
          have z := I'.pin (b, o) (List.mem_append_right _ (List.mem_append_right _ (mem_pinsAt hb e)))
          exact ⟨z.1, z.2.1⟩
        refine ⟨m', hm, i + 1, some y, H', I'.unpinned, T.keep _ _ _ st7 fun b hb o e => (pin b o hb e).1, fun b hb => ?_, w'⟩
        obtain ⟨o', e, _⟩ := T.obj _ _ st7 b hb
        exact (pin b o' hb e).2
      cases ok with
      | false =>
        rw [if_neg Bool.false_ne_true] at q9 ⊢
        obtain ⟨m', hm, w'⟩ := q9
        exact back I9 hm w'
      | true =>
        rw [if_pos rfl] at q9 ⊢
        refine thn (he _ _ _ _ _ _ s9 _ H9 _ I9 q9) fun v s10 ⟨z, H10, I10, r10, q10⟩ => ?_
        obtain ⟨ys, e10, l10, m', hm, w'⟩ := q10
        refine thn (mt_append _ s10 _ H10 (.ref D) [z] (.ref D) [v] (fun _ H' => H' = upd H10 D (.lst (ys ++ [z]))) I10 rfl (.cons r10 .nil) ⟨D, ys, z, rfl, rfl, e10, l10, rfl⟩) fun _ s11 ⟨_, H11, I11, _, e11⟩ => ?_
        subst e11
        exact back I11 hm w'
  exact codeAny_compStart_list loop (T.self _ 0 _ _ _ st4 loop)
theorem ps_setComp {i : Nat} {y : Str} {py spos : Pos} (S : CompSc X x scope) (hcal : X.calm = true) (hN : X.N.Nodup) (hiN : X.N[i]? = some y) (hy : Loc X.env.scope y) (hi : PI X (.Name x px) iter wi) (ht : ∀ cl C fp s H, PTs (X.comp x scope cl C fp s H) ifs tt)
    (he : ∀ cl C fp s H, PE (X.comp x scope cl C fp s H) elt te) (hsw : swapsWith (.ListComp elt [⟨.Name x px, iter, ifs, 0⟩] scope pos) (some (.Name y py)) spos.line X.env = pure true)
    (hs : ∀ x, foldedSetIterable iter X.env x = pure x := by intro _; rfl) (hf : X.fn y = true ∨ X.env.scope.names.lookup y = some .local := by first | exact .inl rfl | exact .inr rfl | assumption) :
    PS X (.Assign [.Name y py] (.ListComp elt [⟨.Name x px, iter, ifs, 0⟩] scope pos) spos) (tAsg (tComp wi tt te) (gName i)) := by
  intro pins s σ H D0 I h
  obtain ⟨cl, hcl, hc⟩ := clos_ok (env := X.env) (scope := scope) fun y hy hf => I.ok.has y.1 (S.free y hy hf)
  rw [exec_Assign_Name_used _ _ _ _ hsw]
  refine wpAny_bind (wpAny_standAt (wpAny_bind ?_))
  show wpAny _ _ (do let _ ← comprehension (.ListComp elt [⟨.Name x px, iter, ifs, 0⟩] scope pos) scope X.env _ (newList []) false (eval iter X.env) (some (assign (.Name y py) X.env))) _ _ s
  refine wpAny_bind (thn (wpAny_comprehension_free (use := some (assign (.Name y py) X.env)) (Q := fun _ s' => SP X pins D0 .next s') rfl hs hcl S.kind S.names (thn (hi pins s σ H _ I h) fun xv s1 h1 => thn h1 fun itv s2 h2 => ?_)) fun _ s' hq => wpAny_pure (wpAny_pure hq))
  obtain ⟨it, fp, tn, J, H2, e, I2, T, st2, f2, q⟩ := h2
  subst e
  refine comp_core (Q := fun v H => D0.nx (σ.set i (some v)) H) (RR := fun acc C => compPost (model X.prog X.w) X.A X.xe (some (assign (.Name y py) X.env)) (fun _ s' => SP X pins D0 .next s') acc C) S hcal hc ht he I2 T st2 f2 q ?_
  intro D C s' H' m' I' hn F' hq
  show wpAny _ _ (assign (.Name y py) X.env (.ref D)) _ _ s'
  refine wpAny_assign_Name (store_ok2 (v := .ref D) I' hN hiN hy rfl (fun s'' I'' ch => ?_) hf)
  obtain ⟨a, sb, ha⟩ := ch
  have ne : C ≠ a := by
    rcases ha with z | z
    · rw [z]; exact F'.2.1
    · exact Ne.symm (F'.2.2.2.2.1 y a z)
  refine ⟨m', hn.sameBut sb ne, fun h' sb' => ⟨_, H', I''.turned (t' := s''.toks) (fun b o hb e => (sb'.2 b hb).trans e) F'.1 F'.2.1 F'.2.2.2.1 F'.2.2.2.2.1 F'.2.2.2.2.2, hq⟩⟩
end
end L2
namespace L2
open PySem PySem.Spec PyProof.Rows
open AutoSeq1 (wpAny_loadPart')
section
variable {prog : Program} {w : World} {A : Around} {E : Value → Shared → Prop} {s : Shared}
end
section
variable {prog : Program} {w : World} {A : Around} {E : Value → Shared → Prop} {s : Shared}
end
end L2
namespace L2
open PySem PySem.Spec PyProof.Rows
section
variable {prog : Program} {w : World} {A : Around} {E : Value → Shared → Prop} {s : Shared}
end
end L2
namespace L2
open PySem PySem.Spec PyProof.Rows
section
variable {X : Cx} {pins : List (Addr × Obj)} {σ : St} {H : Hp} {s : Shared} {h' : Heap}
theorem Inv.turnedNew {t' : Nat} {ch : List Addr} {a : Addr} {o : HO} (I : Inv X pins σ H s) (k : ∀ b u, b ∉ ch → s.heap.get? b = some u → h'.get? b = some u) (hch : ∀ b ∈ ch, FpOk X pins H b)
    (hp : s.heap.objs.size ≤ a) (new : ObjOk X.prog X.w (upd H a o) h' a o) : Inv X pins σ (upd H a o) { s with heap := h', toks := t' } := by
  have hn : H a = none := I.hok.fresh hp
  have nch : ∀ b u, H b = some u → b ∉ ch := fun b u e z => by rw [(hch b z).1] at e; cases e
  refine I.step (g' := s.gens) (d' := s.drawn) (ch := ch) (fun b hb => ⟨(hch b hb).2.2.2.1, (hch b hb).2.1, (hch b hb).2.2.2.2.1, (hch b hb).2.2.2.2.2⟩) (fun b o _ _ hc e _ => k b o hc e) (fun b o _ _ hc e _ => ⟨o.slots, k b o hc e⟩)
    (fun b u hc e n => by rw [upd_ne (Nat.ne_of_lt (Nat.lt_of_lt_of_le (Heap.lt_size e) hp))]; exact n) (fun b o hc e => ⟨o, k b o hc e⟩) (fun b xs e => by rw [upd_ne (ne_of_none e hn)]; exact e) (fun b u xs e => by rw [upd_ne (ne_of_none e hn)]; exact e)
    (fun b ps e => ⟨#[], by rw [upd_ne (ne_of_none e hn), e]; simp⟩) (fun m hm => ?_) (fun b u e => ?_) I.bare
  · obtain ⟨ob, es, ep, ho, r⟩ := hm
    exact ⟨ob, es, ep, k _ ob (fun z => (hch _ z).2.1 rfl) ho, r⟩
  · by_cases hb : b = a
    · subst hb
      rw [upd_same] at e
      cases e
      exact new
    · rw [upd_ne hb] at e
      refine (I.hok b u e).stay (fun c v hc q => k c v ?_ q) (fun c q => by rw [upd_ne (ne_of_none q hn)]; exact q) fun c xs q => by rw [upd_ne (ne_of_none q hn)]; exact q
      rcases hc with z | z
      · rw [z]
        exact nch b u e
      · exact nch c _ z
end
section
variable {M : Model} {A : Around} {E : Value → Shared → Prop} {s : Shared} {env : Env}
end
section
variable {X : Cx} {es : List Expr} {kk : Nat} {pt : Pos}
end
end L2
namespace L2
open PySem PySem.Spec PyProof.Rows
open AutoSeq1 (wpAny_loadPart')
section
variable {X : Cx}
end
end L2
namespace L2
open PySem PySem.Spec PyProof.Rows
def compChk (fs : Scope) (N : List Str) (x : Str) (scope : Scope) : Bool :=
  decide (scope.kind = .function) && scope.names.all (fun y => decide (y.2 ≠ .cell)) && scope.names.all (fun y => decide (y.2 = .local → scope.names.lookup y.1 = some .local)) && decide (scope.names.lookup x = some .local) &&
  scope.names.all (fun y => decide (y.2 = .free → fs.names.lookup y.1 = some .cell ∨ fs.names.lookup y.1 = some .free)) &&
  N.all (fun y => match scope.names.lookup y with
    | none => true
    | some .free => decide (fs.names.lookup y = some .cell ∨ fs.names.lookup y = some .free)
    | some _ => false) && decide ((x :: N).Nodup)
theorem compSc_mk {X : Cx} {x : Str} {scope fs : Scope} {N : List Str} (hs : X.env.scope = fs) (hN : X.N = N) (c : compChk fs N x scope = true) : CompSc X x scope := by
  subst hs hN
  unfold compChk at c
  simp only [Bool.and_eq_true, List.all_eq_true, decide_eq_true_eq] at c
  obtain ⟨⟨⟨⟨⟨⟨c1, c2⟩, c3⟩, c4⟩, c5⟩, c6⟩, c7⟩ := c
  refine ⟨c1, c2, c3, c4, c5, fun y hy => ?_, c7⟩
  have q := c6 y hy
  unfold capOk
  cases e : scope.names.lookup y with
  | none => rfl
  | some k =>
    rw [e] at q
    cases k with
    | free =>
      have q2 : X.env.scope.names.lookup y = some .cell ∨ X.env.scope.names.lookup y = some .free := by simpa using q
      show (X.env.kindOf y == some .cell || X.env.kindOf y == some .free) = true
      have e2 : X.env.kindOf y = X.env.scope.names.lookup y := rfl
      rw [e2]
      rcases q2 with z | z <;> rw [z] <;> rfl
    | _ => simp at q
theorem comp_range {lo : Int} {n : Nat} {te : TE} {σ : St} {H : Hp} {Q : VK} (f : Nat → V) (hn : n < sizeLine)
    (he : ∀ (D : Addr) (i : Nat) (l : List V) (Q' : VK), H D = none → i < n → Q' (f i) (upd H D (.lst l)) → te (some (.int (lo + i)) :: σ) (upd H D (.lst l)) Q') (hd : ∀ D, H D = none → Q (.ref D) (upd H D (.lst ((List.range n).map f)))) :
    CompGo (Itr lo n) H σ ttAll te Q := by
  intro D hD
  refine ⟨fun i m H' => m = n - i ∧ i ≤ n ∧ H' = upd H D (.lst ((List.range i).map f)), ⟨n, by omega, Nat.zero_le _, rfl⟩, ?_⟩
  rintro i m H' ⟨rfl, hi, rfl⟩
  by_cases hlt : i < n
  · refine .inr ⟨hlt, fun x H2 y => ?_⟩
    obtain ⟨e, y⟩ := y
    subst e y
    unfold ttAll
    refine iteT ?_
    refine he D i _ _ hD hlt ⟨_, upd_same, ?_, n - (i + 1), by omega, rfl, hlt, ?_⟩
    · rw [List.length_map, List.length_range]; omega
    · rw [upd_upd, List.range_succ, List.map_append]
      rfl
  · have e : i = n := by omega
    subst e
    exact .inl ⟨Nat.le_refl _, hd D hD⟩
end L2
namespace L2
open PySem PySem.Spec PyProof.Rows
section
variable {X : Cx}
def rSlS : V → Option Int → Option Int → Hp → VK → Prop := fun x lo hi H Q => ∃ z, x = .str z ∧ z.length ≤ sizeLine ∧ ∀ y : Str, y.length ≤ z.length → Q (.str y) H
theorem sl_str : SlR X rSlS := by
  intro pins s σ H x v vl vu lo hi sl Q I rx hs pl pu h
  obtain ⟨z, e1, hz, q⟩ := h
  subst e1
  obtain ⟨t, e2⟩ := (show ∃ t, v = Value.str z t from rx)
  subst e2
  refine ⟨"str", _, F.slot_str_getitem.lookup, typeIs_str s z t, ?_⟩
  have parts : ∀ {v : Value} {o : Option Int}, IsPart v o → ∃ l : Option (Int × Tok), v = partValue l ∧ l.map (·.1) = o := fun {v o} p => by
    cases p with
    | none => exact ⟨none, rfl, rfl⟩
    | int i t => exact ⟨some (i, t), rfl, rfl⟩
  obtain ⟨l, el, ml⟩ := parts pl
  obtain ⟨u, eu, mu⟩ := parts pu
  subst el eu
  refine wpAny_getItem_str_slice (l := l) (u := u) (st := none) hs rfl ?_
  unfold sliceMade
  split
  · exact ⟨.str z, H, I, ⟨t, rfl⟩, q z (Nat.le_refl _)⟩
  · have le : (⟨((slicePicked z l u none).filterMap (z.cps[·]?)).toArray⟩ : Str).length ≤ z.length := by
      show ((slicePicked z l u none).filterMap (z.cps[·]?)).toArray.size ≤ _
      rw [List.size_toArray]
      exact Nat.le_trans (List.length_filterMap_le _ _) (sliceIndices_le _ _ _)
    exact ⟨Nat.le_trans le hz, .str _, H, I.tok _, ⟨_, rfl⟩, q _ le⟩
end
theorem comp_rangeG {lo : Int} {n : Nat} {tt : TT} {te : TE} {σ : St} {H : Hp} {Q : VK} (Pv : Addr → Nat → List V → Hp → Prop) (hn : n < sizeLine) (h0 : ∀ D, H D = none → Pv D 0 [] (upd H D (.lst [])))
    (hl : ∀ D i l H', Pv D i l H' → l.length ≤ i)
    (he : ∀ (D : Addr) (i : Nat) (l : List V) (H' : Hp) (Q1 : Bool → Hp → Prop), i < n → Pv D i l H' → (∀ b H2, (b = false → Pv D (i + 1) l H2) → (b = true → ∀ Q' : VK, (∀ y H3, H3 D = some (.lst l) → Pv D (i + 1) (l ++ [y]) (upd H3 D (.lst (l ++ [y]))) → Q' y H3) → te (some (.int (lo + i)) :: σ) H2 Q') → Q1 b H2) → tt (some (.int (lo + i)) :: σ) H' Q1)
    (hd : ∀ D l H', Pv D n l H' → Q (.ref D) H') : CompGo (Itr lo n) H σ tt te Q := by
  intro D hD
  refine ⟨fun i m H' => m = n - i ∧ i ≤ n ∧ ∃ l, Pv D i l H', ⟨n, by omega, Nat.zero_le _, [], h0 D hD⟩, ?_⟩
  rintro i m H' ⟨rfl, hi, l, hp⟩
  by_cases hlt : i < n
  · refine .inr ⟨hlt, fun x H2 y => ?_⟩
    obtain ⟨e, y⟩ := y
    subst e y
    refine he D i l H2 _ hlt hp fun b H3 hf ht => ?_
    cases b with
    | false =>
      refine iteF ?_
      exact ⟨n - (i + 1), by omega, rfl, hlt, l, hf rfl⟩
    | true =>
      refine iteT (ht rfl _ fun v H4 z1 z2 => ?_)
      have hl2 := hl D i l H2 hp
      exact ⟨l, z1, Nat.lt_of_le_of_lt hl2 (by omega), n - (i + 1), by omega, rfl, hlt, l ++ [v], z2⟩
  · have e : i = n := by omega
    subst e
    exact .inl ⟨Nat.le_refl _, hd D l H' hp⟩
section
variable {X : Cx} {K : PySem.W.Frag}
end
end L2
namespace L2
open PySem
section
variable {prog : Program} {w : World} {A : Around} {R : Result → Shared → Prop} {I Z : Addr} {fp wr : List Addr} {n : Nat} {P : Nat → Value → Prop} {St : Nat → Heap → Prop} {Ok : Heap → Prop}
end
section
variable {prog : Program} {w : World} {A : Around} {E : Value → Shared → Prop} {s : Shared}
end
end L2
namespace L2
open PySem PySem.Spec PyProof.Rows
theorem Vals.at {xs : List V} {us : List Value} {i : Nat} {u : Value} (r : Vals xs us) (h : us[i]? = some u) : ∃ x, xs[i]? = some x ∧ RelV x u := by
  have hi : i < us.length := (List.getElem?_eq_some_iff.mp h).1
  have hl := r.length
  obtain ⟨w, q, p⟩ := r.get (i := i) (x := xs[i]) (by simp [show i < xs.length by omega])
  rw [h] at q
  cases q
  exact ⟨xs[i], by simp [show i < xs.length by omega], p⟩
theorem bl_at {bs : List Bool} {us : List Value} {i : Nat} {u : Value} (r : Vals (bs.map V.bl) us) (h : us[i]? = some u) : ∃ b, bs[i]? = some b ∧ u = .bool b := by
  obtain ⟨x, hx, p⟩ := r.at h
  rw [List.getElem?_map] at hx
  cases e : bs[i]? with
  | none => rw [e] at hx; cases hx
  | some b =>
    rw [e] at hx
    have q : V.bl b = x := Option.some.inj hx
    subst q
    exact ⟨b, rfl, p⟩
theorem all_getD : ∀ bs : List Bool, ((List.range bs.length).all fun i => (bs[i]?).getD true) = bs.all id
  | [] => rfl
  | b :: bs => by
    have ih := all_getD bs
    rw [List.length_cons, List.range_succ_eq_map, List.all_cons, List.all_map, List.all_cons, ← ih]
    rfl
section
variable {X : Cx}
def rSumL (K : PySem.W.Frag) : List V → Hp → VK → Prop := fun xs H Q => ∃ (p : Addr) (ns : List Int), xs = [.ref p] ∧ SqL K H p (ns.map V.int) ∧ Q (.int ns.sum) H
theorem call_sumL (hc : X.calm = true) : CallR X (.builtin "sum") (rSumL X.K) := by
  intro pins s σ H xs us Q I r h
  obtain ⟨p, ns, e1, hS, q⟩ := h
  subst e1
  obtain ⟨u, e2, ru⟩ := vals1 r
  subst e2
  obtain rfl : u = Value.ref p := ru
  obtain ⟨its, rv, pl, hz⟩ := I.list hS
  have ia := intsAre_of rv
  obtain ⟨zs, ez⟩ := ia.allInts.items
  have en : ns = zs.toList.map (·.1) := by rw [← ia.numsOf, ← nums_intItems, ← ez]
  have hL := pl.isList
  rw [ez] at hL
  refine sum_intListG (I.ok.hd hc) hL fun h' tk t' hk => ?_
  have e2 : preSum (numAt zs) zs.size = ns.sum := by rw [preSum_eq, List.take_of_length_le (by simp), en]
  rw [e2]
  exact ⟨.int _, H, I.kept hk, ⟨t', rfl⟩, q⟩
def rAllL (K : PySem.W.Frag) : List V → Hp → VK → Prop := fun xs H Q => ∃ (p : Addr) (bs : List Bool), xs = [.ref p] ∧ SqL K H p (bs.map V.bl) ∧ Q (.bl (bs.all id)) H
theorem call_allL (hc : X.calm = true) : CallR X (.builtin "all") (rAllL X.K) := by
  intro pins s σ H xs us Q I r h
  obtain ⟨p, bs, e1, hS, q⟩ := h
  subst e1
  obtain ⟨u, e2, ru⟩ := vals1 r
  subst e2
  obtain rfl : u = Value.ref p := ru
  obtain ⟨its, rv, pl, hz⟩ := I.list hS
  have hL := pl.isList
  have lt : p < s.heap.objs.size := by
    obtain ⟨_, e, _⟩ := hL
    exact Heap.lt_size e
  refine call_all_walk (wpAny_pyIter_list hL ?_)
  refine ⟨s.heap.objs.size, [s.heap.objs.size, p], [s.heap.objs.size], its.toArray.size, _, _, fun i => (bs[i]?).getD true, rfl, Walks.list (A := X.A.in1) (I.ok.hd hc) _ p (Nat.ne_of_lt lt) its.toArray,
    ⟨⟨_, Heap.get?_push_size _ rfl, rfl, rfl⟩, hL.push _⟩, fun i v s' Q' E' hP hQ => ?_, fun h' tk hk => ?_⟩
  · obtain ⟨b, e, e3⟩ := bl_at rv (by simpa using hP)
    subst e3
    simp only [e, Option.getD_some] at hQ
    exact wpAny_truthy_bool hQ
  · have e : ((List.range its.toArray.size).all fun i => (bs[i]?).getD true) = bs.all id := by
      have hl := rv.length
      rw [List.length_map] at hl
      rw [List.size_toArray, ← hl, all_getD]
    rw [e]
    refine ⟨.bl _, H, I.kept (t' := tk) fun b o eb => hk b o (fun hm => ?_) (Heap.get?_push_of_some _ eb), rfl, q⟩
    rw [List.mem_singleton.mp hm] at eb
    exact Nat.lt_irrefl _ (Heap.lt_size eb)
def rEqN (K : PySem.W.Frag) (neg : Bool) : R2 := fun x y H Q => ∃ a b xs, x = .ref a ∧ y = .ref b ∧ SqL K H a xs ∧ SqL K H b [] ∧ Q (.bl (if neg then !xs.isEmpty else xs.isEmpty)) H
theorem op_eqN (hu : X.A.units < cLine) : OpR X (compareOp .Eq) (rEqN X.K false) := by
  intro pins s σ H x y v u Q I rx ry h
  obtain ⟨a, b, xs, e1, e2, hA, hB, q⟩ := h
  subst e1 e2
  obtain rfl : v = Value.ref a := rx
  obtain rfl : u = Value.ref b := ry
  obtain ⟨its, r, pl, hz⟩ := I.list hA
  obtain ⟨its2, r2, pl2, hz2⟩ := I.list hB
  have l1 := r.length
  have l2 := r2.length
  rw [List.length_nil] at l2
  cases xs with
  | nil =>
    rw [List.length_nil] at l1
    refine SeqAt.eq_listAt (e := fun _ => true) pl.isList pl2.isList (by rw [List.size_toArray, List.size_toArray]; omega) hu (fun j h1 h2 => by rw [List.size_toArray] at h1; omega) ⟨.bl true, H, I, ?_, q⟩
    show Value.bool _ = Value.bool true
    congr 1
    exact List.all_eq_true.mpr fun _ _ => rfl
  | cons x0 xs0 =>
    rw [List.length_cons] at l1
    refine SeqAt.eq_list_lengthsAt pl.isList pl2.isList ?_ hu ⟨.bl false, H, I, rfl, q⟩
    rw [List.size_toArray, List.size_toArray]
    simp
    omega
end
section
variable {X : Cx}
end
end L2
namespace L2
open PySem PySem.Spec PyProof.Rows
section
variable {κ : Type} [DecidableEq κ]
def valV (kvs : List (κ × V)) (k : κ) : Option V := (kvs.find? fun kv => decide (kv.1 = k)).map (·.2)
def putK (kvs : List (κ × V)) (k : κ) (v : V) : List (κ × V) :=
  if (kvs.any fun kv => decide (kv.1 = k)) = true then kvs.map (fun kv => if kv.1 = k then (kv.1, v) else kv) else kvs ++ [(k, v)]
theorem valV_pos {p : κ × V} {r : List (κ × V)} {k : κ} (e : p.1 = k) : valV (p :: r) k = some p.2 := by simp [valV, List.find?_cons, e]
theorem valV_neg {p : κ × V} {r : List (κ × V)} {k : κ} (e : ¬ p.1 = k) : valV (p :: r) k = valV r k := by simp [valV, List.find?_cons, e]
theorem valV_any (k : κ) : ∀ kvs : List (κ × V), (kvs.any fun kv => decide (kv.1 = k)) = (valV kvs k).isSome
  | [] => rfl
  | p :: r => by
    rw [List.any_cons]
    by_cases e : p.1 = k
    · simp only [valV_pos e, decide_eq_true e, Bool.true_or, Option.isSome_some]
    · rw [valV_neg e, decide_eq_false e, Bool.false_or]; exact valV_any k r
theorem length_putK (kvs : List (κ × V)) (k : κ) (v : V) : (putK kvs k v).length ≤ kvs.length + 1 := by
  unfold putK
  split
  · rw [List.length_map]; omega
  · rw [List.length_append, List.length_cons, List.length_nil]; omega
theorem putK_new {kvs : List (κ × V)} {k : κ} (v : V) (h : valV kvs k = none) : putK kvs k v = kvs ++ [(k, v)] := by
  unfold putK
  rw [valV_any, h]
  exact if_neg (by decide)
theorem RelO.isSome_eq {o : Option V} {u : Option Value} (r : RelO o u) : o.isSome = u.isSome := by
  cases o with
  | none => cases u with
    | none => rfl
    | some _ => exact (show False from r).elim
  | some _ => cases u with
    | none => exact (show False from r).elim
    | some _ => rfl
theorem KV.val {kvs : List (κ × V)} {vs : List (κ × Value)} (r : KV kvs vs) (k : κ) : RelO (valV kvs k) (valueAt vs k) := by
  unfold KV at r
  induction r with
  | nil => exact True.intro
  | @cons p q ps qs h t ih =>
    obtain ⟨h1, h2⟩ := h
    by_cases e : p.1 = k
    · have e' : q.1 = k := h1.symm.trans e
      have b : valueAt (q :: qs) k = some q.2 := by simp [valueAt, List.find?_cons, e']
      rw [valV_pos e, b]; exact h2
    · have e' : ¬ q.1 = k := fun z => e (h1.trans z)
      have b : valueAt (q :: qs) k = valueAt qs k := by simp [valueAt, List.find?_cons, e']
      rw [valV_neg e, b]; exact ih
theorem KV.any {kvs : List (κ × V)} {vs : List (κ × Value)} (r : KV kvs vs) (k : κ) : (kvs.any fun kv => decide (kv.1 = k)) = vs.any fun kv => decide (kv.1 = k) := by
  unfold KV at r
  induction r with
  | nil => rfl
  | cons h t ih => rw [List.any_cons, List.any_cons, ih, h.1]
theorem KV.repl {kvs : List (κ × V)} {vs : List (κ × Value)} (r : KV kvs vs) (k : κ) {y : V} {u : Value} (ry : RelV y u) :
    KV (kvs.map fun kv => if kv.1 = k then (kv.1, y) else kv) (vs.map fun kv => if kv.1 = k then (kv.1, u) else kv) := by
  unfold KV at r ⊢
  induction r with
  | nil => exact .nil
  | @cons p q ps qs h t ih =>
    rw [List.map_cons, List.map_cons]
    refine .cons ?_ ih
    obtain ⟨h1, h2⟩ := h
    by_cases e : p.1 = k
    · rw [if_pos e, if_pos (h1.symm.trans e)]; exact ⟨h1, ry⟩
    · rw [if_neg e, if_neg (fun z => e (h1.trans z))]; exact ⟨h1, h2⟩
theorem KV.put {kvs : List (κ × V)} {vs : List (κ × Value)} (r : KV kvs vs) (k : κ) {y : V} {u : Value} (ry : RelV y u) : KV (putK kvs k y) (stored vs k u) := by
  unfold putK stored
  rw [r.any k]
  by_cases e : (vs.any fun kv => decide (kv.1 = k)) = true
  · rw [if_pos e, if_pos e]; exact r.repl k ry
  · rw [if_neg e, if_neg e]; exact Paired.snoc r ⟨rfl, ry⟩
theorem KV.length {kvs : List (κ × V)} {vs : List (κ × Value)} (r : KV kvs vs) : kvs.length = vs.length := Paired.length r
end
theorem kV_is {P : Program} {w : World} {k : Key} {u : Value} (r : RelV (kV k) u) : (mixKind P w).is k u = true := by
  cases k with
  | inl i => obtain ⟨t, e⟩ := (show ∃ t, u = Value.int i t from r); subst e; exact mixKind_int P w i t
  | inr x => obtain ⟨t, e⟩ := (show ∃ t, u = Value.str x t from r); subst e; exact mixKind_str P w x t
theorem items_are {P : Program} {w : World} : ∀ {ks : List Key} {us : List Value}, Vals (ks.map kV) us → ItemsAre (mixKind P w) ks us
  | [], _, r => by rw [List.map_nil] at r; cases r; exact .nil
  | k :: ks, _, r => by
    rw [List.map_cons] at r
    cases r with
    | cons h t => exact .cons (kV_is h) (items_are t)
abbrev KT (H : Hp) : List (List Key × V) → List (List Key × Addr × Value) → Prop := Paired fun p q => p.1 = q.1 ∧ H q.2.1 = some (.tup (p.1.map kV)) ∧ RelV p.2 q.2.2
theorem KT.val {H : Hp} {kvs : List (List Key × V)} {xs : List (List Key × Addr × Value)} (r : KT H kvs xs) (k : List Key) : RelO (valV kvs k) ((atKey xs k).map (·.2)) := by
  induction r with
  | nil => exact True.intro
  | @cons p q ps qs h t ih =>
    obtain ⟨h1, _, h2⟩ := h
    by_cases e : p.1 = k
    · have e' : q.1 = k := h1.symm.trans e
      have b : atKey (q :: qs) k = some q.2 := by simp [atKey, List.find?_cons, e']
      rw [valV_pos e, b]; exact h2
    · have e' : ¬ q.1 = k := fun z => e (h1.trans z)
      have b : atKey (q :: qs) k = atKey qs k := by simp [atKey, List.find?_cons, e']
      rw [valV_neg e, b]; exact ih
theorem KT.repl {H : Hp} {kvs : List (List Key × V)} {xs : List (List Key × Addr × Value)} (r : KT H kvs xs) (k : List Key) {y : V} {u : Value} (ry : RelV y u) :
    KT H (kvs.map fun kv => if kv.1 = k then (kv.1, y) else kv) (xs.map (putAt k u)) := by
  induction r with
  | nil => exact .nil
  | @cons p q ps qs h t ih =>
    rw [List.map_cons, List.map_cons]
    refine .cons ?_ ih
    obtain ⟨h1, h2, h3⟩ := h
    unfold putAt
    by_cases e : p.1 = k
    · rw [if_pos e, if_pos (h1.symm.trans e)]; exact ⟨h1, h2, ry⟩
    · rw [if_neg e, if_neg (fun z => e (h1.trans z))]; exact ⟨h1, h2, h3⟩
theorem KT.put {H : Hp} {kvs : List (List Key × V)} {xs : List (List Key × Addr × Value)} (r : KT H kvs xs) (k : List Key) {b : Addr} {y : V} {u : Value} (hb : H b = some (.tup (k.map kV))) (ry : RelV y u) :
    KT H (putK kvs k y) (storedH xs k b u) := by
  have e : (kvs.any fun kv => decide (kv.1 = k)) = (atKey xs k).isSome := by
    rw [valV_any, (r.val k).isSome_eq, Option.isSome_map]
  unfold putK storedH
  rw [e]
  by_cases q : (atKey xs k).isSome = true
  · rw [if_pos q, if_pos q]; exact r.repl k ry
  · rw [if_neg q, if_neg q]; exact Paired.snoc r ⟨rfl, hb, ry⟩
theorem KT.keeps {H H' : Hp} {kvs : List (List Key × V)} {xs : List (List Key × Addr × Value)} (r : KT H kvs xs) (ht : ∀ b ys, H b = some (.tup ys) → H' b = some (.tup ys)) : KT H' kvs xs :=
  Paired.mapP r fun _ _ z => ⟨z.1, ht _ _ z.2.1, z.2.2⟩
section
variable {P : Program} {w : World} {H : Hp} {h : Heap} {a : Addr}
theorem rd_of {u : HO} (ok : HOk P w H h) (e : Rd H a u) : ObjOk P w H h a u := e.ok ok
theorem dk_rd {kvs : List (Key × V)} (ok : HOk P w H h) (e : Rd H a (.dK kvs)) : kvs.length ≤ sizeLine ∧ (a == sysModules) = false ∧ ∃ vs, KV kvs vs ∧ h.DictOf (mixKind P w) a vs :=
  show ObjOk P w H h a (.dK kvs) from rd_of ok e
theorem dk_of {kvs : List (Key × V)} (ok : HOk P w H h) (e : H a = some (.dK kvs)) : kvs.length ≤ sizeLine ∧ (a == sysModules) = false ∧ ∃ vs, KV kvs vs ∧ h.DictOf (mixKind P w) a vs := dk_rd ok (.inl e)
theorem key_of {ks : List Key} (ok : HOk P w H h) (e : H a = some (.tup (ks.map kV))) : (tupleKind (mixKind P w)).is h ks a := by
  obtain ⟨_, its, r, o, h1, h2, n, h3⟩ := (show ObjOk P w H h a (.tup (ks.map kV)) from ok a _ e)
  exact ⟨o, its.toArray, n, h1, h2, h3, by simpa using items_are r⟩
theorem dt_rd {kvs : List (List Key × V)} (ok : HOk P w H h) (e : Rd H a (.dT kvs)) : kvs.length ≤ sizeLine ∧ (a == sysModules) = false ∧
    ∃ xs, KT H kvs xs ∧ h.DictOfH (tupleKind (mixKind P w)) a xs := by
  obtain ⟨z, y, xs, r, o, es, ep, h1, h2, h3, h4, h5⟩ := (show ObjOk P w H h a (.dT kvs) from rd_of ok e)
  refine ⟨z, y, xs, r, o, es, ep, h1, h2, h3, h4, fun x hx => ?_, h5⟩
  have all : ∀ {l : List (List Key × V)} {m : List (List Key × Addr × Value)}, KT H l m → ∀ x ∈ m, (tupleKind (mixKind P w)).is h x.1 x.2.1 := by
    intro l m q
    induction q with
    | nil => intro x hx; exact nomatch hx
    | @cons p q ps qs hq t ih =>
      intro x hx
      rcases List.mem_cons.mp hx with e | hx
      · subst e
        exact key_of ok (by rw [← hq.1]; exact hq.2.1)
      · exact ih x hx
  exact all r x hx
theorem dt_of {kvs : List (List Key × V)} (ok : HOk P w H h) (e : H a = some (.dT kvs)) : kvs.length ≤ sizeLine ∧ (a == sysModules) = false ∧
    ∃ xs, KT H kvs xs ∧ h.DictOfH (tupleKind (mixKind P w)) a xs := dt_rd ok (.inl e)
end
def DGet (H : Hp) (a : Addr) (y : V) (r : Option V) : Prop :=
  (∃ kvs k, Rd H a (.dK kvs) ∧ y = kV k ∧ r = valV kvs k) ∨ ∃ kvs k b, Rd H a (.dT kvs) ∧ y = .ref b ∧ H b = some (.tup (k.map kV)) ∧ r = valV kvs k
def DPut (H : Hp) (a : Addr) (y v : V) (H' : Hp) : Prop :=
  (∃ kvs k, H a = some (.dK kvs) ∧ y = kV k ∧ kvs.length < sizeLine ∧ H' = upd H a (.dK (putK kvs k v))) ∨
  ∃ kvs k b, H a = some (.dT kvs) ∧ y = .ref b ∧ H b = some (.tup (k.map kV)) ∧ kvs.length < sizeLine ∧ H' = upd H a (.dT (putK kvs k v))
theorem DGet.k {H : Hp} {a : Addr} {kvs : List (Key × V)} {k : Key} (e : H a = some (.dK kvs)) : DGet H a (kV k) (valV kvs k) := .inl ⟨kvs, k, .inl e, rfl, rfl⟩
theorem DPut.k {H : Hp} {a : Addr} {kvs : List (Key × V)} {k : Key} {v : V} (e : H a = some (.dK kvs)) (hl : kvs.length < sizeLine) : DPut H a (kV k) v (upd H a (.dK (putK kvs k v))) := .inl ⟨kvs, k, e, rfl, hl, rfl⟩
section
variable {X : Cx} {pins : List (Addr × Obj)} {σ : St} {H : Hp} {s : Shared} {a : Addr} {y v : V} {u r : Value} {o : Option V} {A : Around} {E : Value → Shared → Prop}
theorem Inv.big (I : Inv X pins σ H s) : sysModules < s.heap.objs.size := by
  have h : mainGlobals < s.heap.objs.size := (I.mod.glob.keeps I.bk).lt
  exact Nat.lt_trans (by decide) h
theorem d_getItem {Q : Value → Shared → Prop} (hu : A.units + 1 < cLine) (I : Inv X pins σ H s) (g : DGet H a y (some v)) (ry : RelV y u) (h : ∀ w' s', Inv X pins σ H s' → RelV v w' → Q w' s') :
    wpAny (model X.prog X.w) A (getItem (.ref a) u) Q E s := by
  rcases g with ⟨kvs, k, e, ey, l⟩ | ⟨kvs, k, b, e, ey, eb, l⟩
  · subst ey
    obtain ⟨z, hd, vs, rel, dd⟩ := dk_rd I.hok e
    obtain ⟨w', hw, rw'⟩ := RelO.some_of (v := v) (o := valueAt vs k) (by rw [l]; exact rel.val k)
    exact wpAny_getItem_of (kV_is ry) dd.mapOf hw (h w' _ (I.tok _) rw')
  · subst ey
    cases (show u = Value.ref b from ry)
    obtain ⟨z, hd, xs, rel, dd⟩ := dt_rd I.hok e
    obtain ⟨w', hw, rw'⟩ := RelO.some_of (v := v) (o := (atKey xs k).map (·.2)) (by rw [l]; exact rel.val k)
    obtain ⟨p, hp, hp2⟩ := Option.map_eq_some_iff.mp hw
    refine wpAny_getItem_heap (tupleKind_room_in1 hu) (key_of I.hok eb) dd hp ?_
    rw [hp2]
    exact h w' _ (I.tok _) rw'
theorem d_in {Q : Value → Shared → Prop} (hu : A.units + 1 < cLine) (I : Inv X pins σ H s) (g : DGet H a y o) (ry : RelV y u) (h : ∀ s', Inv X pins σ H s' → Q (.bool o.isSome) s') :
    wpAny (model X.prog X.w) A (compareOp .In u (.ref a)) Q E s := by
  rcases g with ⟨kvs, k, e, ey, l⟩ | ⟨kvs, k, b, e, ey, eb, l⟩
  · subst ey
    obtain ⟨z, hd, vs, rel, dd⟩ := dk_rd I.hok e
    refine wpAny_in_of (kV_is ry) hd dd.mapOf ?_
    rw [← (rel.val k).isSome_eq, ← l]
    exact h _ (I.tok _)
  · subst ey
    cases (show u = Value.ref b from ry)
    obtain ⟨z, hd, xs, rel, dd⟩ := dt_rd I.hok e
    refine wpAny_in_heap (tupleKind_room_in1 hu) (key_of I.hok eb) hd dd ?_
    have q := (rel.val k).isSome_eq
    rw [Option.isSome_map] at q
    rw [← q, ← l]
    exact h _ (I.tok _)
theorem d_write {h' : Heap} {t' : Nat} {ob : HO} (I : Inv X pins σ H s) (mu : Mut (H a)) (hs : Heap.SameBut a s.heap h') (he : ∃ q, h'.get? a = some q) (new : ObjOk X.prog X.w (upd H a ob) h' a ob) :
    Inv X pins σ (upd H a ob) { s with heap := h', toks := t' } :=
  I.write (x := a) (e := a) mu (.inl rfl) (fun b q hb z => (hs.2 b hb).trans z) he new
theorem dk_new {P : Program} {w : World} {H' : Hp} {h' : Heap} {kvs : List (Key × V)} {vs : List (Key × Value)} (z : kvs.length ≤ sizeLine) (hd : (a == sysModules) = false) (rel : KV kvs vs) (dd : h'.DictOf (mixKind P w) a vs) :
    ObjOk P w H' h' a (.dK kvs) := ⟨z, hd, vs, rel, dd⟩
theorem d_setItem {H' : Hp} {Q : Unit → Shared → Prop} (hu : A.units + 1 < cLine) (I : Inv X pins σ H s) (g : DPut H a y v H') (ry : RelV y u) (rv : RelV v r) (h : ∀ s', Inv X pins σ H' s' → Q () s') :
    wpAny (model X.prog X.w) A (setItem (.ref a) u r) Q E s := by
  rcases g with ⟨kvs, k, e, ey, l, eH⟩ | ⟨kvs, k, b, e, ey, eb, l, eH⟩
  · subst ey eH
    obtain ⟨z, hd, vs, rel, dd⟩ := dk_of I.hok e
    have hz : vs.length ≤ sizeLine := by rw [← rel.length]; exact z
    have hl : (putK kvs k v).length ≤ sizeLine := by have := length_putK kvs k v; omega
    refine wpAny_setItem_pairs (hsz := hz) (kV_is ry) dd fun h' dd' hs => h _ ?_
    have he : ∃ q, h'.get? a = some q := let ⟨q, _, _, hq, _⟩ := dd'; ⟨q, hq⟩
    exact d_write I (by rw [e]; exact True.intro) hs he (dk_new hl hd (rel.put k rv) dd')
  · subst ey eH
    cases (show u = Value.ref b from ry)
    obtain ⟨z, hd, xs, rel, dd⟩ := dt_of I.hok e
    have hz : xs.length ≤ sizeLine := by rw [← Paired.length rel]; exact z
    have hl : (putK kvs k v).length ≤ sizeLine := by have := length_putK kvs k v; omega
    refine wpAny_setItem_heap (hsz := hz) (tupleKind_room_in1 hu) (key_of I.hok eb) dd fun h' dd' hs => h _ ?_
    obtain ⟨q, es, ep, hq, h2, h3, h4, _, h5⟩ := dd'
    refine d_write I (by rw [e]; exact True.intro) hs ⟨q, hq⟩ ⟨hl, hd, _, (rel.put k eb rv).keeps fun c ys ec => ?_, q, es, ep, hq, h2, h3, h4, h5⟩
    rw [upd_ne (ne_of ec e (fun z => nomatch z))]
    exact ec
end
section
variable {X : Cx} {pins : List (Addr × Obj)} {σ : St} {H : Hp} {s : Shared} {a : Addr} {kvs : List (Key × V)} {k : Key} {u : Value} {A : Around} {E : Value → Shared → Prop}
end
def NoSl (i : Expr) : Prop := ∀ ov iv, subscripted i false ov iv = operate [ov, iv] (getItem ov iv)
theorem subD_of {prog : Program} {w : World} {A : Around} {E : Value → Shared → Prop} {s : Shared} {env : Env} {value slice : Expr} {pos : Pos} {T id : String} {Q : Value → Shared → Prop}
    (hl : typeLookup (.type T) "__getitem__" = pure (some (.builtin id))) (hs : NoSl slice)
    (h : wpAny (model prog w) A (eval value env) (fun o s₁ => wpAny (model prog w) A (eval slice env) (fun i s₂ => s₂.TypeIs o T ∧ wpAny (model prog w) A (getItem o i) Q E s₂) E s₁) E s) :
    wpAny (model prog w) A (eval (.Subscript value slice pos) env) Q E s := by
  refine Subscript_ (wpAny_mono h (fun o s₁ h₁ => wpAny_mono h₁ (fun i s₂ h₂ => ?_) fun _ _ x => x) fun _ _ x => x)
  obtain ⟨hT, h₂⟩ := h₂
  unfold subscriptTail
  refine wpAny_bind ?_
  rw [getitemInPython_of_ne hT.not_modules]
  refine wpAny_bind (wpAny_specialOf hT hl ?_)
  have fin : wpAny (model prog w) A (subscripted slice false o i) (fun r s₃ => wpAny (model prog w) A (letTemporaryGo value o r >>= fun _ => pure r) Q E s₃) E s₂ := by
    rw [hs o i]
    exact wpAny_operating (wpAny_mono h₂ (fun r s₃ h₃ => wpAny_bind (wpAny_letTemporaryGo (wpAny_pure h₃))) fun _ _ x => x)
  first
    | exact wpAny_pure (wpAny_bind fin)
    | exact wpAny_bind (wpAny_pure (wpAny_bind fin))
    | exact wpAny_bind fin
theorem dict_typeIs {X : Cx} {pins : List (Addr × Obj)} {σ : St} {H : Hp} {s : Shared} {a : Addr} {y : V} {o : Option V} (I : Inv X pins σ H s) (g : DGet H a y o) : s.TypeIs (.ref a) "dict" := by
  rcases g with ⟨kvs, k, e, _, _⟩ | ⟨kvs, k, b, e, _, _, _⟩
  · obtain ⟨_, _, vs, _, dd⟩ := dk_rd I.hok e
    exact dd.typeIs
  · obtain ⟨_, _, xs, _, dd⟩ := dt_rd I.hok e
    exact dd.typeIs
def tDGet (td ty : TE) : TE := fun σ H Q => td σ H fun x H1 => ty σ H1 fun y H2 => ∃ a v, x = .ref a ∧ DGet H2 a y (some v) ∧ Q v H2
def tDIn (ty td : TE) : TE := fun σ H Q => ty σ H fun y H1 => td σ H1 fun x H2 => ∃ a o, x = .ref a ∧ DGet H2 a y o ∧ Q (.bl o.isSome) H2
def sDPut (td ty tv : TE) : TS := fun D σ H => tv σ H fun v H1 => td σ H1 fun x H2 => ty σ H2 fun y H3 => ∃ a H4, x = .ref a ∧ DPut H3 a y v H4 ∧ D.nx σ H4
section
variable {X : Cx} {o i e value : Expr} {pos pos' tpos : Pos} {td ty tv : TE}
theorem pe_dget (hu : X.A.units + 1 < cLine) (ho : PE X o td) (hi : PE X i ty) (hs : NoSl i) : PE X (.Subscript o i pos) (tDGet td ty) := by
  intro pins s σ H Q I h
  refine subD_of PySem.F.slot_dict_getitem.lookup hs (thn (ho pins s σ H _ I h) fun u s1 ⟨x, H1, I1, rx, q1⟩ => thn (hi pins s1 σ H1 _ I1 q1) fun iv s2 ⟨y, H2, I2, ry, a, v, ex, g, q2⟩ => ?_)
  subst ex
  obtain rfl : u = Value.ref a := rx
  exact ⟨dict_typeIs I2 g, d_getItem hu I2 g ry fun w' s3 I3 rw' => ⟨v, H2, I3, rw', q2⟩⟩
theorem pc_din (hu : X.A.units + 1 < cLine) (hi : PE X i ty) (ho : PE X o td) : PC X .In i o (tDIn ty td) := by
  intro pins s σ H Q I h
  refine thn (hi pins s σ H _ I h) fun iv s1 ⟨y, H1, I1, ry, q1⟩ => thn (ho pins s1 σ H1 _ I1 q1) fun u s2 ⟨x, H2, I2, rx, a, ov, ex, g, q2⟩ => ?_
  subst ex
  obtain rfl : u = Value.ref a := rx
  exact d_in hu I2 g ry fun s3 I3 => ⟨.bl ov.isSome, H2, I3, rfl, q2⟩
theorem ps_dput (hu : X.A.units + 1 < cLine) (ho : PE X o td) (hi : PE X i ty) (hv : PE X value tv) (hs : swapsWith value (some (.Subscript o i pos')) pos.line X.env = pure false) :
    PS X (.Assign [.Subscript o i pos'] value pos) (sDPut td ty tv) := by
  intro pins s σ H D I h
  refine wpAny_Assign_Subscript (thn (hv pins s σ H _ I h) fun r s1 ⟨v, H1, I1, rv, q1⟩ => thn (ho pins s1 σ H1 _ I1 q1) fun u s2 ⟨x, H2, I2, rx, q2⟩ => thn (hi pins s2 σ H2 _ I2 q2) fun iv s3 ⟨y, H3, I3, ry, a, H4, ex, g, q3⟩ => ?_) hs
  subst ex
  obtain rfl : u = Value.ref a := rx
  exact d_setItem hu I3 g ry rv fun s4 I4 => ⟨σ, H4, I4, q3⟩
end
theorem dk_empty {P : Program} {w : World} {H : Hp} (h : Heap) (hb : sysModules < h.objs.size) : ObjOk P w H (h.push { cls := .type "dict", data := .dict #[] }) h.objs.size (.dK []) :=
  ⟨Nat.zero_le _, beq_eq_false_iff_ne.mpr (Ne.symm (Nat.ne_of_lt hb)), [], .nil, Heap.DictOf.new h⟩
def tDNewK : TE := fun _ H Q => ∀ p, H p = none → Q (.ref p) (upd H p (.dK []))
section
variable {X : Cx} {pos : Pos}
theorem pe_dnewK : PE X (.Dict [] [] pos) tDNewK := fun pins s σ H Q I h =>
  wpAny_Dict_empty ⟨.ref s.heap.objs.size, _, I.laid (a := s.heap.objs.size) (o := .dK []) (t' := s.toks) (fun _ _ q => Heap.get?_push_of_some _ q) (Nat.le_refl _) (dk_empty s.heap I.big), rfl, h _ (I.hok.fresh (Nat.le_refl _))⟩
end
structure M1 (X : Cx) (o : Expr) (m : Str) (apos : Pos) (e : Expr) (cpos : Pos) : Prop where
  base : attributeBase o m X.env (eval o X.env) = eval o X.env
  few : ((backTo cpos (starEach [e] X.env)).all (fun x => !x.1) && (backToKw cpos (keywordEach [] X.env)).all (fun x => x.1.isSome)
    && decide (([e] : List Expr).length + ([] : List Keyword).length + (if ([] : List Keyword).isEmpty then 0 else 1) < 30)) = true
  line : (apos.endLine == cpos.line) = true
  trees : backTo cpos (starEach [e] X.env) = [(false, eval e X.env)]
structure M2 (X : Cx) (o : Expr) (m : Str) (apos : Pos) (e f : Expr) (cpos : Pos) : Prop where
  base : attributeBase o m X.env (eval o X.env) = eval o X.env
  few : ((backTo cpos (starEach [e, f] X.env)).all (fun x => !x.1) && (backToKw cpos (keywordEach [] X.env)).all (fun x => x.1.isSome)
    && decide (([e, f] : List Expr).length + ([] : List Keyword).length + (if ([] : List Keyword).isEmpty then 0 else 1) < 30)) = true
  line : (apos.endLine == cpos.line) = true
  trees : backTo cpos (starEach [e, f] X.env) = [(false, eval e X.env), (false, eval f X.env)]
def IsD (H : Hp) (a : Addr) : Prop := (∃ kvs, Rd H a (.dK kvs)) ∨ ∃ kvs, Rd H a (.dT kvs)
theorem isD_at {X : Cx} {pins : List (Addr × Obj)} {σ : St} {H : Hp} {s : Shared} {a : Addr} (I : Inv X pins σ H s) (d : IsD H a) :
    s.TypeIs (.ref a) "dict" ∧ (∀ b, Value.ref a = .ref b → ∃ ob, s.heap.get? b = some ob ∧ ob.dict = none) ∧ (a == sysModules) = false := by
  rcases d with ⟨kvs, e⟩ | ⟨kvs, e⟩
  · obtain ⟨_, hd, vs, _, dd⟩ := dk_rd I.hok e
    refine ⟨dd.typeIs, fun b q => ?_, hd⟩
    cases q
    obtain ⟨ob, _, _, h1, h2, _⟩ := dd
    exact ⟨ob, h1, h2.2.1⟩
  · obtain ⟨_, hd, xs, _, dd⟩ := dt_rd I.hok e
    refine ⟨dd.typeIs, fun b q => ?_, hd⟩
    cases q
    obtain ⟨ob, _, _, h1, h2, _⟩ := dd
    exact ⟨ob, h1, h2.2.1⟩
section
variable {X : Cx} {pins : List (Addr × Obj)} {σ : St} {H : Hp} {s : Shared} {a : Addr} {y d : V} {u r : Value} {o : Option V} {A : Around} {E : Value → Shared → Prop}
end
section
variable {X : Cx} {o e f : Expr} {apos cpos : Pos} {td ty tx : TE}
end
section
variable {X : Cx} {pins : List (Addr × Obj)} {σ : St} {H : Hp} {s : Shared} {a : Addr} {kvs : List (Key × V)} {A : Around} {E : Value → Shared → Prop}
end
section
variable {X : Cx} {pins : List (Addr × Obj)} {σ : St} {H : Hp} {s : Shared} {a : Addr} {y : V} {u : Value} {A : Around} {E : Value → Shared → Prop}
end
end L2
namespace S2
open PySem L2
theorem Same.put {H H2 : Hp} {l : Addr} {o : HO} (s : Same H H2) (hn : H l = none) : Same H (upd H2 l o) := fun b u e => by
  rw [upd_ne (ne_of_none e hn)]
  exact s b u e
theorem get_lt {α : Type} {l : List α} {i : Nat} {x : α} (h : l[i]? = some x) : i < l.length := (List.getElem?_eq_some_iff.mp h).1
theorem small {n : Nat} (h : n ≤ 100000) : n < sizeLine := Nat.lt_of_le_of_lt h (by decide)
theorem smallE {n : Nat} (h : n ≤ 100000) : n ≤ sizeLine := Nat.le_of_lt (small h)
def cellsOf (i j : Nat) (ns : List Int) : List Int := (ns.drop (min i ns.length)).take (min j ns.length - min i ns.length)
theorem cells_cut (i j : Nat) (ns : List Int) : cutV (ns.map V.int) (some (i : Int)) (some (j : Int)) = (cellsOf i j ns).map V.int := by
  unfold cutV cellsOf
  have e1 := HT.sIx_nat (ns.map V.int).length 0 i
  have e2 := HT.sIx_nat (ns.map V.int).length (ns.map V.int).length j
  rw [e1, e2, List.length_map, List.map_take, List.map_drop]
theorem iteB {A B : Prop} {c : Bool} (h : c = true) (a : A) : if c = true then A else B := by rw [if_pos h]; exact a
theorem iteC {A B : Prop} {c : Bool} (h : c = false) (b : B) : if c = true then A else B := by rw [if_neg (by rw [h]; exact Bool.false_ne_true)]; exact b
theorem nat_of {z : Int} {n : Nat} (h0 : 0 ≤ z) (h1 : z < (n : Int)) : ∃ i : Nat, z = (i : Int) ∧ i < n := ⟨z.toNat, by omega, by omega⟩
end S2
namespace L2
open PySem PySem.Spec PyProof.Rows
inductive EqD (K : PySem.W.Frag) (H : Hp) : Nat → V → V → Bool → Prop
  | flat {n : Nat} {x y : V} (fx : flatV x = true) (fy : flatV y = true) : EqD K H n x y (eqV x y)
  | same {n : Nat} {a : Addr} : EqD K H n (.ref a) (.ref a) true
  | lst {n : Nat} {a b : Addr} {xs ys : List V} (ne : a ≠ b) (hA : SqL K H a xs) (hB : SqL K H b ys) (hl : xs.length = ys.length) (e : Nat → Bool)
      (he : ∀ (j : Nat) (x y : V), xs[j]? = some x → ys[j]? = some y → EqD K H n x y (e j)) : EqD K H (n + 1) (.ref a) (.ref b) ((List.range xs.length).all e)
  | tup {n : Nat} {a b : Addr} {xs ys : List V} (ne : a ≠ b) (hA : SqT K H a xs) (hB : SqT K H b ys) (hl : xs.length = ys.length) (e : Nat → Bool)
      (he : ∀ (j : Nat) (x y : V), xs[j]? = some x → ys[j]? = some y → EqD K H n x y (e j)) : EqD K H (n + 1) (.ref a) (.ref b) ((List.range xs.length).all e)
theorem all_true_range (n : Nat) : ((List.range n).all fun _ => true) = true := List.all_eq_true.mpr fun _ _ => rfl
theorem EqD.tupT {K : PySem.W.Frag} {H : Hp} {n : Nat} {a b : Addr} {xs ys : List V} (hA : SqT K H a xs) (hB : SqT K H b ys) (hl : xs.length = ys.length) (he : ∀ (j : Nat) (x y : V), xs[j]? = some x → ys[j]? = some y → EqD K H n x y true) : EqD K H (n + 1) (.ref a) (.ref b) true := by
  by_cases ne : a = b
  · subst ne
    exact .same
  · have := EqD.tup ne hA hB hl (fun _ => true) he
    rw [all_true_range] at this
    exact this
theorem EqD.lstT {K : PySem.W.Frag} {H : Hp} {n : Nat} {a b : Addr} {xs ys : List V} (hA : SqL K H a xs) (hB : SqL K H b ys) (hl : xs.length = ys.length) (he : ∀ (j : Nat) (x y : V), xs[j]? = some x → ys[j]? = some y → EqD K H n x y true) : EqD K H (n + 1) (.ref a) (.ref b) true := by
  by_cases ne : a = b
  · subst ne
    exact .same
  · have := EqD.lst ne hA hB hl (fun _ => true) he
    rw [all_true_range] at this
    exact this
theorem eqV_same : ∀ {x : V}, flatV x = true → eqV x x = true
  | .non, _ => rfl
  | .bl b, _ => by show (b == b) = true; simp
  | .int i, _ => by show (i == i) = true; simp
  | .str z, _ => by show (z == z) = true; simp
  | .ref _, h => nomatch (show false = true from h)
theorem EqD.refl {K : PySem.W.Frag} {H : Hp} {n : Nat} {x : V} (h : flatV x = true) : EqD K H n x x true := by
  have := EqD.flat (K := K) (H := H) (n := n) h h
  rw [eqV_same h] at this
  exact this
section
variable {X : Cx}
theorem vals_at {xs : List V} {us : List Value} (r : Vals xs us) (j : Nat) (h1 : j < us.toArray.size) : ∃ x, xs[j]? = some x ∧ RelV x us.toArray[j] := by
  have l1 := r.length
  rw [List.size_toArray] at h1
  have g1 : j < xs.length := by omega
  obtain ⟨w1, q1, p1⟩ := r.get (i := j) (x := xs[j]) (by simp [g1])
  have s1 : us.toArray[j] = w1 := by
    rw [List.getElem?_eq_getElem h1] at q1
    simpa using q1
  exact ⟨xs[j], by simp [g1], by rw [s1]; exact p1⟩
theorem eqD_at {pins : List (Addr × Obj)} {σ : St} {H : Hp} {s : Shared} (I : Inv X pins σ H s) {n : Nat} {x y : V} {b : Bool} (h : EqD X.K H n x y b) :
    ∀ {A : Around} {u v : Value}, A.units + n < cLine → RelV x u → RelV y v → SeqAt.EqAt A s u v b := by
  induction h with
  | flat fx fy => intro A u v _ rx ry; exact eqAt_V rx ry fx fy
  | @same n a =>
    intro A u v _ rx ry
    obtain rfl : u = Value.ref a := rx
    obtain rfl : v = Value.ref a := ry
    exact SeqAt.EqAt.same _
  | @lst n a b xs ys ne hA hB hl e he ih =>
    intro A u v hu rx ry
    obtain rfl : u = Value.ref a := rx
    obtain rfl : v = Value.ref b := ry
    obtain ⟨its, r, pl, hz⟩ := I.list hA
    obtain ⟨its2, r2, pl2, hz2⟩ := I.list hB
    have l1 := r.length
    have l2 := r2.length
    have rc := SeqAt.RcAt.lists (A := A) (s := s) (e := e) pl.isList pl2.isList (by rw [List.size_toArray, List.size_toArray]; omega) (by omega) (fun j h1 h2 => by
      obtain ⟨x, ex, rx⟩ := vals_at r j h1
      obtain ⟨y, ey, ry⟩ := vals_at r2 j h2
      exact ih j x y ex ey (show A.units + 1 + n < cLine by omega) rx ry)
    rw [List.size_toArray, ← l1] at rc
    exact SeqAt.EqAt.of_refs ne rc
  | @tup n a b xs ys ne hA hB hl e he ih =>
    intro A u v hu rx ry
    obtain rfl : u = Value.ref a := rx
    obtain rfl : v = Value.ref b := ry
    obtain ⟨its, r, pl, hz⟩ := I.tuple hA
    obtain ⟨its2, r2, pl2, hz2⟩ := I.tuple hB
    have l1 := r.length
    have l2 := r2.length
    have rc := SeqAt.RcAt.tuples (A := A) (s := s) (e := e) pl pl2 (by omega) (fun j h1 h2 => by
      obtain ⟨x, ex, rx⟩ := vals_at r j h1
      obtain ⟨y, ey, ry⟩ := vals_at r2 j h2
      exact ih j x y ex ey (show A.units + 1 + n < cLine by omega) rx ry)
    have e1 : min its.toArray.size its2.toArray.size = xs.length := by rw [List.size_toArray, List.size_toArray]; omega
    have e2 : (its.toArray.size == its2.toArray.size) = true := by rw [List.size_toArray, List.size_toArray]; exact beq_iff_eq.mpr (by omega)
    rw [e1, e2, Bool.and_true] at rc
    exact SeqAt.EqAt.of_refs ne rc
def rDeep (K : PySem.W.Frag) (neg : Bool) : R2 := fun x y H Q => ∃ (a b : Addr) (xs ys : List V) (e : Nat → Bool), x = .ref a ∧ y = .ref b ∧ ((SqL K H a xs ∧ SqL K H b ys) ∨ (SqT K H a xs ∧ SqT K H b ys)) ∧ xs.length = ys.length ∧
  (∀ (j : Nat) (x y : V), xs[j]? = some x → ys[j]? = some y → EqD K H 8 x y (e j)) ∧ Q (.bl (if neg then !((List.range xs.length).all e) else (List.range xs.length).all e)) H
theorem op_eqDeep (hu : X.A.units + 20 < cLine) : OpR X (compareOp .Eq) (rDeep X.K false) := by
  intro pins s σ H x y v u Q I rx ry h
  obtain ⟨a, b, xs, ys, e, e1, e2, hS, hl, he, q⟩ := h
  subst e1 e2
  obtain rfl : v = Value.ref a := rx
  obtain rfl : u = Value.ref b := ry
  rcases hS with ⟨hA, hB⟩ | ⟨hA, hB⟩
  · obtain ⟨its, r, pl, hz⟩ := I.list hA
    obtain ⟨its2, r2, pl2, hz2⟩ := I.list hB
    have l1 := r.length
    have l2 := r2.length
    refine SeqAt.eq_listAt (e := e) pl.isList pl2.isList (by rw [List.size_toArray, List.size_toArray]; omega) (by omega) (fun j h1 h2 => ?_) ⟨.bl _, H, I, rfl, ?_⟩
    · obtain ⟨x, ex, rx⟩ := vals_at r j h1
      obtain ⟨y, ey, ry⟩ := vals_at r2 j h2
      exact eqD_at I (he j x y ex ey) (show X.A.units + 1 + 8 < cLine by omega) rx ry
    · rw [List.size_toArray, ← l1]
      exact q
  · obtain ⟨its, r, pl, hz⟩ := I.tuple hA
    obtain ⟨its2, r2, pl2, hz2⟩ := I.tuple hB
    have l1 := r.length
    have l2 := r2.length
    refine SeqAt.eq_tupleAt (e := e) pl pl2 (by omega) (fun j h1 h2 => ?_) ⟨.bl _, H, I, rfl, ?_⟩
    · obtain ⟨x, ex, rx⟩ := vals_at r j h1
      obtain ⟨y, ey, ry⟩ := vals_at r2 j h2
      exact eqD_at I (he j x y ex ey) (show X.A.units + 1 + 8 < cLine by omega) rx ry
    · have e1 : min its.toArray.size its2.toArray.size = xs.length := by rw [List.size_toArray, List.size_toArray]; omega
      have e2 : (its.toArray.size == its2.toArray.size) = true := by rw [List.size_toArray, List.size_toArray]; exact beq_iff_eq.mpr (by omega)
      rw [e1, e2, Bool.and_true]
      exact q
end
end L2
namespace L2
open PySem PySem.Spec PyProof.Rows
abbrev Cx.compN (X : Cx) (N' : List Str) (scope : Scope) (cl : List (Str × Addr)) (C : Addr) (fp : List Addr) (s : Shared) (H : Hp) : Cx :=
  { X with N := N', s₀ := s, H₀ := H, env := compEnvC scope cl C X.env, outer := X.stack, ex := fp, fn := fun _ => false, pn := [], xe := fun _ _ => False }
structure CompScN (X : Cx) (k : Nat) (N' : List Str) (scope : Scope) : Prop where
  kind : scope.kind = .function
  cell : ∀ y ∈ scope.names, y.2 ≠ .cell
  names : ∀ y ∈ scope.names, y.2 = .local → scope.names.lookup y.1 = some .local
  free : ∀ y ∈ scope.names, y.2 = .free → X.env.kindOf y.1 = some .cell ∨ X.env.kindOf y.1 = some .free
  len : N'.length = k + X.N.length
  cap : ∀ i y, N'[k + i]? = some y → (X.N[i]? = some y ∧ capOk scope X.env y = true) ∨ scope.names.lookup y = none
theorem compN_inv {X : Cx} {k : Nat} {N' : List Str} {scope : Scope} {cl : List (Str × Addr)} {fp : List Addr} {pins : List (Addr × Obj)} {σ : St} {H : Hp} {s : Shared} {h' : Heap} {tk : Nat} {m : Str → Option Value} (S : CompScN X k N' scope) (I : Inv X pins σ H s)
    (hns : h'.Ns s.heap.objs.size m) (hk : ∀ b o, s.heap.get? b = some o → h'.get? b = some o) (hf : ∀ b ∈ fp, FpOk X pins H b) (ho : ∀ b ∈ fp, ∃ o, s.heap.get? b = some o)
    (hsub : ∀ y c, cl.lookup y = some c → X.env.cells.lookup y = some c) (hall : ∀ y ∈ scope.names, y.2 = .free → ∃ c, cl.lookup y.1 = some c) :
    Inv (X.compN N' scope cl s.heap.objs.size fp s H) (X.pn ++ pins) (List.replicate k none ++ σ) H { s with heap := h', toks := tk } := by
  refine ⟨⟨I.ok.mod, S.kind, I.ok.glob, I.ok.blt, Nat.le_refl _, fun y z c h1 h2 => I.ok.inj y z c (hsub y c h1) (hsub z c h2), fun y hy => ?_, fun y c hfn => absurd hfn Bool.false_ne_true, I.ok.hd, I.ok.frames, .inl rfl, fun b hb => ⟨?_, fun y c e => (hf b hb).2.2.2.2.1 y c (hsub y c e)⟩,
    I.bs, Nat.le_trans I.ok.bsz I.sz, fun b o e hb => ?_, fun b hb hs => ?_, I.stack, I.stkFree⟩, rfl, I.bare, Un.kept hk, ⟨m, hns, fun i y v e1 e2 e3 => ?_⟩, fun y c e => ?_, I.fresh, fun y c e => I.freeC y c (hsub y c e), fun p hp => ?_, I.hok.kept hk, ?_⟩
  · have hy' : ∃ k, (k = NameKind.cell ∨ k = NameKind.free) ∧ (relabel scope X.env).names.lookup y = some k := by
      rcases hy with z | z
      · exact ⟨_, .inl rfl, z⟩
      · exact ⟨_, .inr rfl, z⟩
    obtain ⟨k, hk', e⟩ := hy'
    obtain ⟨k0, e0, r⟩ := rel_look e
    have kf : k0 = .free := by
      rcases r with r | r
      · subst r
        rcases hk' with z | z
        · subst z
          exact absurd rfl (S.cell _ (PySem.mem_of_lookup e0))
        · exact z
      · exact r.1
    subst kf
    exact hall (y, .free) (free_mem e0) rfl
  · obtain ⟨o, e⟩ := ho b hb
    exact Nat.ne_of_lt (Heap.lt_size e)
  · rcases (hf b hb).2.2.2.1 with z | z
    · exact I.ok.noex b o e z
    · exact absurd (Nat.lt_of_lt_of_le (Heap.lt_size e) (Nat.le_trans I.ok.bsz z)) (Nat.lt_irrefl _)
  · rcases List.mem_cons.mp (I.stkSub b hs) with z | z
    · exact (hf b hb).2.1 z
    · exact (hf b hb).2.2.1 z
  · have e1q : N'[i]? = some y := e1
    by_cases hik : i < k
    · rw [List.getElem?_append_left (by simpa using hik), List.getElem?_replicate] at e2
      rw [if_pos hik] at e2
      cases e2
    obtain ⟨i, rfl⟩ : ∃ d, i = k + d := ⟨i - k, by omega⟩
    have e2' : σ[i]? = some (some v) := by
      rw [List.getElem?_append_right (by simp)] at e2
      simpa using e2
    have hvis : ∃ k, (relabel scope X.env).names.lookup y = some k := by
      rcases e3 with z | z | z
      · exact ⟨_, z⟩
      · exact ⟨_, z⟩
      · exact ⟨_, z⟩
    obtain ⟨k, ek⟩ := hvis
    obtain ⟨k0, e0, r⟩ := rel_look ek
    rcases S.cap i y e1q with ⟨e1', hc⟩ | z0
    case inr => rw [z0] at e0; cases e0
    unfold capOk at hc
    rw [e0] at hc
    have kf : k0 = .free := by cases k0 <;> simp_all
    subst kf
    have hkk : X.env.kindOf y = some .cell ∨ X.env.kindOf y = some .free := by simpa using hc
    obtain ⟨m0, hn0, hl0⟩ := I.loc
    obtain ⟨u, ru, l⟩ := hl0 i y v e1' e2' (.inr hkk)
    refine ⟨u, ru, .inr ?_⟩
    obtain ⟨c', hc'⟩ := hall (y, .free) (free_mem e0) rfl
    rcases l with ⟨z, _⟩ | ⟨_, c, ec, ⟨o, ho', hd'⟩⟩
    · rcases hkk with q | q <;> rw [z] at q <;> cases q
    · have e4 := hsub y c' hc'
      rw [ec] at e4
      have e5 : c = c' := Option.some.inj e4
      subst e5
      refine ⟨?_, c, hc', o, hk _ _ ho', hd'⟩
      rcases r with r | r
      · subst r
        exact .inr ek
      · obtain ⟨_, r⟩ := r
        subst r
        exact .inl ek
  · obtain ⟨v, o, ho', hd'⟩ := I.cell y c (hsub y c e)
    exact ⟨v, o, hk _ _ ho', hd'⟩
  · have hp' : p ∈ X.pn ++ pins := by simpa using hp
    obtain ⟨e, n, ne, nf, d⟩ := I.pin p hp'
    refine ⟨hk _ _ e, n, Nat.ne_of_lt (Heap.lt_size e), fun z => ?_, d⟩
    rcases List.mem_cons.mp (I.stkSub p.1 z) with q | q
    · exact ne q
    · exact nf q
  · show (List.replicate k none ++ σ).length = N'.length
    rw [S.len, List.length_append, List.length_replicate, I.len]
def CompGoN (J : It) (H1 : Hp) (k : Nat) (σ : St) (g : TG) (tt : TT) (te : TE) (Q : VK) : Prop := ∀ D, H1 D = none → ∃ W : Nat → Nat → Hp → Prop, (∃ m, W 0 m (upd H1 D (.lst []))) ∧ ∀ i m H, W i m H →
  (J.stop i H ∧ Q (.ref D) H) ∨ (J.go i H ∧ ∀ x H' ρ, ρ.length = k → J.yld i H x H' → g x (ρ ++ σ) H' fun σ2 H2 => (∃ ρ2 : St, ρ2.length = k ∧ σ2 = ρ2 ++ σ) ∧ tt σ2 H2 fun b H3 => if b = true then te σ2 H3 fun y H4 => ∃ ys, H4 D = some (.lst ys) ∧ ys.length < sizeLine ∧ ∃ m', m' < m ∧ W (i + 1) m' (upd H4 D (.lst (ys ++ [y])))
    else ∃ m', m' < m ∧ W (i + 1) m' H3)
def tCompN (wi : TI) (k : Nat) (g : TG) (tt : TT) (te : TE) : TE := fun σ H Q => wi σ H fun J H1 => CompGoN J H1 k σ g tt te Q
section
variable {X : Cx} {k : Nat} {N' : List Str} {tg : Expr} {pos : Pos} {elt iter : Expr} {ifs : List Expr} {scope : Scope} {wi : TI} {g : TG} {tt : TT} {te : TE}
theorem compN_core {pins : List (Addr × Obj)} {σ : St} {H2 : Hp} {s2 : Shared} {it : Addr} {fp : List Addr} {tn : Nat → Heap → Prop} {J : It} {Q : VK} {cl : List (Str × Addr)} {E : Value → Shared → Prop} {RR : Value → Addr → Result → Shared → Prop}
    (S : CompScN X k N' scope) (hcal : X.calm = true) (hclos : (∀ y c, cl.lookup y = some c → X.env.cells.lookup y = some c) ∧ ∀ y ∈ scope.names, y.2 = .free → ∃ c, cl.lookup y.1 = some c)
    (hg : ∀ cl C fp s H, PG (X.compN N' scope cl C fp s H) tg g) (ht : ∀ cl C fp s H, PTs (X.compN N' scope cl C fp s H) ifs tt) (he : ∀ cl C fp s H, PE (X.compN N' scope cl C fp s H) elt te)
    (I2 : Inv X pins σ H2 s2) (T : Turn X.prog X.w X.K tg J fp it tn) (st2 : tn 0 s2.heap) (f2 : ∀ b ∈ fp, FpOk X pins H2 b)
    (q : CompGoN J H2 k σ g tt te Q)
    (hRR : ∀ D C s' H' m', Inv X pins σ H' s' → s'.heap.Ns C m' → FpOk X pins H' C → Q (.ref D) H' → RR (.ref D) C (.ok .next) s') :
    wpAny (model X.prog X.w) X.A (newList []) (fun acc s3 => wpAny (model X.prog X.w) X.A (newFunctionEnv scope X.env.globals cl [] X.env.qual none .none (some X.env)) (fun cenv s4 =>
      codeAny (model X.prog X.w) X.A (.compStart (.ListComp elt [⟨tg, iter, ifs, 0⟩] scope pos) 0 (.ref it) acc { cenv with scope := relabel scope X.env }) (RR acc cenv.locals) s4) E s3) E s2 := by
  obtain ⟨hsub, hall⟩ := hclos
  refine wpAny_newObj_type (wpAny_newFunctionEnv S.cell (by intro y hy; simp at hy) (fun h1 hns hsb => ?_) S.kind)
  have I3 : Inv X pins σ (upd H2 s2.heap.objs.size (.lst [])) { s2 with heap := s2.heap.push { cls := .type "list", data := .seq ([] : List Value).toArray } } := I2.lnew (t' := s2.toks) .nil (by simp)
  have hD : H2 s2.heap.objs.size = none := I2.fresh
  obtain ⟨W, ⟨m0, w0⟩, turn⟩ := q _ hD
  generalize hs3 : ({ s2 with heap := s2.heap.push { cls := .type "list", data := .seq ([] : List Value).toArray } } : Shared) = s3 at I3
  have hs3' : ({ s2 with heap := s2.heap.push { cls := .type "list", dict := none, data := .seq ([] : List Value).toArray } } : Shared) = s3 := hs3
  dsimp only at hns hsb ⊢
  generalize hDD : s2.heap.objs.size = D at *
  have eh : s2.heap.push { cls := .type "list", dict := none, data := .seq ([] : List Value).toArray } = s3.heap := by rw [← hs3]
  rw [eh] at hns hsb
  have keep : ∀ b o, s3.heap.get? b = some o → h1.get? b = some o := fun b o e => hsb.extBut b o (Nat.ne_of_lt (Heap.lt_size e)) (Heap.get?_push_of_some _ e)
  have objs : ∀ b ∈ fp, ∃ o, s3.heap.get? b = some o := fun b hb => by
    obtain ⟨o, e, _⟩ := T.obj _ _ st2 b hb
    rw [← eh]
    exact ⟨o, Heap.get?_push_of_some _ e⟩
  have f3 : ∀ b ∈ fp, FpOk X pins (upd H2 D (.lst [])) b := fun b hb => by
    obtain ⟨o, e, _⟩ := T.obj _ _ st2 b hb
    have ne : b ≠ D := by rw [← hDD]; exact Nat.ne_of_lt (Heap.lt_size e)
    exact ⟨by rw [upd_ne ne]; exact (f2 b hb).1, (f2 b hb).2⟩
  have I4 : Inv (X.compN N' scope cl s3.heap.objs.size fp s3 (upd H2 D (.lst []))) (X.pn ++ pins) (List.replicate k none ++ σ) (upd H2 D (.lst [])) { s3 with heap := h1, toks := s3.toks + ([] : List (Str × Value)).length } := compN_inv S I3 hns keep f3 objs hsub hall
  have st4 : tn 0 h1 := T.keep _ _ _ st2 fun b hb o e => keep b o (by rw [← eh]; exact Heap.get?_push_of_some _ e)
  -- what stays true of the iterator's objects
  have stat : ∀ {H' : Hp}, (∀ b ∈ fp, H' b = none) → ∀ b ∈ fp, FpOk (X.compN N' scope cl s3.heap.objs.size fp s3 (upd H2 D (.lst []))) (X.pn ++ pins) H' b := fun hn b hb => by
    refine ⟨hn b hb, (I4.ok.exf b hb).1, I4.ok.exfs b hb, .inl hb, (I4.ok.exf b hb).2, fun p hp => (f3 b hb).2.2.2.2.2 p (by simpa using hp)⟩
  have loop : codeAny (model X.prog X.w) X.A (.compLoop (.ListComp elt [⟨tg, iter, ifs, 0⟩] scope pos) 0 (.ref it) (.ref D) (compEnvC scope cl s3.heap.objs.size X.env)) (RR (.ref D) s3.heap.objs.size) { s3 with heap := h1, toks := s3.toks + ([] : List (Str × Value)).length } := by
    refine comp_loop_go (fun n s' => ∃ i ρ H', Inv (X.compN N' scope cl s3.heap.objs.size fp s3 (upd H2 D (.lst []))) (X.pn ++ pins) (ρ ++ σ) H' s' ∧ ρ.length = k ∧ tn i s'.heap ∧ (∀ b ∈ fp, H' b = none) ∧ W i n H') ?_ m0
      ⟨0, _, _, I4, by simp, st4, fun b hb => (f3 b hb).1, w0⟩
    rintro n s5 ⟨i, ρ, H5, I5, lρ, st5, fr5, w5⟩
    rcases turn i n H5 w5 with ⟨stop, qn⟩ | ⟨go, step⟩
    · refine thn (T.done (X.compN N' scope cl s3.heap.objs.size fp s3 (upd H2 D (.lst []))) rfl rfl rfl hcal i _ s5 _ H5 _ I5 (stat fr5) st5 stop) fun r s6 ⟨hr, I6⟩ => ?_
      subst hr
      obtain ⟨m6, hn6, _⟩ := I6.loc
      have I7 : Inv X pins σ H5 s6 := I3.call' (ch := fp) I6.os I6.base I6.hok I6.bare fun b hb => ⟨(f3 b hb).2.2.2.1, (f3 b hb).2.1, (f3 b hb).2.2.2.2.1, (f3 b hb).2.2.2.2.2⟩
      exact hRR D s3.heap.objs.size s6 H5 m6 I7 hn6 (I3.fpOk (Nat.le_refl _) I6.free) qn
    · refine thn (T.item (X.compN N' scope cl s3.heap.objs.size fp s3 (upd H2 D (.lst []))) rfl rfl rfl hcal i _ s5 _ H5 _ I5 (stat fr5) st5 go) fun r s6 ⟨u, hr, h6⟩ => ?_
      subst hr
      refine thn h6 fun _ s7 ⟨y, H7, I7, r7, y7, st7, fr7⟩ => ?_
      have I7' := I7.pinned (stat fr7) (T.obj _ _ st7)
      refine thn (hg _ _ _ _ _ _ s7 (ρ ++ σ) H7 y u _ I7' r7 (step y H7 ρ lρ y7)) fun _ s8 ⟨σ8, H8, I8, ⟨ρ2, l2, e8⟩, q8⟩ => ?_
      subst e8
      refine thn (ht _ _ _ _ _ _ s8 _ H8 _ I8 q8) fun ok s9 ⟨H9, I9, q9⟩ => ?_
      have back : ∀ {H' : Hp} {s' : Shared} {m' : Nat}, Inv (X.compN N' scope cl s3.heap.objs.size fp s3 (upd H2 D (.lst []))) (X.pn ++ pins ++ pinsAt fp s7.heap) (ρ2 ++ σ) H' s' → m' < n → W (i + 1) m' H' →
          ∃ m, m < n ∧ ∃ i ρ H', Inv (X.compN N' scope cl s3.heap.objs.size fp s3 (upd H2 D (.lst []))) (X.pn ++ pins) (ρ ++ σ) H' s' ∧ ρ.length = k ∧ tn i s'.heap ∧ (∀ b ∈ fp, H' b = none) ∧ W i m H' := fun {H' s' m'} I' hm w' => by
        have pin : ∀ b o, b ∈ fp → s7.heap.get? b = some o → s'.heap.get? b = some o ∧ H' b = none := fun b o hb e => by
          have z := I'.pin (b, o) (List.mem_append_right _ (List.mem_append_right _ (mem_pinsAt hb e)))
          exact ⟨z.1, z.2.1⟩
        refine ⟨m', hm, i + 1, ρ2, H', I'.unpinned, l2, T.keep _ _ _ st7 fun b hb o e => (pin b o hb e).1, fun b hb => ?_, w'⟩
        obtain ⟨o', e, _⟩ := T.obj _ _ st7 b hb
        exact (pin b o' hb e).2
      cases ok with
      | false =>
        rw [if_neg Bool.false_ne_true] at q9 ⊢
        obtain ⟨m', hm, w'⟩ := q9
        exact back I9 hm w'
      | true =>
        rw [if_pos rfl] at q9 ⊢
        refine thn (he _ _ _ _ _ _ s9 _ H9 _ I9 q9) fun v s10 ⟨z, H10, I10, r10, q10⟩ => ?_
        obtain ⟨ys, e10, l10, m', hm, w'⟩ := q10
        refine thn (mt_append _ s10 _ H10 (.ref D) [z] (.ref D) [v] (fun _ H' => H' = upd H10 D (.lst (ys ++ [z]))) I10 rfl (.cons r10 .nil) ⟨D, ys, z, rfl, rfl, e10, l10, rfl⟩) fun _ s11 ⟨_, H11, I11, _, e11⟩ => ?_
        subst e11
        exact back I11 hm w'
  exact codeAny_compStart_list loop (T.self _ 0 _ _ _ st4 loop)
theorem pe_compN (S : CompScN X k N' scope) (hcal : X.calm = true) (hi : PI X tg iter wi) (hg : ∀ cl C fp s H, PG (X.compN N' scope cl C fp s H) tg g) (ht : ∀ cl C fp s H, PTs (X.compN N' scope cl C fp s H) ifs tt) (he : ∀ cl C fp s H, PE (X.compN N' scope cl C fp s H) elt te)
    (hs : ∀ x, foldedSetIterable iter X.env x = pure x := by intro _; rfl) : PE X (.ListComp elt [⟨tg, iter, ifs, 0⟩] scope pos) (tCompN wi k g tt te) := by
  intro pins s σ H Q I h
  obtain ⟨cl, hcl, hc⟩ := clos_ok (env := X.env) (scope := scope) fun y hy hf => I.ok.has y.1 (S.free y hy hf)
  rw [eval_ListComp]
  refine wpAny_comprehension_free (use := none) rfl hs hcl S.kind S.names (thn (hi pins s σ H _ I h) fun xv s1 h1 => thn h1 fun itv s2 h2 => ?_)
  obtain ⟨it, fp, tn, J, H2, e, I2, T, st2, f2, q⟩ := h2
  subst e
  refine compN_core (RR := fun acc C => compPost (model X.prog X.w) X.A X.xe none (EP X pins σ Q) acc C) S hcal hc hg ht he I2 T st2 f2 q ?_
  intro D C s' H' m' I' hn F' hq
  exact ⟨m', hn, fun h' sb => ⟨.ref D, H', I'.turned (t' := s'.toks) (fun b o hb e => (sb.2 b hb).trans e) F'.1 F'.2.1 F'.2.2.2.1 F'.2.2.2.2.1 F'.2.2.2.2.2, rfl, hq⟩⟩
theorem ps_setCompN {i : Nat} {y : Str} {py spos : Pos} (S : CompScN X k N' scope) (hcal : X.calm = true) (hN : X.N.Nodup) (hiN : X.N[i]? = some y) (hy : Loc X.env.scope y) (hi : PI X tg iter wi) (hg : ∀ cl C fp s H, PG (X.compN N' scope cl C fp s H) tg g) (ht : ∀ cl C fp s H, PTs (X.compN N' scope cl C fp s H) ifs tt)
    (he : ∀ cl C fp s H, PE (X.compN N' scope cl C fp s H) elt te) (hsw : swapsWith (.ListComp elt [⟨tg, iter, ifs, 0⟩] scope pos) (some (.Name y py)) spos.line X.env = pure true)
    (hs : ∀ x, foldedSetIterable iter X.env x = pure x := by intro _; rfl) (hf : X.fn y = true ∨ X.env.scope.names.lookup y = some .local := by first | exact .inl rfl | exact .inr rfl | assumption) :
    PS X (.Assign [.Name y py] (.ListComp elt [⟨tg, iter, ifs, 0⟩] scope pos) spos) (tAsg (tCompN wi k g tt te) (gName i)) := by
  intro pins s σ H D0 I h
  obtain ⟨cl, hcl, hc⟩ := clos_ok (env := X.env) (scope := scope) fun y hy hf => I.ok.has y.1 (S.free y hy hf)
  rw [exec_Assign_Name_used _ _ _ _ hsw]
  refine wpAny_bind (wpAny_standAt (wpAny_bind ?_))
  show wpAny _ _ (do let _ ← comprehension (.ListComp elt [⟨tg, iter, ifs, 0⟩] scope pos) scope X.env _ (newList []) false (eval iter X.env) (some (assign (.Name y py) X.env))) _ _ s
  refine wpAny_bind (thn (wpAny_comprehension_free (use := some (assign (.Name y py) X.env)) (Q := fun _ s' => SP X pins D0 .next s') rfl hs hcl S.kind S.names (thn (hi pins s σ H _ I h) fun xv s1 h1 => thn h1 fun itv s2 h2 => ?_)) fun _ s' hq => wpAny_pure (wpAny_pure hq))
  obtain ⟨it, fp, tn, J, H2, e, I2, T, st2, f2, q⟩ := h2
  subst e
  refine compN_core (Q := fun v H => D0.nx (σ.set i (some v)) H) (RR := fun acc C => compPost (model X.prog X.w) X.A X.xe (some (assign (.Name y py) X.env)) (fun _ s' => SP X pins D0 .next s') acc C) S hcal hc hg ht he I2 T st2 f2 q ?_
  intro D C s' H' m' I' hn F' hq
  show wpAny _ _ (assign (.Name y py) X.env (.ref D)) _ _ s'
  refine wpAny_assign_Name (store_ok2 (v := .ref D) I' hN hiN hy rfl (fun s'' I'' ch => ?_) hf)
  obtain ⟨a, sb, ha⟩ := ch
  have ne : C ≠ a := by
    rcases ha with z | z
    · rw [z]; exact F'.2.1
    · exact Ne.symm (F'.2.2.2.2.1 y a z)
  refine ⟨m', hn.sameBut sb ne, fun h' sb' => ⟨_, H', I''.turned (t' := s''.toks) (fun b o hb e => (sb'.2 b hb).trans e) F'.1 F'.2.1 F'.2.2.2.1 F'.2.2.2.2.1 F'.2.2.2.2.2, hq⟩⟩
end
def compChkN (fs : Scope) (N : List Str) (k : Nat) (N' : List Str) (scope : Scope) : Bool :=
  decide (scope.kind = .function) && scope.names.all (fun y => decide (y.2 ≠ .cell)) && scope.names.all (fun y => decide (y.2 = .local → scope.names.lookup y.1 = some .local)) &&
  scope.names.all (fun y => decide (y.2 = .free → fs.names.lookup y.1 = some .cell ∨ fs.names.lookup y.1 = some .free)) && decide (N'.length = k + N.length) &&
  (List.range N.length).all (fun i => match N'[k + i]?, N[i]? with
    | some y, some z => (match scope.names.lookup y with
      | none => true
      | some .free => decide (y = z) && decide (fs.names.lookup y = some .cell ∨ fs.names.lookup y = some .free)
      | some _ => false)
    | _, _ => false)
theorem compScN_mk {X : Cx} {k : Nat} {N' : List Str} {scope fs : Scope} {N : List Str} (hs : X.env.scope = fs) (hN : X.N = N) (c : compChkN fs N k N' scope = true) : CompScN X k N' scope := by
  subst hs hN
  unfold compChkN at c
  simp only [Bool.and_eq_true, List.all_eq_true, decide_eq_true_eq] at c
  obtain ⟨⟨⟨⟨⟨c1, c2⟩, c3⟩, c4⟩, c5⟩, c6⟩ := c
  refine ⟨c1, c2, c3, c4, c5, fun i y hy => ?_⟩
  have hi : k + i < N'.length := (List.getElem?_eq_some_iff.mp hy).1
  have hi2 : i < X.N.length := by omega
  have q := c6 i (List.mem_range.mpr hi2)
  rw [hy, List.getElem?_eq_getElem hi2] at q
  dsimp only at q
  unfold capOk
  cases e : scope.names.lookup y with
  | none => exact .inr rfl
  | some kd =>
    rw [e] at q
    cases kd with
    | free =>
      have q2 : y = X.N[i] ∧ (X.env.scope.names.lookup y = some .cell ∨ X.env.scope.names.lookup y = some .free) := by simpa using q
      refine .inl ⟨by rw [List.getElem?_eq_getElem hi2, q2.1], ?_⟩
      show (X.env.kindOf y == some .cell || X.env.kindOf y == some .free) = true
      have e2 : X.env.kindOf y = X.env.scope.names.lookup y := rfl
      rw [e2]
      rcases q2.2 with z | z <;> rw [z] <;> rfl
    | _ => simp at q
end L2
namespace L2
open PySem PySem.Spec PyProof.Rows
section
variable {X : Cx} {pins : List (Addr × Obj)} {σ : St} {H : Hp} {s : Shared} {h' : Heap}
theorem Inv.turnedL {t' : Nat} {ch : List Addr} (I : Inv X pins σ H s) (k : ∀ b u, b ∉ ch → s.heap.get? b = some u → h'.get? b = some u) (hch : ∀ b ∈ ch, FpOk X pins H b) : Inv X pins σ H { s with heap := h', toks := t' } := by
  have nch : ∀ b u, H b = some u → b ∉ ch := fun b u e z => by rw [(hch b z).1] at e; cases e
  refine I.step (g' := s.gens) (d' := s.drawn) (ch := ch) (fun b hb => ⟨(hch b hb).2.2.2.1, (hch b hb).2.1, (hch b hb).2.2.2.2.1, (hch b hb).2.2.2.2.2⟩) (fun b o _ _ hc e _ => k b o hc e) (fun b o _ _ hc e _ => ⟨o.slots, k b o hc e⟩)
    (fun _ _ _ _ n => n) (fun b o hc e => ⟨o, k b o hc e⟩) (fun _ _ e => e) (fun _ _ _ e => e) (fun b ps e => ⟨#[], by rw [e]; simp⟩) (fun m hm => ?_) (fun b u e => ?_) I.bare
  · obtain ⟨ob, es, ep, ho, r⟩ := hm
    exact ⟨ob, es, ep, k _ ob (fun z => (hch _ z).2.1 rfl) ho, r⟩
  · refine (I.hok b u e).stay (fun c v hc q => k c v ?_ q) (fun c q => q) fun c xs q => q
    rcases hc with z | z
    · rw [z]
      exact nch b u e
    · exact nch c _ z
end
section
variable {X : Cx} {es : List Expr} {kk : Nat} {pt : Pos}
end
end L2
namespace L2
open PySem PySem.Spec PyProof.Rows
abbrev Cx.i1 (X : Cx) : Cx := { X with A := X.A.in1, xe := fun _ _ => False }
theorem Inv.i1 {X : Cx} {pins : List (Addr × Obj)} {σ : St} {H : Hp} {s : Shared} (I : Inv X pins σ H s) : Inv X.i1 pins σ H s :=
  ⟨⟨I.ok.mod, I.ok.kind, I.ok.glob, I.ok.blt, I.ok.above, I.ok.inj, I.ok.has, I.ok.cab, I.ok.hd, I.ok.frames, I.ok.stk, I.ok.exf, I.ok.bs, I.ok.bsz, I.ok.noex, I.ok.exfs, I.ok.funs, I.ok.frf⟩, I.os, I.bare, I.base, I.loc, I.cell, I.free, I.freeC, I.pin, I.hok, I.len⟩
theorem Inv.o1 {X : Cx} {pins : List (Addr × Obj)} {σ : St} {H : Hp} {s : Shared} (I : Inv X.i1 pins σ H s) (hd : X.calm = true → X.A.handled = none) (hf : X.A.frames = some X.stack) : Inv X pins σ H s :=
  ⟨⟨I.ok.mod, I.ok.kind, I.ok.glob, I.ok.blt, I.ok.above, I.ok.inj, I.ok.has, I.ok.cab, hd, hf, I.ok.stk, I.ok.exf, I.ok.bs, I.ok.bsz, I.ok.noex, I.ok.exfs, I.ok.funs, I.ok.frf⟩, I.os, I.bare, I.base, I.loc, I.cell, I.free, I.freeC, I.pin, I.hok, I.len⟩
section
variable {M : Model} {A : Around} {E : Value → Shared → Prop} {s : Shared} {env : Env}
theorem callWith_bK {pos : Pos} {T : String} {e : Expr} {rest : List Expr} {kws : List Keyword} {Q : Value → Shared → Prop}
    (h : wpAny M A (spliced (backTo pos (starEach (e :: rest) env))) (fun vs s1 => wpAny M A (evalAll ((backToKw pos (keywordEach kws env)).map (·.2)))
      (fun kvs s2 => wpAny M A (call (.builtin T) vs (((backToKw pos (keywordEach kws env)).filterMap (·.1)).zip kvs)) Q E s2) E s1) E s)
    (he : backTo pos (starEach (e :: rest) env) = (false, eval e env) :: backTo pos (starEach rest env) := by rfl) (hpl : (backTo pos (starEach (e :: rest) env)).any (·.1) = false := by rfl)
    (hall : (backToKw pos (keywordEach kws env)).all (·.1.isSome) = true := by rfl) (hkw : (backToKw pos (keywordEach kws env)).any (·.1.isNone) = false := by rfl) :
    wpAny M A (callWith pos (.builtin T) [] (backTo pos (starEach (e :: rest) env)) (backToKw pos (keywordEach kws env))) Q E s := by
  have h2 : wpAny M A (evalArgs (.builtin T) true (backTo pos (starEach (e :: rest) env)) (backToKw pos (keywordEach kws env))) (fun a s1 => wpAny M A (call (.builtin T) ([] ++ a.pos) a.kw) Q E s1) E s := by
    rw [he] at h ⊢
    exact evalArgs_kwB hall h
  unfold callWith
  refine wpAny_bind (wpAny_holding (wpAny_mono h2 (fun a s1 h1 => wpAny_bind (wpAny_standAt ?_)) fun _ _ z => z))
  simp only [hpl, hkw, Bool.or_false]
  exact wpAny_bind (wpAny_pure (wpAny_bind (wpAny_mono h1 (fun r s2 hr => wpAny_bind (wpAny_holding (wpAny_point (wpAny_pure hr)))) fun _ _ z => z)))
end
theorem same_none {H H' : Hp} {b : Addr} (s : Same H H') (h : H' b = none) : H b = none := by
  cases e : H b with
  | none => rfl
  | some u => rw [s b u e] at h; cases h
section
variable {X : Cx} {pins : List (Addr × Obj)} {σ : St}
end
section
variable {X : Cx}
end
section
variable {X : Cx} {pins : List (Addr × Obj)} {σ : St}
end
section
variable {X : Cx}
end
end L2
namespace L2
open PySem PySem.Spec PyProof.Rows
abbrev gTwo (K : PySem.W.Frag) : TG := gTup K 2 (gCons (gName 0) (gCons (gName 1) gNil))
end L2
namespace S2
open PySem L2
def RowsOf (H : Hp) (as : List Addr) (rows : List (List V)) : Prop := as.length = rows.length ∧ ∀ (i : Nat) (p : Addr) (r : List V), as[i]? = some p → rows[i]? = some r → H p = some (.tup r)
theorem RowsOf.same {H H2 : Hp} {as : List Addr} {rows : List (List V)} (h : RowsOf H as rows) (s : Same H H2) : RowsOf H2 as rows := ⟨h.1, fun i p r e1 e2 => s _ _ (h.2 i p r e1 e2)⟩
theorem RowsOf.nil {H : Hp} : RowsOf H [] [] := ⟨rfl, fun i p r e => by simp at e⟩
theorem RowsOf.snoc {H H2 : Hp} {as : List Addr} {rows : List (List V)} {p : Addr} {r : List V} (h : RowsOf H as rows) (s : Same H H2) (hp : H2 p = some (.tup r)) : RowsOf H2 (as ++ [p]) (rows ++ [r]) := by
  refine ⟨by rw [List.length_append, List.length_append, h.1]; rfl, fun i q x e1 e2 => ?_⟩
  by_cases hi : i < as.length
  · rw [List.getElem?_append_left hi] at e1
    rw [List.getElem?_append_left (by rw [← h.1]; exact hi)] at e2
    exact s _ _ (h.2 i q x e1 e2)
  · rw [List.getElem?_append_right (by omega)] at e1
    rw [List.getElem?_append_right (by rw [← h.1]; omega), ← h.1] at e2
    cases e : i - as.length with
    | zero =>
      rw [e] at e1 e2
      cases e1
      cases e2
      exact hp
    | succ d => rw [e] at e1; simp at e1
theorem RowsOf.get {H : Hp} {as : List Addr} {rows : List (List V)} (h : RowsOf H as rows) {i : Nat} {x : V} (e : (as.map V.ref)[i]? = some x) : ∃ p r, x = .ref p ∧ as[i]? = some p ∧ rows[i]? = some r ∧ H p = some (.tup r) := by
  rw [List.getElem?_map] at e
  cases e1 : as[i]? with
  | none => rw [e1] at e; cases e
  | some p =>
    rw [e1] at e
    have hi : i < rows.length := by rw [← h.1]; exact get_lt e1
    exact ⟨p, rows[i], (Option.some.inj e).symm, rfl, by simp [hi], h.2 i p rows[i] e1 (by simp [hi])⟩
structure Fl where
  nm : Str
  lf : Bool
  w : Int
  h : Int
structure Pl where
  nm : Str
  x : Int
  y : Int
  w : Int
  h : Int
end S2
namespace L2
open PySem PySem.Spec PyProof.Rows S2
section
variable {X : Cx}
end
end L2
namespace PySem
open Sem (wp)
theorem dm_list_getattr_none : typeLookup (.type "list") "__getattr__" = pure none := by rw [typeLookup_type, builtinLookup_eq_fast]; kernel_rfl
theorem dm_list_keys_none : typeLookup (.type "list") "keys" = pure none := by rw [typeLookup_type, builtinLookup_eq_fast]; kernel_rfl
section
variable {prog : Program} {w : World} {A : Around} {E : Value → Shared → Prop} {h : Heap} {g : Array GenState} {d : Drawn} {t : Nat} {os : OsState} {a : Addr} {o : Obj}
theorem dm_entry {tk : Tok} {Q : Fin → Shared → Prop} {its : Array Value} {n : Nat} (hx : h.get? a = some { cls := .type "list", data := .seq its n }) (hh : A.handled = none)
    (hE : ∀ h' tk e, Heap.NewAttrErr h h' e (.ref a) "keys" → E (.ref e) ⟨h', g, d, tk, os⟩) :
    wpAny (model prog w) A (Builtin.«object.__getattribute__» ⟨[.ref a, .str "keys" tk], []⟩) Q E ⟨h, g, d, t, os⟩ := by
  have hT : (⟨h, g, d, t, os⟩ : Shared).TypeIs (.ref a) "list" := ⟨_, hx, rfl⟩
  have f4 := dm_list_keys_none
  unfold Builtin.«object.__getattribute__»
  repeat (any_goals (first | assumption | wp_step))
  exact wpAny_raiseAttrError hh hE (attrMsg_fits (by decide +kernel) (by decide +kernel))
theorem dm_call {tk : Tok} {R : Result → Shared → Prop} {its : Array Value} {n : Nat} (hx : h.get? a = some { cls := .type "list", data := .seq its n }) (hh : A.handled = none)
    (hE : ∀ h' tk e, Heap.NewAttrErr h h' e (.ref a) "keys" → R (.error (.ref e)) ⟨h', g, d, tk, os⟩) :
    codeAny (model prog w) A (.call (.builtin "list.__getattribute__") ⟨[.ref a, .str "keys" tk], []⟩) R ⟨h, g, d, t, os⟩ :=
  codeAny_call_builtin F.slot_list_getattribute.plain F.entry_list_ga (F.slot_list_getattribute.check _ _ _ _ _ _ _ _ (show (⟨h, g, d, t, os⟩ : Shared).TypeIs (.ref a) "list" from ⟨_, hx, rfl⟩) (F.args_list_getattribute_2 _ _) (dm_entry hx hh hE))
theorem dm_by {tk : Tok} {Q : Value → Shared → Prop} {its : Array Value} {n : Nat} (hx : h.get? a = some { cls := .type "list", data := .seq its n }) (hh : A.handled = none)
    (hE : ∀ h' tk e, Heap.NewAttrErr h h' e (.ref a) "keys" → E (.ref e) ⟨h', g, d, tk, os⟩) :
    wpAny (model prog w) A (getAttrBy (.ref a) (.str "keys" tk) false) Q E ⟨h, g, d, t, os⟩ := by
  have hT : (⟨h, g, d, t, os⟩ : Shared).TypeIs (.ref a) "list" := ⟨_, hx, rfl⟩
  have f1 := sub_AttributeError
  have f2 := F.slot_list_getattribute.lookup
  have f3 := F.slot_list_getattribute.bind (.ref a)
  have f5 := dm_list_getattr_none
  repeat (any_goals (first | assumption | wp_step))
  refine dm_call hx hh fun h' tk e hx' => ?_
  obtain ⟨t', u', he⟩ := hx'.there
  repeat (any_goals (first | assumption | wp_step))
  exact hE _ _ _ hx'
theorem dm_keys {Q : Option Value → Shared → Prop} {its : Array Value} {n : Nat} (hx : h.get? a = some { cls := .type "list", data := .seq its n }) (hh : A.handled = none)
    (hq : ∀ h' tk, (∀ b ob, h.get? b = some ob → h'.get? b = some ob) → Q none ⟨h', g, d, tk, os⟩) :
    wpAny (model prog w) A (getAttr? (.ref a) "keys") Q E ⟨h, g, d, t, os⟩ := by
  unfold getAttr? getAttrBy?
  have f1 := sub_AttributeError
  repeat (any_goals (first | assumption | (with_reducible apply dm_by hx hh) | wp_step))
  intro h' tk e hx'
  obtain ⟨t', u', he⟩ := hx'.there
  repeat (any_goals (first | assumption | wp_step))
  exact hq _ _ hx'.keeps
end
end PySem
namespace PySem.F
theorem entry_dul : entryFor table "dict.update.loop" = some Builtin.«dict.update.loop» := entryFor_of_tree (by kernel_rfl)
theorem plain_dul : plainId "dict.update.loop" = true := by decide +kernel
end PySem.F
namespace L2
open PySem PySem.Spec PyProof.Rows S2
section
variable {X : Cx} {pins : List (Addr × Obj)} {σ : St}
end
end L2
namespace L2
open PySem PySem.Spec PyProof.Rows S2
theorem dm_keysS {prog : Program} {w : World} {A : Around} {E : Value → Shared → Prop} {s : Shared} {a : Addr} {Q : Option Value → Shared → Prop} {its : Array Value} {n : Nat} (hx : s.heap.get? a = some { cls := .type "list", data := .seq its n }) (hh : A.handled = none)
    (hq : ∀ h' tk, (∀ b ob, s.heap.get? b = some ob → h'.get? b = some ob) → Q none { s with heap := h', toks := tk }) :
    wpAny (model prog w) A (getAttr? (.ref a) "keys") Q E s := by
  obtain ⟨h, g, d, t, os⟩ := s
  exact dm_keys hx hh hq
section
variable {X : Cx}
end
end L2
namespace L2
open PySem PySem.Spec PySem.W PyProof.Rows
theorem dictAt_of {prog : Program} {w : World} {K : Type} [DecidableEq K] {knd : KeyKind prog w K} {h : Heap} {a : Addr} {vs : List (K × Value)} (d : h.DictOf knd a vs) : ∃ ep, h.DictAt knd a vs ep := by
  obtain ⟨o, es, ep, h1, h2, h3, h4, h5, h6⟩ := d
  exact ⟨ep, o, es, h1, h2, h3, h4, h5, h6⟩
theorem KV.valAt {kvs : List (Key × V)} {vs : List (Key × Value)} (r : KV kvs vs) {i : Nat} {k : Key} {v : Value} (h : vs[i]? = some (k, v)) : ∃ x, kvs[i]? = some (k, x) ∧ RelV x v := by
  induction r generalizing i with
  | nil => cases h
  | cons p q ih =>
    cases i with
    | zero =>
      cases h
      obtain ⟨e, z⟩ := p
      exact ⟨_, by rw [List.getElem?_cons_zero]; exact congrArg some (Prod.ext e rfl), z⟩
    | succ i => exact ih h
theorem preSum_list : ∀ (ns : List Int) (n : Nat), n ≤ ns.length → preSum (fun i => ns.getD i 0) n = (ns.take n).sum := by
  intro ns n
  induction n with
  | zero => intro _; simp [preSum]
  | succ n ih =>
    intro h
    have e : ns.take (n + 1) = ns.take n ++ [ns.getD n 0] := by
      rw [List.take_succ]; simp [List.getD, List.getElem?_eq_getElem (show n < ns.length by omega)]
    rw [e, List.sum_append, ← ih (by omega)]
    simp [preSum]
def tSumV (td : TE) : TE := fun σ H Q => td σ H fun x H1 => ∃ (a : Addr) (kvs : List (Key × V)) (ns : List Int), x = .ref a ∧ Rd H1 a (.dK kvs) ∧ kvs.map (·.2) = ns.map V.int ∧ Q (.int ns.sum) H1
section
variable {X : Cx} {o : Expr} {apos cpos p pos : Pos} {td : TE}
theorem pe_sumV (hc : X.calm = true) (ho : PE X o td) (hb : attributeBase o "values" X.env (eval o X.env) = eval o X.env) (hl : (apos.endLine == cpos.line) = true) (hg : Gl X "sum") (hm : X.mg "sum" = none)
    (hv : bootBuiltins "sum" = some (.builtin "sum"))
    (he : starEach [.Call (.Attribute o "values" apos) [] [] cpos] X.env = (false, eval (.Call (.Attribute o "values" apos) [] [] cpos) X.env) :: starEach [] X.env := by rfl) :
    PE X (.Call (.Name "sum" p) [.Call (.Attribute o "values" apos) [] [] cpos] [] pos) (tSumV td) := by
  intro pins s σ H Q I h
  refine wpAny_Call_Name_kw (ld_blt I hg hm hv ?_ (by decide) (by decide))
  refine PyProof.Rows.callWith_builtin1 ?_ he rfl
  rw [he]
  show wpAny _ _ (spliced ((false, eval (.Call (.Attribute o "values" apos) [] [] cpos) X.env) :: [])) _ _ s
  refine Calls.spliced_cons ?_
  refine wpAny_Call_method hb rfl hl PySem.F.plainAttrs_dict PySem.F.slot_dict_values PySem.F.type_dict_values (thn (ho pins s σ H _ I h) fun u s1 ⟨x, H1, I1, rx, a, kvs, ns, ex, d, en, q1⟩ => ?_)
  subst ex
  obtain rfl : u = Value.ref a := rx
  obtain ⟨t1, t2, hd⟩ := isD_at I1 (.inl ⟨kvs, d⟩)
  refine ⟨t1, t2, ?_⟩
  obtain ⟨z, _, vs, rel, dd⟩ := dk_rd I1.hok d
  refine Calls.callWith_builtin rfl (PyProof.Rows.evalArgs_empty ?_)
  refine call_meetsIn PySem.F.slot_dict_values dd.typeIs PySem.F.entry_dict_values (PySem.F.args_dict_values_1 _) (meets_dict_values (mixKind X.prog X.w) a hd) ⟨⟨vs, dd⟩, ?_⟩
  refine Calls.spliced_nil ?_
  obtain ⟨ep, da⟩ := dictAt_of dd
  have hh := I1.ok.hd hc
  have hok : (s1.heap.push { cls := .type "dict_values", data := .fields #[.ref a] }).IsValuesView s1.heap.objs.size a ∧ (s1.heap.push { cls := .type "dict_values", data := .fields #[.ref a] }).DictAt (mixKind X.prog X.w) a vs ep :=
    ⟨⟨_, Heap.get?_push_size _ rfl, rfl, rfl⟩, da.push _⟩
  have K := kdl_values (prog := X.prog) (w := X.w) (knd := mixKind X.prog X.w) (r := s1.heap.objs.size) (d := a) (kvs := vs) (ep := ep)
  refine call_sum_walkAnyS ?_
  obtain ⟨oI, St, hit, W, st⟩ := K.iter X.A.in1 { s1 with heap := s1.heap.push { cls := .type "dict_values", data := .fields #[.ref a] } } hh hok
  refine hit _ _ ⟨_, _, _, _, vs.length, _, _, fun i => ns.getD i 0, rfl, W.toS, st, fun b hb => ?_, fun i v hv => ?_, fun s' t' hm => ?_⟩
  · rcases List.mem_cons.mp hb with e | hb
    · rw [e]; exact Nat.lt_of_lt_of_eq (Nat.lt_succ_self _) (size_push' _ _).symm
    · rw [List.mem_singleton.mp hb]; exact Nat.lt_of_lt_of_eq (Nat.lt_succ_of_lt (K.there _ hok).2) (size_push' _ _).symm
  · obtain ⟨k, hk⟩ := hv
    obtain ⟨x, hx, rx⟩ := rel.valAt hk
    have e1 : (kvs.map (·.2))[i]? = some x := by rw [List.getElem?_map, hx]; rfl
    rw [en, List.getElem?_map] at e1
    cases e2 : ns[i]? with
    | none => rw [e2] at e1; cases e1
    | some n =>
      rw [e2] at e1
      cases e1
      obtain ⟨t, et⟩ := rx
      exact ⟨t, by rw [et]; simp [List.getD, e2]⟩
  · have hk : ∀ b o, s1.heap.get? b = some o → s'.heap.get? b = some o := fun b o e =>
      hm.heap b o (fun hI => absurd (Heap.lt_size e) (by rw [List.mem_singleton.mp hI]; show ¬ (s1.heap.push _).objs.size < s1.heap.objs.size; rw [size_push']; exact Nat.not_lt.mpr (Nat.le_succ _))) (Heap.get?_push_of_some _ (Heap.get?_push_of_some _ e))
    rw [Moved.eq_with hm]
    have el : vs.length = ns.length := by rw [← rel.length, ← List.length_map (f := (·.2)), en, List.length_map]
    have e2 : preSum (fun i => ns.getD i 0) vs.length = ns.sum := by rw [el, preSum_list ns ns.length (Nat.le_refl _), List.take_length]
    rw [e2]
    exact ⟨.int _, H1, I1.kept hk, ⟨t', rfl⟩, q1⟩
end
end L2
namespace L2
open PySem PySem.Spec PySem.W PyProof.Rows
theorem samebut_refl {a : Addr} {h : Heap} : Heap.SameBut a h h := ⟨rfl, fun _ _ => rfl⟩
theorem Inv.freeze {X : Cx} {pins : List (Addr × Obj)} {σ : St} {H : Hp} {s : Shared} {a : Addr} {kvs : List (Key × V)} (I : Inv X pins σ H s) (d : Rd H a (.dK kvs)) :
    ∃ o, Inv X pins σ (upd H a (.frz o (.dK kvs))) s ∧ s.heap.get? a = some o ∧ ∃ vs ep, KV kvs vs ∧ s.heap.DictAt (mixKind X.prog X.w) a vs ep := by
  obtain ⟨z, hd, vs, rel, dd⟩ := dk_rd I.hok d
  obtain ⟨ep, da⟩ := dictAt_of dd
  rcases d with e | ⟨o, e⟩
  · obtain ⟨o, es, h1, _⟩ := id da
    refine ⟨o, ?_, h1, vs, ep, rel, da⟩
    exact d_write (t' := s.toks) I (by rw [e]; exact True.intro) samebut_refl ⟨o, h1⟩ ⟨h1, z, hd, vs, rel, dd⟩
  · have x := I.hok a _ e
    refine ⟨o, ?_, x.1, vs, ep, rel, da⟩
    have eq : upd H a (.frz o (.dK kvs)) = H := by
      funext b
      by_cases hb : b = a
      · subst hb; rw [upd_same, e]
      · rw [upd_ne hb]
    rw [eq]
    exact I
def Itd (a : Addr) (o : Obj) (kvs : List (Key × V)) : It :=
  ⟨fun i H => H a = some (.frz o (.dK kvs)) ∧ i < kvs.length, fun i H x H' => ∃ p k v, x = .ref p ∧ H p = none ∧ kvs[i]? = some (k, v) ∧ H' = upd H p (.tup [kV k, v]),
    fun i H => H a = some (.frz o (.dK kvs)) ∧ kvs.length ≤ i⟩
theorem kvAt {kvs : List (Key × V)} {vs : List (Key × Value)} (r : KV kvs vs) {i : Nat} {k : Key} {x : V} (h : kvs[i]? = some (k, x)) : ∃ v, vs[i]? = some (k, v) ∧ RelV x v := by
  induction r generalizing i with
  | nil => cases h
  | cons p q ih =>
    cases i with
    | zero =>
      cases h
      obtain ⟨e, z⟩ := p
      exact ⟨_, by rw [List.getElem?_cons_zero]; exact congrArg some (Prod.ext e.symm rfl), z⟩
    | succ i => exact ih h
theorem kV_of {P : Program} {w : World} {k : Key} {u : Value} (h : (mixKind P w).is k u = true) : RelV (kV k) u := by
  rcases keyIs_shape h with ⟨i, t, rfl, rfl⟩ | ⟨x, t, rfl, rfl⟩
  · exact ⟨t, rfl⟩
  · exact ⟨t, rfl⟩
theorem entry_itemiter : entryFor table "dict_itemiterator.__iter__" = some Builtin.«dict_keyiterator.__iter__» :=
  entryFor_alias (id' := "dict_keyiterator.__iter__") (by kernel_rfl) rfl (by decide +kernel) (by kernel_rfl)
theorem turn_items {P : Program} {w : World} {K : PySem.W.Frag} {es : List Expr} {kk : Nat} {pt : Pos} {it a : Addr} {o : Obj} {kvs : List (Key × V)} {vs : List (Key × Value)} {ep : Nat} (hne : a ≠ it) (rel : KV kvs vs)
    (da : ∀ h : Heap, h.get? a = some o → h.DictAt (mixKind P w) a vs ep) :
    Turn P w K (.Tuple es kk pt) (Itd a o kvs) [it] it (fun i h => ∃ ok ov, IsItemIter h it a i vs.length ep ok ov) where
  mem := by simp
  obj := fun i h st c hc => by
    obtain ⟨ok, ov, st⟩ := st
    cases (List.mem_singleton.mp hc)
    exact ⟨_, st, fun v q => by cases q⟩
  keep := fun i h h' st kk => by
    obtain ⟨ok, ov, st⟩ := st
    exact ⟨ok, ov, kk it (by simp) _ st⟩
  item := by
    intro X hP hw hK hc i pins s σ H E I hf st hg
    subst hP hw hK
    obtain ⟨ok, ov, st⟩ := st
    obtain ⟨hz, hi⟩ := hg
    obtain ⟨⟨k, x⟩, hx⟩ : ∃ p, kvs[i]? = some p := ⟨kvs[i], by simp [hi]⟩
    obtain ⟨v, hv, rv⟩ := kvAt rel hx
    have ho := (I.hok a _ hz).1
    refine wpAny_pyNext_items_item st (da _ ho) hv fun key h' hkey hit' htup hsz kp => ⟨_, rfl, ?_⟩
    refine wpAny_letOwnedTupleGo_items hit' fun g2 hit2 sb => ?_
    have li : it < s.heap.objs.size := Heap.lt_size st
    have nT : H s.heap.objs.size = none := I.fresh
    have tt2 : g2.get? s.heap.objs.size = some { cls := .type "tuple", data := .seq #[key, v] } := (sb.2 _ (Nat.ne_of_gt li)).trans htup
    have I1 : Inv X pins σ (upd H s.heap.objs.size (.tup [kV k, x])) { s with heap := g2, toks := s.toks } := by
      refine I.turnedNew (t' := s.toks) (ch := [it]) (fun c o hb q => ?_) hf (Nat.le_refl _) ⟨?_, [key, v], .cons (kV_of hkey) (.cons rv .nil), ⟨_, tt2, rfl, 0, rfl⟩⟩
      · have hb' : c ≠ it := fun z => hb (by simp [z])
        exact (sb.2 c hb').trans (kp c o hb' q)
      · show 2 ≤ sizeLine
        decide
    refine ⟨.ref s.heap.objs.size, _, I1, rfl, ⟨_, k, x, rfl, nT, hx, rfl⟩, ⟨_, _, hit2⟩, fun c hb => ?_⟩
    have hb' := (hf c hb).1
    cases (List.mem_singleton.mp hb)
    rw [upd_ne (Nat.ne_of_lt li)]
    exact hb'
  done := by
    intro X hP hw hK hc i pins s σ H E I hf st hg
    subst hP hw hK
    obtain ⟨ok, ov, st⟩ := st
    obtain ⟨hz, hi⟩ := hg
    have ho := (I.hok a _ hz).1
    have el := rel.length
    refine wpAny_pyNext_items_end (I.ok.hd hc) st (da _ ho) (List.getElem?_eq_none_iff.mpr (by omega)) fun h' kp => ⟨rfl, I.turnedL (t' := s.toks) (ch := [it]) (fun c o hb q => ?_) hf⟩
    exact kp c o (fun z => hb (by simp [z])) q
  self := fun _ _ _ _ _ st h => by
    obtain ⟨ok, ov, st⟩ := st
    have hT : Shared.TypeIs _ (.ref it) "dict_itemiterator" := ⟨_, st, rfl⟩
    refine wpAny_pyIter_slot hT PySem.F.slot_dict_itemiterator_iter (wpAny_call_entry PySem.F.slot_dict_itemiterator_iter hT entry_itemiter ?_ (PySem.F.args_dict_itemiterator_iter_1 _))
    show wpAny _ _ (ret (.ref it)) _ _ _
    exact wpAny_pure ⟨_, rfl, "dict_itemiterator", _, hT, PySem.F.slot_dict_itemiterator_next.lookup, h⟩
def iItems (td : TE) : TI := fun σ H R => td σ H fun x H1 => ∃ a kvs, x = .ref a ∧ Rd H1 a (.dK kvs) ∧ ∀ o, R (Itd a o kvs) (upd H1 a (.frz o (.dK kvs)))
section
variable {X : Cx} {o : Expr} {es : List Expr} {kk : Nat} {pt : Pos} {apos cpos : Pos} {td : TE}
theorem pi_items (ho : PE X o td) (hb : attributeBase o "items" X.env (eval o X.env) = eval o X.env := by rfl) (hl : (apos.endLine == cpos.line) = true := by rfl) :
    PI X (.Tuple es kk pt) (.Call (.Attribute o "items" apos) [] [] cpos) (iItems td) := by
  intro pins s σ H R I h
  refine wpAny_Call_method hb rfl hl PySem.F.plainAttrs_dict PySem.F.slot_dict_items PySem.F.type_dict_items (thn (ho pins s σ H _ I h) fun u s1 ⟨x, H1, I1, rx, a, kvs, ex, d, q1⟩ => ?_)
  subst ex
  obtain rfl : u = Value.ref a := rx
  obtain ⟨t1, t2, hd⟩ := isD_at I1 (.inl ⟨kvs, d⟩)
  refine ⟨t1, t2, ?_⟩
  obtain ⟨ob, I2, hob, vs, ep, rel, da⟩ := I1.freeze d
  refine Calls.callWith_builtin rfl (PyProof.Rows.evalArgs_empty ?_)
  refine call_meetsIn PySem.F.slot_dict_items da.dictOf.typeIs PySem.F.entry_dict_items (PySem.F.args_dict_items_1 _) (meets_dict_items (mixKind X.prog X.w) a hd) ⟨⟨vs, da.dictOf⟩, ?_⟩
  refine wpAny_pyIter_items (knd := mixKind X.prog X.w) (d := a) (kvs := vs) (ep := ep) ⟨_, Heap.get?_push_size _ rfl, rfl, rfl⟩ (da.push _) ?_
  have la : a < s1.heap.objs.size := Heap.lt_size hob
  refine ⟨_, [_], _, _, _, rfl, I2.kept (t' := s1.toks) fun b o e => Heap.get?_push_of_some _ (Heap.get?_push_of_some _ e), turn_items (ep := ep) (Nat.ne_of_lt (Nat.lt_of_lt_of_eq (Nat.lt_succ_of_lt la) (size_push' _ _).symm)) rel (fun h e => da.at' fun o' e' => by rw [hob] at e'; cases e'; exact e), ⟨_, _, Heap.get?_push_size _ rfl⟩, fun b hb => ?_, q1 ob⟩
  cases (List.mem_singleton.mp hb)
  exact I2.fpOk (by rw [size_push']; omega) (I2.hok.fresh (by rw [size_push']; omega))
end
end L2
namespace DV
open PySem PySem.W PyProof.Rows
def run {α : Type} (lt : Nat → Nat → Bool) : KasT α → α
  | .ret a => a
  | .ask i j k => run lt (k (lt i j))
theorem run_bind {α β : Type} (lt : Nat → Nat → Bool) (f : α → KasT β) : ∀ t : KasT α, run lt (t.bind f) = run lt (f (run lt t))
  | .ret _ => rfl
  | .ask i j k => run_bind lt f (k (lt i j))
section
variable (r : Nat → Int)
def Rk (p : Array Nat) (i : Nat) : Int := r (p.getD i 0)
abbrev ltR (i j : Nat) : Bool := decide (r i < r j)
def Up (p : Array Nat) (k : Nat) : Prop := ∀ i j, i ≤ j → j < k → Rk r p i ≤ Rk r p j
def Dn (p : Array Nat) (k : Nat) : Prop := ∀ i j, i ≤ j → j < k → Rk r p j ≤ Rk r p i
theorem rk_rev {p : Array Nat} {i j : Nat} (hj : j ≤ p.size) (k : Nat) : Rk r (kas_rev p i j) k = if i ≤ k ∧ k < j then Rk r p (i + j - 1 - k) else Rk r p k := by
  unfold Rk kas_rev
  simp only [Array.getD_eq_getD_getElem?]
  rw [getElem?_mirror_all hj k]
  split <;> rfl
theorem size_rev (p : Array Nat) (i j : Nat) : (kas_rev p i j).size = p.size := (mirror_perm p i j _).size_eq
theorem perm_rev (p : Array Nat) (i j : Nat) : (kas_rev p i j).Perm p := mirror_perm p i j _
theorem rk_rev_eq {p : Array Nat} {i j : Nat} (hj : j ≤ p.size) (he : ∀ k, i ≤ k → k < j → Rk r p k = Rk r p (j - 1)) (k : Nat) : Rk r (kas_rev p i j) k = Rk r p k := by
  rw [rk_rev r hj]
  split
  · rw [he _ (by omega) (by omega), he k (by omega) (by omega)]
  · rfl
theorem Up.snoc {p : Array Nat} {n : Nat} (h : Up r p n) (hn : 1 ≤ n) (hs : Rk r p (n - 1) ≤ Rk r p n) : Up r p (n + 1) := by
  intro i j hij hj
  by_cases e : j < n
  · exact h i j hij e
  · have : j = n := by omega
    subst this
    by_cases e2 : i = j
    · subst e2; exact Int.le_refl _
    · exact Int.le_trans (h i (j - 1) (by omega) (by omega)) hs
theorem Dn.snoc {p : Array Nat} {n : Nat} (h : Dn r p n) (hn : 1 ≤ n) (hs : Rk r p n ≤ Rk r p (n - 1)) : Dn r p (n + 1) := by
  intro i j hij hj
  by_cases e : j < n
  · exact h i j hij e
  · have : j = n := by omega
    subst this
    by_cases e2 : i = j
    · subst e2; exact Int.le_refl _
    · exact Int.le_trans hs (h i (j - 1) (by omega) (by omega))
theorem asc_ok (p : Array Nat) : ∀ (f n : Nat), 1 ≤ n → Up r p n → n ≤ run (ltR r) (kas_asc p f n) ∧ run (ltR r) (kas_asc p f n) ≤ n + f ∧ Up r p (run (ltR r) (kas_asc p f n)) ∧
    (run (ltR r) (kas_asc p f n) = n + f ∨ Rk r p (run (ltR r) (kas_asc p f n)) < Rk r p (run (ltR r) (kas_asc p f n) - 1))
  | 0, n, hn, h => ⟨Nat.le_refl _, Nat.le_refl _, h, .inl rfl⟩
  | f + 1, n, hn, h => by
    show n ≤ run (ltR r) (if ltR r (p.getD n 0) (p.getD (n - 1) 0) = true then KasT.ret n else kas_asc p f (n + 1)) ∧ run (ltR r) (if ltR r (p.getD n 0) (p.getD (n - 1) 0) = true then KasT.ret n else kas_asc p f (n + 1)) ≤ n + (f + 1) ∧
      Up r p (run (ltR r) (if ltR r (p.getD n 0) (p.getD (n - 1) 0) = true then KasT.ret n else kas_asc p f (n + 1))) ∧ (run (ltR r) (if ltR r (p.getD n 0) (p.getD (n - 1) 0) = true then KasT.ret n else kas_asc p f (n + 1)) = n + (f + 1) ∨
      Rk r p (run (ltR r) (if ltR r (p.getD n 0) (p.getD (n - 1) 0) = true then KasT.ret n else kas_asc p f (n + 1))) < Rk r p (run (ltR r) (if ltR r (p.getD n 0) (p.getD (n - 1) 0) = true then KasT.ret n else kas_asc p f (n + 1)) - 1))
    by_cases c : ltR r (p.getD n 0) (p.getD (n - 1) 0) = true
    · rw [if_pos c]
      exact ⟨Nat.le_refl _, Nat.le_add_right _ _, h, .inr (of_decide_eq_true c)⟩
    · rw [if_neg c]
      have c' : Rk r p (n - 1) ≤ Rk r p n := Int.not_lt.mp fun z => c (decide_eq_true z)
      obtain ⟨h1, h2, h3, h4⟩ := asc_ok p f (n + 1) (by omega) (h.snoc r hn c')
      exact ⟨by omega, by omega, h3, h4.imp (fun e => by omega) id⟩
theorem desc_ok : ∀ (f : Nat) (p : Array Nat) (n q : Nat), 1 ≤ n → n + f ≤ p.size → q + 1 ≤ n → Dn r p n → (∀ k, n - (q + 1) ≤ k → k < n → Rk r p k = Rk r p (n - 1)) → ∀ z, z = run (ltR r) (kas_desc f p n q) →
    z.1.Perm p ∧ n ≤ z.2.1 ∧ z.2.1 ≤ n + f ∧ Dn r z.1 z.2.1 ∧ z.2.2 + 1 ≤ z.2.1 ∧ ∀ k, z.2.1 - (z.2.2 + 1) ≤ k → k < z.2.1 → Rk r z.1 k = Rk r z.1 (z.2.1 - 1)
  | 0, p, n, q, hn, hs, hq, h, he, z, ez => by subst ez; exact ⟨.refl _, Nat.le_refl _, Nat.le_refl _, h, hq, he⟩
  | f + 1, p, n, q, hn, hs, hq, h, he, z, ez => by
    have ez' : z = run (ltR r) (if ltR r (p.getD n 0) (p.getD (n - 1) 0) = true then (if q > 0 then kas_desc f (kas_rev p (n - (q + 1)) n) (n + 1) 0 else kas_desc f p (n + 1) 0)
      else .ask (p.getD (n - 1) 0) (p.getD n 0) fun d => if d = true then .ret (p, n, q) else kas_desc f p (n + 1) (q + 1)) := ez
    by_cases c : ltR r (p.getD n 0) (p.getD (n - 1) 0) = true
    · rw [if_pos c] at ez'
      have c' : Rk r p n < Rk r p (n - 1) := of_decide_eq_true c
      by_cases hq0 : q > 0
      · rw [if_pos hq0] at ez'
        have e1 : ∀ k, Rk r (kas_rev p (n - (q + 1)) n) k = Rk r p k := rk_rev_eq r (by omega) he
        have h' : Dn r (kas_rev p (n - (q + 1)) n) (n + 1) := by
          intro i j hij hj
          rw [e1, e1]
          exact (h.snoc r hn (Int.le_of_lt c')) i j hij hj
        obtain ⟨a1, a2, a3, a4, a5, a6⟩ := desc_ok f _ (n + 1) 0 (by omega) (by rw [size_rev]; omega) (by omega) h' (fun k k1 k2 => congrArg (Rk r _) (by omega)) z ez'
        exact ⟨a1.trans (perm_rev _ _ _), by omega, by omega, a4, a5, a6⟩
      · rw [if_neg hq0] at ez'
        obtain ⟨a1, a2, a3, a4, a5, a6⟩ := desc_ok f p (n + 1) 0 (by omega) (by omega) (by omega) (h.snoc r hn (Int.le_of_lt c')) (fun k k1 k2 => congrArg (Rk r _) (by omega)) z ez'
        exact ⟨a1, by omega, by omega, a4, a5, a6⟩
    · rw [if_neg c] at ez'
      have c' : Rk r p (n - 1) ≤ Rk r p n := Int.not_lt.mp fun z => c (decide_eq_true z)
      have ez2 : z = run (ltR r) (if ltR r (p.getD (n - 1) 0) (p.getD n 0) = true then .ret (p, n, q) else kas_desc f p (n + 1) (q + 1)) := ez'
      by_cases d : ltR r (p.getD (n - 1) 0) (p.getD n 0) = true
      · rw [if_pos d] at ez2
        subst ez2
        exact ⟨.refl _, Nat.le_refl _, Nat.le_add_right _ _, h, hq, he⟩
      · rw [if_neg d] at ez2
        have d' : Rk r p n ≤ Rk r p (n - 1) := Int.not_lt.mp fun z => d (decide_eq_true z)
        have e : Rk r p (n - 1) = Rk r p n := Int.le_antisymm c' d'
        obtain ⟨a1, a2, a3, a4, a5, a6⟩ := desc_ok f p (n + 1) (q + 1) (by omega) (by omega) (by omega) (h.snoc r hn d') (fun k k1 k2 => by
          show Rk r p k = Rk r p n
          by_cases ek : k = n
          · rw [ek]
          · rw [he k (by omega) (by omega), e]) z ez2
        exact ⟨a1, by omega, by omega, a4, a5, a6⟩
theorem tail3_ok {p : Array Nat} {n nrem : Nat} (hn : 1 ≤ n) (hs : n ≤ p.size) (hr : n ≤ nrem) (h : Dn r p n) : ∀ z, z = run (ltR r) (kas_tail3 n nrem p) → z.2.Perm p ∧ 1 ≤ z.1 ∧ z.1 ≤ nrem ∧ Up r z.2 z.1 := by
  intro z ez
  unfold kas_tail3 at ez
  rw [run_bind] at ez
  have hu : Up r (kas_rev p 0 n) n := by
    intro i j hij hj
    rw [rk_rev r hs, rk_rev r hs, if_pos (by omega), if_pos (by omega)]
    exact h _ _ (by omega) (by omega)
  obtain ⟨a1, a2, a3, a4⟩ := asc_ok r (kas_rev p 0 n) (nrem - n) n hn hu
  subst ez
  exact ⟨perm_rev _ _ _, Nat.le_trans hn a1, by show run (ltR r) (kas_asc (kas_rev p 0 n) (nrem - n) n) ≤ nrem; omega, a3⟩
theorem descPart_ok {p : Array Nat} {n nrem : Nat} (hn : 1 ≤ n) (hs : nrem ≤ p.size) (hr : n + 1 ≤ nrem) (h : Dn r p (n + 1)) : ∀ z, z = run (ltR r) (kas_descPart n nrem p) → z.2.Perm p ∧ 1 ≤ z.1 ∧ z.1 ≤ nrem ∧ Up r z.2 z.1 := by
  intro z ez
  unfold kas_descPart at ez
  rw [run_bind] at ez
  obtain ⟨a1, a2, a3, a4, a5, a6⟩ := desc_ok r (nrem - (n + 1)) p (n + 1) 0 (by omega) (by omega) (by omega) h (fun k k1 k2 => congrArg (Rk r _) (by omega)) _ rfl
  generalize run (ltR r) (kas_desc (nrem - (n + 1)) p (n + 1) 0) = y at *
  have hsz : y.1.size = p.size := a1.size_eq
  by_cases c : y.2.2 > 0
  · rw [if_pos c] at ez
    have e1 : ∀ k, Rk r (kas_rev y.1 (y.2.1 - (y.2.2 + 1)) y.2.1) k = Rk r y.1 k := rk_rev_eq r (by omega) a6
    have h' : Dn r (kas_rev y.1 (y.2.1 - (y.2.2 + 1)) y.2.1) y.2.1 := by
      intro i j hij hj
      rw [e1, e1]
      exact a4 i j hij hj
    obtain ⟨b1, b2, b3, b4⟩ := tail3_ok r (nrem := nrem) (by omega) (by rw [size_rev]; omega) (by omega) h' z ez
    exact ⟨(b1.trans (perm_rev _ _ _)).trans a1, b2, b3, b4⟩
  · rw [if_neg c] at ez
    obtain ⟨b1, b2, b3, b4⟩ := tail3_ok r (nrem := nrem) (by omega) (by omega) (by omega) a4 z ez
    exact ⟨b1.trans a1, b2, b3, b4⟩
theorem count_ok {p : Array Nat} {nrem : Nat} (h1 : 1 ≤ nrem) (hs : nrem ≤ p.size) : ∀ z, z = run (ltR r) (kas_count nrem p) → z.2.Perm p ∧ 1 ≤ z.1 ∧ z.1 ≤ nrem ∧ Up r z.2 z.1 := by
  intro z ez
  unfold kas_count at ez
  rw [run_bind] at ez
  have hu : Up r p 1 := fun i j hij hj => by
    have e : i = j := by omega
    rw [e]; exact Int.le_refl _
  obtain ⟨a1, a2, a3, a4⟩ := asc_ok r p (nrem - 1) 1 (Nat.le_refl _) hu
  generalize run (ltR r) (kas_asc p (nrem - 1) 1) = n at *
  by_cases c : (n == nrem) = true
  · rw [if_pos c] at ez
    subst ez
    exact ⟨.refl _, a1, by show n ≤ nrem; omega, a3⟩
  · rw [if_neg c] at ez
    have ne : n ≠ nrem := fun z => c (by rw [z]; exact beq_self_eq_true _)
    have lt : Rk r p n < Rk r p (n - 1) := a4.resolve_left (by omega)
    by_cases c2 : n > 1
    · rw [if_pos c2] at ez
      have ez2 : z = run (ltR r) (if ltR r (p.getD 0 0) (p.getD (n - 1) 0) = true then .ret (n, p) else kas_descPart n nrem (kas_rev p 0 n)) := ez
      by_cases d : ltR r (p.getD 0 0) (p.getD (n - 1) 0) = true
      · rw [if_pos d] at ez2
        subst ez2
        exact ⟨.refl _, a1, by show n ≤ nrem; omega, a3⟩
      · rw [if_neg d] at ez2
        have d' : Rk r p (n - 1) ≤ Rk r p 0 := Int.not_lt.mp fun z => d (decide_eq_true z)
        have eqs : ∀ k, 0 ≤ k → k < n → Rk r p k = Rk r p (n - 1) := fun k _ k2 => Int.le_antisymm (a3 k (n - 1) (by omega) (by omega)) (Int.le_trans d' (a3 0 k (by omega) k2))
        have e1 : ∀ k, Rk r (kas_rev p 0 n) k = Rk r p k := rk_rev_eq r (by omega) eqs
        have h' : Dn r (kas_rev p 0 n) (n + 1) := by
          intro i j hij hj
          rw [e1, e1]
          by_cases ej : j < n
          · rw [eqs i (by omega) (by omega), eqs j (by omega) ej]; exact Int.le_refl _
          · have : j = n := by omega
            subst this
            by_cases ei : i = j
            · rw [ei]; exact Int.le_refl _
            · rw [eqs i (by omega) (by omega)]; exact Int.le_of_lt lt
        obtain ⟨b1, b2, b3, b4⟩ := descPart_ok r (nrem := nrem) (by omega) (by rw [size_rev]; omega) (by omega) h' z ez2
        exact ⟨b1.trans (perm_rev _ _ _), b2, b3, b4⟩
    · rw [if_neg c2] at ez
      have e1 : n = 1 := by omega
      subst e1
      exact descPart_ok r (nrem := nrem) (by omega) (by omega) (by omega) (by
        intro i j hij hj
        by_cases ei : i = j
        · rw [ei]; exact Int.le_refl _
        · have z1 : i = 0 := by omega
          have z2 : j = 1 := by omega
          rw [z1, z2]; exact Int.le_of_lt lt) z ez
theorem place_ok {p : Array Nat} {k : Nat} : ∀ (f l q : Nat), l ≤ q → q ≤ k → q - l ≤ f → Up r p k → (∀ i, i < l → Rk r p i ≤ Rk r p k) → (∀ i, q ≤ i → i < k → Rk r p k ≤ Rk r p i) → ∀ z, z = run (ltR r) (kas_place p k f l q) →
    z ≤ k ∧ (∀ i, i < z → Rk r p i ≤ Rk r p k) ∧ ∀ i, z ≤ i → i < k → Rk r p k ≤ Rk r p i
  | 0, l, q, hl, hq, hf, hu, h1, h2, z, ez => by
    have e : l = q := by omega
    subst e
    subst ez
    exact ⟨hq, h1, h2⟩
  | f + 1, l, q, hl, hq, hf, hu, h1, h2, z, ez => by
    unfold kas_place at ez
    by_cases c : l ≥ q
    · rw [if_pos c] at ez
      have e : l = q := by omega
      subst e
      subst ez
      exact ⟨hq, h1, h2⟩
    · rw [if_neg c] at ez
      have ez2 : z = run (ltR r) (if ltR r (p.getD k 0) (p.getD ((l + q) / 2) 0) = true then kas_place p k f l ((l + q) / 2) else kas_place p k f ((l + q) / 2 + 1) q) := ez
      by_cases d : ltR r (p.getD k 0) (p.getD ((l + q) / 2) 0) = true
      · rw [if_pos d] at ez2
        have d' : Rk r p k < Rk r p ((l + q) / 2) := of_decide_eq_true d
        exact place_ok f l ((l + q) / 2) (by omega) (by omega) (by omega) hu h1 (fun i i1 i2 => Int.le_trans (Int.le_of_lt d') (hu _ i i1 i2)) z ez2
      · rw [if_neg d] at ez2
        have d' : Rk r p ((l + q) / 2) ≤ Rk r p k := Int.not_lt.mp fun z => d (decide_eq_true z)
        exact place_ok f ((l + q) / 2 + 1) q (by omega) hq (by omega) hu (fun i i1 => Int.le_trans (hu i ((l + q) / 2) (by omega) (by omega)) d') h2 z ez2
theorem rk_bubble {p : Array Nat} {src d : Nat} (hs : src < p.size) (hd : d ≤ src) (k : Nat) :
    Rk r (bubble p src d) k = if k = src - d then Rk r p src else if src - d < k ∧ k ≤ src then Rk r p (k - 1) else Rk r p k := by
  unfold Rk
  simp only [Array.getD_eq_getD_getElem?]
  rw [getElem?_bubble hs d hd k]
  split
  · rfl
  · split <;> rfl
theorem bin_ok : ∀ (f : Nat) (p : Array Nat) (k : Nat), k + f ≤ p.size → Up r p k → (run (ltR r) (kas_bin f p k)).Perm p ∧ Up r (run (ltR r) (kas_bin f p k)) (k + f)
  | 0, p, k, hs, h => ⟨.refl _, h⟩
  | f + 1, p, k, hs, h => by
    unfold kas_bin
    rw [run_bind]
    obtain ⟨l1, l2, l3⟩ := place_ok r (p := p) (k := k) k 0 k (by omega) (Nat.le_refl _) (by omega) h (fun i hi => absurd hi (Nat.not_lt_zero _)) (fun i i1 i2 => absurd i2 (by omega)) _ rfl
    generalize run (ltR r) (kas_place p k k 0 k) = l at *
    have hb : ∀ j, Rk r (bubble p k (k - l)) j = if j = l then Rk r p k else if l < j ∧ j ≤ k then Rk r p (j - 1) else Rk r p j := fun j => by
      rw [rk_bubble r (by omega) (by omega), show k - (k - l) = l by omega]
    have hu : Up r (bubble p k (k - l)) (k + 1) := by
      intro i j hij hj
      rw [hb, hb]
      by_cases e1 : i = l
      · rw [if_pos e1]
        by_cases e2 : j = l
        · rw [if_pos e2]; exact Int.le_refl _
        · rw [if_neg e2, if_pos (by omega)]; exact l3 _ (by omega) (by omega)
      · rw [if_neg e1]
        by_cases e2 : j = l
        · rw [if_pos e2, if_neg (by omega)]; exact l2 _ (by omega)
        · rw [if_neg e2]
          by_cases e3 : l < i ∧ i ≤ k
          · rw [if_pos e3, if_pos (by omega)]; exact h _ _ (by omega) (by omega)
          · rw [if_neg e3]
            by_cases e4 : l < j ∧ j ≤ k
            · rw [if_pos e4]; exact h _ _ (by omega) (by omega)
            · rw [if_neg e4]; exact h _ _ (by omega) (by omega)
    obtain ⟨a1, a2⟩ := bin_ok f (bubble p k (k - l)) (k + 1) (by rw [bubble_size]; omega) hu
    exact ⟨a1.trans (bubble_perm _ _ _), by rw [show k + (f + 1) = k + 1 + f by omega]; exact a2⟩
theorem sort_ok {n : Nat} (hn : 1 ≤ n) : (run (ltR r) (kas_sort n)).Perm (List.toArray (List.range n)) ∧ Up r (run (ltR r) (kas_sort n)) n := by
  unfold kas_sort
  rw [run_bind]
  have hsz : (List.toArray (List.range n)).size = n := by simp
  obtain ⟨a1, a2, a3, a4⟩ := count_ok r (p := List.toArray (List.range n)) hn (by omega) _ rfl
  generalize run (ltR r) (kas_count n (List.toArray (List.range n))) = y at *
  have hy : y.2.size = n := by rw [a1.size_eq, hsz]
  have hm : max y.1 1 = y.1 := Nat.max_eq_left a2
  by_cases c : y.1 < n
  · rw [if_pos c, hm]
    obtain ⟨b1, b2⟩ := bin_ok r (n - y.1) y.2 y.1 (by omega) a4
    exact ⟨b1.trans a1, by rw [show y.1 + (n - y.1) = n by omega] at b2; exact b2⟩
  · rw [if_neg c]
    have e : y.1 = n := by omega
    exact ⟨a1, by rw [e] at a4; exact a4⟩
end
end DV
namespace DV
open PySem PySem.W PyProof.Rows
def En {α : Type} (n : Nat) (G : α → Prop) : KasT α → Prop
  | .ret a => G a
  | .ask i j k => i < n ∧ j < n ∧ ∀ b, En n G (k b)
theorem En.bind {α β : Type} {n : Nat} {f : α → KasT β} {G : α → Prop} {G' : β → Prop} : ∀ {t : KasT α}, En n G t → (∀ a, G a → En n G' (f a)) → En n G' (t.bind f)
  | .ret a, g, h => h a g
  | .ask i j k, g, h => ⟨g.1, g.2.1, fun b => En.bind (g.2.2 b) h⟩
theorem En.ask {α : Type} {n i j : Nat} {k : Bool → KasT α} {G : α → Prop} (hi : i < n) (hj : j < n) (h : ∀ b, En n G (k b)) : En n G (.ask i j k) := ⟨hi, hj, h⟩
def Bd (n : Nat) (p : Array Nat) : Prop := ∀ i, p.getD i 0 < n
theorem Bd.of {n : Nat} {p q : Array Nat} (h : Bd n p) (hq : q.Perm p) (hn : 0 < n) : Bd n q := by
  intro i
  by_cases hi : i < q.size
  · have e : q.getD i 0 = q[i] := by simp [Array.getD, hi]
    rw [e]
    have m : q[i] ∈ p := hq.mem_iff.mp (Array.getElem_mem hi)
    obtain ⟨j, hj, ej⟩ := Array.mem_iff_getElem.mp m
    have := h j
    rw [show p.getD j 0 = p[j] by simp [Array.getD, hj], ej] at this
    exact this
  · rw [show q.getD i 0 = 0 by simp [Array.getD, hi]]
    exact hn
section
variable {n : Nat} (hn : 0 < n)
theorem en_asc {p : Array Nat} (h : Bd n p) : ∀ f k, En n (fun _ => True) (kas_asc p f k)
  | 0, _ => trivial
  | f + 1, k => .ask (h _) (h _) fun b => by
    cases b
    · rw [if_neg (by simp)]; exact en_asc h f (k + 1)
    · rw [if_pos rfl]; exact trivial
include hn in
theorem en_desc : ∀ f (p : Array Nat) k q, Bd n p → En n (fun z => Bd n z.1) (kas_desc f p k q)
  | 0, _, _, _, h => h
  | f + 1, p, k, q, h => .ask (h _) (h _) fun b => by
    cases b
    · rw [if_neg (by simp)]
      refine .ask (h _) (h _) fun d => ?_
      cases d
      · rw [if_neg (by simp)]; exact en_desc f p (k + 1) (q + 1) h
      · rw [if_pos rfl]; exact h
    · rw [if_pos rfl]
      split
      · exact en_desc f _ (k + 1) 0 (h.of (perm_rev _ _ _) hn)
      · exact en_desc f p (k + 1) 0 h
include hn in
theorem en_tail3 {k m : Nat} {p : Array Nat} (h : Bd n p) : En n (fun z => Bd n z.2) (kas_tail3 k m p) :=
  (en_asc (h.of (perm_rev p 0 k) hn) _ _).bind fun _ _ => h.of (perm_rev p 0 k) hn
include hn in
theorem en_descPart {k m : Nat} {p : Array Nat} (h : Bd n p) : En n (fun z => Bd n z.2) (kas_descPart k m p) := by
  refine (en_desc hn _ p _ 0 h).bind fun z hz => ?_
  split
  · exact en_tail3 hn (hz.of (perm_rev _ _ _) hn)
  · exact en_tail3 hn hz
include hn in
theorem en_count {m : Nat} {p : Array Nat} (h : Bd n p) : En n (fun z => Bd n z.2) (kas_count m p) := by
  refine (en_asc h _ _).bind fun k _ => ?_
  split
  · exact h
  · split
    · refine .ask (h _) (h _) fun b => ?_
      cases b
      · rw [if_neg (by simp)]; exact en_descPart hn (h.of (perm_rev _ _ _) hn)
      · rw [if_pos rfl]; exact h
    · exact en_descPart hn h
theorem en_place {p : Array Nat} {k : Nat} (h : Bd n p) : ∀ f l q, En n (fun _ => True) (kas_place p k f l q)
  | 0, _, _ => trivial
  | f + 1, l, q => by
    unfold kas_place
    split
    · exact trivial
    · refine .ask (h _) (h _) fun b => ?_
      cases b
      · rw [if_neg (by simp)]; exact en_place h f _ _
      · rw [if_pos rfl]; exact en_place h f _ _
include hn in
theorem en_bin : ∀ f (p : Array Nat) k, Bd n p → En n (fun z => Bd n z) (kas_bin f p k)
  | 0, _, _, h => h
  | f + 1, p, k, h => (en_place h _ _ _).bind fun l _ => en_bin f _ (k + 1) (h.of (bubble_perm _ _ _) hn)
include hn in
theorem en_sort : En n (fun _ => True) (kas_sort n) := by
  have h0 : Bd n (List.toArray (List.range n)) := fun i => by
    by_cases hi : i < n
    · simp [Array.getD, hi]
    · simp [Array.getD, hi, hn]
  refine (en_count hn h0).bind fun z hz => ?_
  split
  · have mono : ∀ {t : KasT (Array Nat)}, En n (fun z => Bd n z) t → En n (fun _ => True) t := fun {t} => by
      induction t with
      | ret a => exact fun _ => trivial
      | ask i j k ih => exact fun h => ⟨h.1, h.2.1, fun b => ih b (h.2.2 b)⟩
    exact mono (en_bin hn _ _ _ hz)
  · exact trivial
end
theorem wp_en {α : Type} {n : Nat} {cmp : Nat → Nat → (Bool → Shared → Prop) → Shared → Prop} {lt : Nat → Nat → Bool} {J : Shared → Prop} (h : ∀ i j, i < n → j < n → ∀ C s, J s → (∀ s', J s' → C (lt i j) s') → cmp i j C s) {G : α → Prop} {Q : α → Shared → Prop} :
    ∀ (t : KasT α) (s : Shared), En n G t → J s → (∀ s', J s' → Q (run lt t) s') → t.kasWp cmp Q s
  | .ret a, s, _, js, q => q s js
  | .ask i j k, s, e, js, q => h i j e.1 e.2.1 _ s js fun s' js' => wp_en h (k (lt i j)) s' (e.2.2 _) js' q
def rank (lt : Nat → Nat → Bool) (n i : Nat) : Int := ((List.range n).countP fun j => lt j i : Nat)
theorem countP_lt {α : Type} {l : List α} {p q : α → Bool} (h : ∀ x ∈ l, p x = true → q x = true) {a : α} (ha : a ∈ l) (hp : p a = false) (hq : q a = true) : l.countP p < l.countP q := by
  induction l with
  | nil => cases ha
  | cons b l ih =>
    have m := List.countP_mono_left (l := l) (p := p) (q := q) fun x hx => h x (List.mem_cons_of_mem _ hx)
    rcases List.mem_cons.mp ha with e | ha
    · subst e
      rw [List.countP_cons_of_neg (by simp [hp]), List.countP_cons_of_pos hq]
      omega
    · have i1 := ih (fun x hx => h x (List.mem_cons_of_mem _ hx)) ha
      by_cases hb : p b = true
      · rw [List.countP_cons_of_pos hb, List.countP_cons_of_pos (h b (List.mem_cons_self ..) hb)]
        omega
      · rw [List.countP_cons_of_neg hb]
        by_cases hb2 : q b = true
        · rw [List.countP_cons_of_pos hb2]; omega
        · rw [List.countP_cons_of_neg hb2]; exact i1
structure Ord (lt : Nat → Nat → Bool) (n : Nat) : Prop where
  irr : ∀ i, i < n → lt i i = false
  tr : ∀ i j k, i < n → j < n → k < n → lt i j = true → lt j k = true → lt i k = true
  neg : ∀ i j k, i < n → j < n → k < n → lt i k = true → lt i j = true ∨ lt j k = true
theorem rank_lt {lt : Nat → Nat → Bool} {n i j : Nat} (o : Ord lt n) (hi : i < n) (hj : j < n) : ltR (rank lt n) i j = lt i j := by
  unfold ltR rank
  cases e : lt i j with
  | true =>
    refine decide_eq_true (Int.ofNat_lt.mpr (countP_lt (fun x hx h => ?_) (List.mem_range.mpr hi) (o.irr i hi) e))
    exact o.tr x i j (List.mem_range.mp hx) hi hj h e
  | false =>
    refine decide_eq_false (Int.not_lt.mpr (Int.ofNat_le.mpr (List.countP_mono_left fun x hx h => ?_)))
    rcases o.neg x i j (List.mem_range.mp hx) hi hj h with z | z
    · exact z
    · rw [e] at z; cases z
theorem sort_wp {n : Nat} (hn : 1 ≤ n) {cmp : Nat → Nat → (Bool → Shared → Prop) → Shared → Prop} {lt : Nat → Nat → Bool} {J : Shared → Prop} (o : Ord lt n) (h : ∀ i j, i < n → j < n → ∀ C s, J s → (∀ s', J s' → C (lt i j) s') → cmp i j C s)
    {Q : Array Nat → Shared → Prop} {s : Shared} (js : J s) (hq : ∀ p : Array Nat, p.Perm (List.toArray (List.range n)) → (∀ i j, i ≤ j → j < n → lt (p.getD j 0) (p.getD i 0) = false) → ∀ s', J s' → Q p s') : (kas_sort n).kasWp cmp Q s := by
  refine wp_en (lt := ltR (rank lt n)) (J := J) (G := fun _ => True) (fun i j hi hj C s js hc => h i j hi hj C s js fun s' js' => by rw [← rank_lt o hi hj]; exact hc s' js') (kas_sort n) s (en_sort (by omega)) js fun s' js' => ?_
  obtain ⟨a1, a2⟩ := sort_ok (rank lt n) hn
  refine hq _ a1 (fun i j hij hj => ?_) s' js'
  have h0 : Bd n (List.toArray (List.range n)) := fun i => by
    by_cases hi : i < n
    · simp [Array.getD, hi]
    · simp [Array.getD, hi]; omega
  have b := h0.of a1 (by omega)
  rw [← rank_lt o (b j) (b i)]
  exact decide_eq_false (Int.not_lt.mpr (a2 i j hij hj))
end DV
namespace L2
open PySem PySem.Spec PySem.W PyProof.Rows
section
variable {X : Cx}
def rListD : List V → Hp → VK → Prop := fun xs H Q => ∃ (a : Addr) (kvs : List (Key × V)), xs = [.ref a] ∧ Rd H a (.dK kvs) ∧ ∀ p, H p = none → Q (.ref p) (upd H p (.lst (kvs.map fun kv => kV kv.1)))
theorem call_listD (hc : X.calm = true) : CallR X (.type "list") rListD := by
  intro pins s σ H xs us Q I r h
  obtain ⟨a, kvs, e1, d, q⟩ := h
  subst e1
  obtain ⟨u, e2, ru⟩ := vals1 r
  subst e2
  obtain rfl : u = Value.ref a := ru
  obtain ⟨z, hd, vs, rel, dd⟩ := dk_rd I.hok d
  obtain ⟨ep, da⟩ := dictAt_of dd
  refine kdl_call (kdl_dict (knd := mixKind X.prog X.w) (kvs := vs) (ep := ep) hd) (I.ok.hd hc) da (by rw [← rel.length]; exact z) fun h' tk acc c hk hg hacc => ?_
  have rv : Vals (kvs.map fun kv => kV kv.1) acc.toList := by
    have el : acc.toList.length = vs.length := by rw [Array.length_toList]; exact hacc.1
    have go : ∀ (ks : List (Key × V)) (us : List (Key × Value)) (as : List Value), KV ks us → as.length = us.length → (∀ (j : Nat) (v : Value), as[j]? = some v → ∃ k x, us[j]? = some (k, x) ∧ (mixKind X.prog X.w).is k v = true) → Vals (ks.map fun kv => kV kv.1) as := by
      intro ks us as kv
      induction kv generalizing as with
      | nil => intro l _; cases as with
        | nil => exact .nil
        | cons => cases l
      | cons p t ih =>
        intro l hh
        cases as with
        | nil => cases l
        | cons v as =>
          refine .cons ?_ (ih as (by simpa using l) fun j w e => hh (j + 1) w (by simpa using e))
          obtain ⟨k, x, e, m⟩ := hh 0 v rfl
          have e' := Option.some.inj e
          show RelV (kV _) v
          rw [p.1, e']
          exact kV_of m
    exact go kvs vs _ rel el fun j v e => hacc.2 j v (by rw [← Array.getElem?_toList]; exact e)
  refine ⟨.ref s.heap.objs.size, _, I.laid (a := s.heap.objs.size) (o := .lst (kvs.map fun kv => kV kv.1)) (t' := tk) hk (Nat.le_refl _) ⟨by rw [List.length_map]; exact z, acc.toList, c, rv, by simpa using hg⟩, rfl, q _ (I.hok.fresh (Nat.le_refl _))⟩
end
end L2
namespace DV
open PySem PySem.W PyProof.Rows
def lexLt (p q : Int × Str) : Bool := if p.1 = q.1 then (if p.2 = q.2 then false else decide (p.2.cps.toList < q.2.cps.toList)) else decide (p.1 < q.1)
section
variable {prog : Program} {w : World} {A : Around} {E : Value → Shared → Prop} {s : Shared}
theorem cmp_pair {x y : Addr} {ox oy : Obj} {a b : Int} {m n : Str} {t1 t2 u1 u2 : Tok} {c d : Nat} {Q : Bool → Shared → Prop} (hx : s.heap.get? x = some ox) (dx : ox.data = .seq #[.int a t1, .str m t2] c) (hy : s.heap.get? y = some oy) (dy : oy.data = .seq #[.int b u1, .str n u2] d)
    (h : Q (lexLt (a, m) (b, n)) s) : wpAny (model prog w) A (keyLt' (tuples' true) (.ref x) (.ref y)) Q E s := by
  refine kat_lt hx dx hy dy ?_
  show KatLex prog w A true (decide (2 < 2)) Q [(.int a t1, .int b u1), (.str m t2, .str n u2)] 0 s
  refine kat_cons (wpAny_eqBool_int ?_)
  unfold lexLt at h
  by_cases e : a = b
  · rw [show (a == b) = true by simp [e]]
    refine kat_yes (kat_cons (wpAny_eqBool_str ?_))
    dsimp only at h
    rw [if_pos e] at h
    by_cases e2 : m = n
    · rw [decide_eq_true e2]
      rw [if_pos e2] at h
      exact kat_yes (kat_nil h)
    · rw [decide_eq_false e2]
      rw [if_neg e2] at h
      exact kat_no (kat_one _ _ (lt_str h))
  · rw [show (a == b) = false by simp [e]]
    dsimp only at h
    rw [if_neg e] at h
    exact kat_no (oneLt_int h)
theorem tailS {a kS : Addr} {e1 e : Nat} {ks : List Value} {out : List Value} {st : SortSt} {P : PySem.Fin → Shared → Prop} (ha : s.heap.get? a = some (seqObj "list" #[] e1)) (hk : s.heap.get? kS = some (seqObj "list" (List.toArray ks) e)) (hne : kS ≠ a)
    (hout : (arrOf st).map (·.2) = List.toArray out) (hz : out.length < 64) (hkz : ks.length < 64) (hf : failedOf st = none)
    (h : ∀ h' c, (∀ b, b ≠ kS → b ≠ a → h'.get? b = s.heap.get? b) → h'.get? a = some (seqObj "list" (List.toArray out) c) → P (.done (.ret .none)) { s with heap := h' }) : wpAny (model prog w) A (ksk_tail a false e1 (.ref kS) st) P E s := by
  have s1 := Heap.SameBut.update s.heap kS (Obj.mapSeq fun _ => (#[] : Array Value))
  have na : (s.heap.update kS (Obj.mapSeq fun _ => (#[] : Array Value))).get? a = some (seqObj "list" #[] e1) := (s1.2 a (Ne.symm hne)).trans ha
  have s2 := Heap.SameBut.update (s.heap.update kS (Obj.mapSeq fun _ => (#[] : Array Value))) a (Obj.mapSeq fun _ => List.toArray out)
  obtain ⟨c2, hc2⟩ : ∃ c2, ((s.heap.update kS (Obj.mapSeq fun _ => (#[] : Array Value))).update a (Obj.mapSeq fun _ => List.toArray out)).get? a = some (seqObj "list" (List.toArray out) c2) := ⟨_, get?_update_seq na fun _ => List.toArray out⟩
  unfold ksk_tail
  try dsimp only
  rw [hout]
  refine wpAny_bind (listUpdate_at hk rfl ?_ (by rw [List.size_toArray, sizeLine_eq]; omega) (Nat.zero_le _))
  refine wpAny_bind (wpAny_letGo ?_)
  refine wpAny_bind (seqEpoch_at na rfl ?_)
  refine wpAny_bind (listUpdate_at na rfl ?_ (Nat.zero_le _) (by simp only [Bool.false_eq_true, if_false, List.size_toArray, sizeLine_eq]; omega))
  rw [hf]
  simp only [bne_self_eq_false, Bool.false_eq_true, if_false]
  exact wpAny_pure (h _ c2 (fun b b1 b2 => (s2.2 b b2).trans (s1.2 b b1)) hc2)
end
theorem lexOrd (ps : List (Int × Str)) (n : Nat) : Ord (fun i j => lexLt (ps.getD i (0, "")) (ps.getD j (0, ""))) n := by
  have irr : ∀ p, lexLt p p = false := fun p => by unfold lexLt; rw [if_pos rfl, if_pos rfl]
  have ltl : ∀ x y z : Str, x.cps.toList < y.cps.toList → y.cps.toList < z.cps.toList → x.cps.toList < z.cps.toList := fun x y z h1 h2 => List.lt_trans h1 h2
  have neq : ∀ x y : Str, x.cps.toList < y.cps.toList → x ≠ y := fun x y h e => by subst e; exact List.lt_irrefl _ h
  have tot : ∀ x y : Str, x ≠ y → x.cps.toList < y.cps.toList ∨ y.cps.toList < x.cps.toList := fun x y h => by
    by_cases c : x.cps.toList < y.cps.toList
    · exact .inl c
    · by_cases d : y.cps.toList < x.cps.toList
      · exact .inr d
      · exfalso
        apply h
        have e : x.cps.toList = y.cps.toList := List.le_antisymm (List.not_lt.mp d) (List.not_lt.mp c)
        have e2 : x.cps = y.cps := Array.toList_inj.mp e
        cases x; cases y; simp_all
  have sp : ∀ p q, lexLt p q = true ↔ (p.1 < q.1 ∨ p.1 = q.1 ∧ p.2.cps.toList < q.2.cps.toList) := fun p q => by
    unfold lexLt
    by_cases e : p.1 = q.1
    · rw [if_pos e]
      by_cases e2 : p.2 = q.2
      · rw [if_pos e2]
        constructor
        · intro h; cases h
        · rintro (h | ⟨_, h⟩)
          · omega
          · exact absurd e2 (neq _ _ h)
      · rw [if_neg e2]
        constructor
        · intro h; exact .inr ⟨e, of_decide_eq_true h⟩
        · rintro (h | ⟨_, h⟩)
          · omega
          · exact decide_eq_true h
    · rw [if_neg e]
      constructor
      · intro h; exact .inl (of_decide_eq_true h)
      · rintro (h | ⟨h, _⟩)
        · exact decide_eq_true h
        · exact absurd h e
  refine ⟨fun i _ => irr _, fun i j k _ _ _ h1 h2 => ?_, fun i j k _ _ _ h => ?_⟩
  · rw [sp] at *
    rcases h1 with h1 | ⟨h1, h1'⟩ <;> rcases h2 with h2 | ⟨h2, h2'⟩
    · exact .inl (by omega)
    · exact .inl (by omega)
    · exact .inl (by omega)
    · exact .inr ⟨by omega, ltl _ _ _ h1' h2'⟩
  · rw [sp] at h
    rw [sp, sp]
    generalize ps.getD i (0, "") = p at *
    generalize ps.getD j (0, "") = q at *
    generalize ps.getD k (0, "") = z at *
    by_cases c1 : p.1 < q.1
    · exact .inl (.inl c1)
    · by_cases c2 : q.1 < z.1
      · exact .inr (.inl c2)
      · rcases h with h | ⟨h, h'⟩
        · omega
        · have e1 : p.1 = q.1 := by omega
          have e2 : q.1 = z.1 := by omega
          by_cases c : p.2.cps.toList < q.2.cps.toList
          · exact .inl (.inr ⟨e1, c⟩)
          · refine .inr (.inr ⟨e2, ?_⟩)
            by_cases c3 : q.2 = p.2
            · rw [c3]; exact h'
            · rcases tot _ _ c3 with d | d
              · exact ltl _ _ _ d h'
              · exact absurd d c
end DV
namespace DV
open PySem PySem.W PyProof.Rows
def KeyAt (h : Heap) (k : Value) (p : Int × Str) : Prop := ∃ x ox t1 t2 c, k = .ref x ∧ h.get? x = some ox ∧ ox.cls = .type "tuple" ∧ ox.data = .seq #[.int p.1 t1, .str p.2 t2] c
def KeysAt (h : Heap) (ks : List Value) (ps : List (Int × Str)) : Prop := ks.length = ps.length ∧ ∀ (i : Nat) (k : Value) (p : Int × Str), ks[i]? = some k → ps[i]? = some p → KeyAt h k p
section
variable {prog : Program} {w : World} {A : Around} {E : Value → Shared → Prop} {s : Shared}
theorem katTups_of {h : Heap} : ∀ {ks : List Value} {ps : List (Int × Str)}, KeysAt h ks ps → ∃ fs, KatTups h ks fs ∧ fs.length = ks.length ∧ ∀ v ∈ fs, ∃ a t, v = Value.int a t
  | [], [], _ => ⟨[], trivial, rfl, fun v z => nomatch z⟩
  | [], _ :: _, hk => by cases hk.1
  | _ :: _, [], hk => by cases hk.1
  | k :: ks, p :: ps, hk => by
    obtain ⟨fs, h1, h2, h3⟩ := katTups_of (h := h) (ks := ks) (ps := ps) ⟨by simpa using hk.1, fun i k p e1 e2 => hk.2 (i + 1) k p (by simpa using e1) (by simpa using e2)⟩
    obtain ⟨x, ox, t1, t2, c, e, ho, hc, hd⟩ := hk.2 0 k p rfl rfl
    subst e
    refine ⟨.int p.1 t1 :: fs, KatTups.cons ho hc hd rfl h1, by simp [h2], fun v hv => ?_⟩
    rcases List.mem_cons.mp hv with z | z
    · exact ⟨p.1, t1, z⟩
    · exact h3 v z
theorem endS {a kS : Addr} {e1 e : Nat} {ks vs : List Value} {ps : List (Int × Str)} {P : PySem.Fin → Shared → Prop} (hl : ks.length = vs.length) (h64 : vs.length < 64) (ha : s.heap.get? a = some (seqObj "list" #[] e1))
    (hk : s.heap.get? kS = some (seqObj "list" (List.toArray ks) e)) (hne : kS ≠ a) (hks : KeysAt s.heap ks ps)
    (h : ∀ p : Array Nat, p.Perm (List.toArray (List.range vs.length)) → (∀ i j, i ≤ j → j < vs.length → lexLt (ps.getD (p.getD j 0) (0, "")) (ps.getD (p.getD i 0) (0, "")) = false) →
      ∀ h' c, (∀ b, b ≠ kS → b ≠ a → h'.get? b = s.heap.get? b) → h'.get? a = some (seqObj "list" (List.toArray (p.toList.map fun i => vs.getD i Value.none)) c) → P (.done (.ret .none)) { s with heap := h' }) :
    wpAny (model prog w) A (ksk_end a false vs.toArray e1 (.ref kS) (List.toArray ks)) P E s := by
  unfold ksk_end
  try dsimp only
  simp only [Bool.false_eq_true, if_false]
  by_cases h2 : vs.length < 2
  · have hn2 : vs.toArray.size < 2 := by rw [List.size_toArray]; exact h2
    rw [if_pos hn2, if_pos hn2]
    refine wpAny_bind (wpAny_pure ?_)
    refine wpAny_bind (wpAny_pure ?_)
    try dsimp only
    have hr : (List.toArray (List.range vs.length)).toList.map (fun i => vs.getD i Value.none) = vs := by
      apply List.ext_getElem?
      intro i
      by_cases hi : i < vs.length
      · simp [hi, List.getD]
      · simp [hi]
    have ho : (arrOf (SortSt.mk' general' ((List.toArray ks).zip vs.toArray) #[] 7 none)).map (·.2) = List.toArray vs := by
      show ((List.toArray ks).zip vs.toArray).map (·.2) = _
      apply Array.toList_inj.mp
      rw [Array.toList_map, ksk_zip]
      exact List.map_snd_zip (Nat.le_of_eq hl.symm)
    refine tailS ha hk hne ho h64 (by omega) rfl fun h' c hb hc => h (List.toArray (List.range vs.length)) (.refl _) (fun i j hij hj => ?_) h' c hb (by rw [hr]; exact hc)
    have e0 : i = j := by omega
    rw [e0]
    unfold lexLt
    rw [if_pos rfl, if_pos rfl]
  · have hn2 : ¬ vs.toArray.size < 2 := by rw [List.size_toArray]; exact h2
    rw [if_neg hn2, if_neg hn2]
    obtain ⟨fs, t1, t2, t3⟩ := katTups_of hks
    refine wpAny_bind (kat_kind (T := .type "int") t1 (by omega) (fun v hv => ?_) (by decide) ?_)
    · obtain ⟨z, t, rfl⟩ := t3 v hv
      exact .now
    rw [show (Value.type "int" != Value.type "tuple") = true by decide]
    refine wpAny_bind (wpAny_mono (kat_run (Q := fun st' s' => ∃ p : Array Nat, arrOf st' = p.map (kas_item ((List.toArray ks).zip (List.toArray vs))) ∧ failedOf st' = none ∧ s' = s ∧
      p.Perm (List.toArray (List.range vs.length)) ∧ ∀ i j, i ≤ j → j < vs.length → lexLt (ps.getD (p.getD j 0) (0, "")) (ps.getD (p.getD i 0) (0, "")) = false)
      (G := fun p s' => s' = s ∧ p.Perm (List.toArray (List.range vs.length)) ∧ ∀ i j, i ≤ j → j < vs.length → lexLt (ps.getD (p.getD j 0) (0, "")) (ps.getD (p.getD i 0) (0, "")) = false)
      hl (by omega) h64 (fun p' st' s' _ a2 a3 a4 => ⟨p', a2, a3, a4⟩) ?_) ?_ fun _ _ x => x)
    · refine sort_wp (J := fun s' => s' = s) (by omega) (lexOrd ps vs.length) (fun i j hi hj C s' js hc => ?_) rfl fun p hp hs s' js => ⟨js, hp, hs⟩
      subst js
      have li : i < ks.length := by omega
      have lj : j < ks.length := by omega
      have lps := hks.1
      obtain ⟨x, ox, u1, u2, c1, ex, hx, _, dx⟩ := hks.2 i ks[i] (ps[i]'(by omega)) (by simp [li]) (by simp [show i < ps.length by omega])
      obtain ⟨y, oy, w1, w2, c2, ey, hy, _, dy⟩ := hks.2 j ks[j] (ps[j]'(by omega)) (by simp [lj]) (by simp [show j < ps.length by omega])
      show wpAny _ _ (keyLt' (tuples' true) (ks.getD i Value.none) (ks.getD j Value.none)) _ _ _
      rw [show ks.getD i Value.none = .ref x by simp [List.getD, li, ex], show ks.getD j Value.none = .ref y by simp [List.getD, lj, ey]]
      refine cmp_pair hx dx hy dy ?_
      have := hc _ rfl
      simpa [List.getD, show i < ps.length by omega, show j < ps.length by omega] using this
    · rintro ⟨⟨⟩, st'⟩ s' ⟨p, har, hf, rfl, hp, hs⟩
      try dsimp only
      exact tailS ha hk hne (kat_snds hl har) (by rw [List.length_map, Array.length_toList, hp.size_eq]; simpa using h64) (by omega) hf fun h' c hb hc => h p hp hs h' c hb hc
end
end DV
namespace L2
open PySem PySem.Spec PySem.W PyProof.Rows
abbrev Cx.i2 (X : Cx) : Cx := X.i1.i1
def KeysH (H : Hp) (ks : List Value) (ps : List (Int × Str)) : Prop := ks.length = ps.length ∧ ∀ (i : Nat) (k : Value) (p : Int × Str), ks[i]? = some k → ps[i]? = some p → ∃ x, k = .ref x ∧ H x = some (.tup [.int p.1, .str p.2])
theorem KeysH.keep {H H' : Hp} {ks : List Value} {ps : List (Int × Str)} (h : KeysH H ks ps) (s : Same H H') : KeysH H' ks ps := ⟨h.1, fun i k p e1 e2 => by
  obtain ⟨x, ex, hx⟩ := h.2 i k p e1 e2
  exact ⟨x, ex, s _ _ hx⟩⟩
theorem KeysH.snoc {H : Hp} {ks : List Value} {ps : List (Int × Str)} (h : KeysH H ks ps) {p : Int × Str} {x : Addr} (hx : H x = some (.tup [.int p.1, .str p.2])) : KeysH H (ks ++ [.ref x]) (ps ++ [p]) := by
  refine ⟨by simp [h.1], fun i k q e1 e2 => ?_⟩
  by_cases hi : i < ks.length
  · rw [List.getElem?_append_left hi] at e1
    rw [List.getElem?_append_left (by rw [← h.1]; exact hi)] at e2
    exact h.2 i k q e1 e2
  · rw [List.getElem?_append_right (by omega)] at e1
    rw [List.getElem?_append_right (by rw [← h.1]; omega)] at e2
    have hz : i - ks.length = 0 := by
      cases z : i - ks.length with
      | zero => rfl
      | succ m => rw [z] at e1; simp at e1
    rw [hz] at e1
    rw [← h.1, hz] at e2
    cases e1
    cases e2
    exact ⟨x, rfl, hx⟩
section
variable {X : Cx} {pins : List (Addr × Obj)} {σ : St} {E : Value → Shared → Prop}
theorem KeysH.at {H : Hp} {s : Shared} {ks : List Value} {ps : List (Int × Str)} (I : Inv X pins σ H s) (h : KeysH H ks ps) : DV.KeysAt s.heap ks ps := ⟨h.1, fun i k p e1 e2 => by
  obtain ⟨x, ex, hx⟩ := h.2 i k p e1 e2
  obtain ⟨_, its, rv, o, ho, hc, n, hd⟩ := I.hok x _ hx
  obtain ⟨u, v, e3, ru, rv'⟩ := vals2 rv
  obtain ⟨t1, e4⟩ := ru
  obtain ⟨t2, e5⟩ := rv'
  exact ⟨x, o, t1, t2, n, ex, ho, hc, by rw [hd, e3, e4, e5]⟩⟩
end
end L2
namespace L2
open PySem PySem.Spec PySem.W PyProof.Rows
section
variable {X : Cx} {pins : List (Addr × Obj)} {σ : St} {H : Hp} {s : Shared} {h' : Heap}
theorem Inv.adopt {t' : Nat} {ch : List Addr} {a : Addr} {o : HO} (I : Inv X pins σ H s) (k : ∀ b u, b ∉ ch → s.heap.get? b = some u → h'.get? b = some u) (hch : ∀ b ∈ ch, FpOk X pins H b) (ha : a ∈ ch) (new : ObjOk X.prog X.w (upd H a o) h' a o) : Inv X pins σ (upd H a o) { s with heap := h', toks := t' } := by
  have hn : H a = none := (hch a ha).1
  have nch : ∀ b u, H b = some u → b ∉ ch := fun b u e z => by rw [(hch b z).1] at e; cases e
  refine I.step (g' := s.gens) (d' := s.drawn) (ch := ch) (fun b hb => ⟨(hch b hb).2.2.2.1, (hch b hb).2.1, (hch b hb).2.2.2.2.1, (hch b hb).2.2.2.2.2⟩) (fun b o _ _ hc e _ => k b o hc e) (fun b o _ _ hc e _ => ⟨o.slots, k b o hc e⟩)
    (fun b u hc e n => by rw [upd_ne (fun z => hc (by rw [z]; exact ha))]; exact n) (fun b o hc e => ⟨o, k b o hc e⟩) (fun b xs e => by rw [upd_ne (ne_of_none e hn)]; exact e) (fun b u xs e => by rw [upd_ne (ne_of_none e hn)]; exact e)
    (fun b ps e => ⟨#[], by rw [upd_ne (ne_of_none e hn), e]; simp⟩) (fun m hm => ?_) (fun b u e => ?_) I.bare
  · obtain ⟨ob, es, ep, ho, r⟩ := hm
    exact ⟨ob, es, ep, k _ ob (fun z => (hch _ z).2.1 rfl) ho, r⟩
  · by_cases hb : b = a
    · subst hb
      rw [upd_same] at e
      cases e
      exact new
    · rw [upd_ne hb] at e
      refine (I.hok b u e).stay (fun c v hc q => k c v ?_ q) (fun c q => by rw [upd_ne (ne_of_none q hn)]; exact q) fun c xs q => by rw [upd_ne (ne_of_none q hn)]; exact q
      rcases hc with z | z
      · rw [z]
        exact nch b u e
      · exact nch c _ z
end
section
variable {X : Cx} {pins : List (Addr × Obj)} {σ : St} {E : Value → Shared → Prop}
end
end L2
namespace L2
open PySem PySem.Spec PySem.W PyProof.Rows
section
variable (p1 p2 p3 p4 p5 p6 p7 : Pos) (k0 : Nat)
abbrev lamArgs : Arguments := { posonlyargs := [], args := [{ arg := "name", annotation := none, pos := p1 }], vararg := none, kwonlyargs := [], kw_defaults := [], kwarg := none, defaults := [] }
abbrev lamBody : Expr := .Tuple [.UnaryOp .USub (.Subscript (.Name "rests" p2) (.Name "name" p3) p4) p5, .Name "name" p6] k0 p7
end
end L2
namespace L2
open PySem PySem.Spec PySem.W PyProof.Rows
abbrev CodeO (c : Addr) (q : Str) : HO := .ext fun h => h.CodeRec (.ref c) q
def TabOk (H : Hp) (pos : Pos) (q : Str) (ps : Array Value) : Prop := TriplesOk ps.toList ∧ (codeAmong pos ps.toList = none ∨ ∃ c, codeAmong pos ps.toList = some (.ref c) ∧ H c = some (CodeO c q))
section
variable {X : Cx} {pins : List (Addr × Obj)} {σ : St} {H : Hp} {s : Shared} {h' : Heap}
theorem Inv.grow {t' : Nat} {P : Addr} {ps more : Array Value} (I : Inv X pins σ H s) (hP : H P = some (.tbl ps)) (k : ∀ b u, b ≠ P → s.heap.get? b = some u → h'.get? b = some u) (hn : h'.get? P = some (tabObj (ps ++ more))) :
    Inv X pins σ (upd H P (.tbl (ps ++ more))) { s with heap := h', toks := t' } := by
  have nP : ∀ b, H b = none → b ≠ P := fun b e z => by rw [z, hP] at e; cases e
  refine I.step (g' := s.gens) (d' := s.drawn) (ch := []) (fun _ z => nomatch z) (fun b o _ _ _ e n => k b o (nP b n) e) (fun b o _ _ _ e n => ⟨o.slots, k b o (nP b n) e⟩)
    (fun b u _ e n => by rw [upd_ne (nP b n)]; exact n) (fun b o _ e => ?_) (fun b xs e => by rw [upd_ne (fun z => by rw [z, hP] at e; cases e)]; exact e) (fun b u xs e => by rw [upd_ne (fun z => by rw [z, hP] at e; cases e)]; exact e)
    (fun b qs e => ?_) (fun m hm => ?_) (fun b u e => ?_) I.bare
  · by_cases hb : b = P
    · rw [hb]; exact ⟨_, hn⟩
    · exact ⟨o, k b o hb e⟩
  · by_cases hb : b = P
    · rw [hb, hP] at e
      cases e
      exact ⟨more, by rw [hb, upd_same]⟩
    · exact ⟨#[], by rw [upd_ne hb, e]; simp⟩
  · obtain ⟨ob, es, ep, ho, r⟩ := hm
    exact ⟨ob, es, ep, k _ ob (nP _ I.free) ho, r⟩
  · by_cases hb : b = P
    · subst hb
      rw [upd_same] at e
      cases e
      exact hn
    · rw [upd_ne hb] at e
      refine (I.hok b u e).stay (fun c v hc q => k c v (fun z => ?_) q) (fun c q => by rw [upd_ne (fun z => by rw [z, hP] at q; cases q)]; exact q) fun c xs q => by rw [upd_ne (fun z => by rw [z, hP] at q; cases q)]; exact q
      rcases hc with y | y
      · exact hb (y.symm.trans z)
      · rw [z, hP] at y; cases y
theorem lam_make {A : Around} {E : Value → Shared → Prop} {c0 P : Addr} {ps : Array Value} {params : Arguments} {body : Expr} {scope : Scope} {pos : Pos} {qual : Str} {clos : List (Str × Addr)} {Q : Value → Shared → Prop}
    (I : Inv X pins σ H s) (hcl : closureFor scope X.env = pure clos) (hcode : X.env.code = .ref c0) (hch : codeHdIn X.K c0 P = true) (hP : H P = some (.tbl ps)) (ht : TabOk H pos qual ps) (hb : X.base.BuiltinsAt X.mg P)
    (h : ∀ f c' ctv pm s' H' ps', Inv X pins σ H' s' → s'.heap.get? f = some (kla_obj "<lambda>" qual params body scope clos pm c' ctv) → FpOk X pins H' f → H' c' = some (CodeO c' qual) → H' P = some (.tbl ps') → TabOk H' pos qual ps' →
      (∀ b o, b ≠ P → H b = some o → H' b = some o) → (∀ b o, s.heap.get? b = some o → b ≠ P → s'.heap.get? b = some o) → Q (.ref f) s') :
    wpAny (model X.prog X.w) A (makeFunction "<lambda>" qual params (.expr body) scope X.env [] [] [] pos pos.line) Q E s := by
  have hg : s.heap.Ns mainGlobals X.mg := I.ok.mod.glob.keeps I.bk
  have C : CodeHd s.heap c0 P := codeHd_of_K I.kIn hch
  have hPo : s.heap.get? P = some (tabObj ps) := I.hok P _ hP
  have nbP : ∀ b o, X.base.get? b = some o → b ≠ P := fun b o e z => by have := (I.bs b o e).2; rw [z, hP] at this; cases this
  have hgP : mainGlobals ≠ P := by
    obtain ⟨o, es, ep, e, _⟩ := I.ok.mod.glob
    exact nbP _ _ e
  have hb' : s.heap.BuiltinsAt X.mg P := by
    obtain ⟨bm, o, b1, b2, b3, b4, b5, b6⟩ := hb
    exact ⟨bm, o, b1, b2, b3, b4, I.bk _ _ b5, b6⟩
  rcases ht.2 with hnf | ⟨c', hf, hc'⟩
  · refine kla_makeFunction hcl I.ok.glob hg hcode C hPo ht.1 hnf hgP hb' fun c' ctv h1 tk hx hge hlt hrec htb => ?_
    have hc0 : H c' = none := I.hok.fresh hge
    have ncP : c' ≠ P := fun z => by rw [z, hP] at hc0; cases hc0
    have I1 : Inv X pins σ (upd H P (.tbl (ps ++ #[rawInt pos.line, rawInt pos.col, .ref c']))) { s with heap := h1.push (kla_obj "<lambda>" qual params body scope clos ((X.mg "__name__").getD .none) c' ctv), toks := tk } :=
      I.grow hP (fun b u hb e => Heap.get?_push_of_some _ (hx b u hb e)) (Heap.get?_push_of_some _ htb)
    have fp1 : FpOk X pins (upd H P (.tbl (ps ++ #[rawInt pos.line, rawInt pos.col, .ref c']))) c' := I.fpOk hge (by rw [upd_ne ncP]; exact hc0)
    have hrec2 : (h1.push (kla_obj "<lambda>" qual params body scope clos ((X.mg "__name__").getD .none) c' ctv)).CodeRec (.ref c') qual := by
      obtain ⟨c2, oc, vs, tq, e1, e2, e3⟩ := hrec
      exact ⟨c2, oc, vs, tq, e1, Heap.get?_push_of_some _ e2, e3⟩
    have I2 := I1.adopt (t' := tk) (h' := h1.push (kla_obj "<lambda>" qual params body scope clos ((X.mg "__name__").getD .none) c' ctv)) (ch := [c']) (a := c') (o := CodeO c' qual) (fun b u _ e => e) (fun b hb => by rw [List.mem_singleton.mp hb]; exact fp1) (by simp) ⟨hrec2, ?_, ?_⟩
    · have szle : s.heap.objs.size ≤ h1.objs.size := Nat.le_trans hge (Nat.le_of_lt hlt)
      have hfn : H h1.objs.size = none := I.hok.fresh szle
      refine h _ c' ctv _ _ _ (ps ++ #[rawInt pos.line, rawInt pos.col, .ref c']) I2 (Heap.get?_push_size _ rfl) (I.fpOk szle ?_) upd_same ?_ ⟨?_, .inr ⟨c', ?_, upd_same⟩⟩ (fun b o hb e => ?_) fun b o e hb => Heap.get?_push_of_some _ (hx b o hb e)
      · rw [upd_ne (Nat.ne_of_gt hlt), upd_ne (fun z => by rw [z, hP] at hfn; cases hfn)]; exact hfn
      · rw [upd_ne (Ne.symm ncP), upd_same]
      · rw [Array.toList_append]; exact TriplesOk_snoc _ _ _ _ ht.1
      · rw [Array.toList_append]; exact codeAmong_snoc _ ht.1 hnf
      · rw [upd_ne (ne_of_none e hc0), upd_ne hb]; exact e
    · obtain ⟨c2, oc, vs, tq, e1, e2, e3⟩ := hrec2
      cases e1
      exact ⟨oc, e2⟩
    · intro h1 h2 x k
      obtain ⟨c2, oc, vs, tq, e1, e2, e3⟩ := x
      cases e1
      exact ⟨_, oc, vs, tq, rfl, k _ e2, e3⟩
  · refine kla_makeFunctionHit hcl I.ok.glob hg hcode C hPo ht.1 hf hb' fun ctv h1 tk hk hsz => ?_
    have hfn : H h1.objs.size = none := I.hok.fresh hsz
    exact h _ c' ctv _ _ H ps (I.kept fun b o e => Heap.get?_push_of_some _ (hk b o e)) (Heap.get?_push_size _ rfl) (I.fpOk hsz hfn) hc' hP ht (fun b o _ e => e) fun b o e _ => Heap.get?_push_of_some _ (hk b o e)
end
end L2
namespace L2
open PySem PySem.Spec PySem.W PyProof.Rows
theorem Rd.keep {H H' : Hp} {a : Addr} {u : HO} (r : Rd H a u) (k : ∀ o, H a = some o → H' a = some o) : Rd H' a u := by
  rcases r with r | ⟨o, r⟩
  · exact .inl (k _ r)
  · exact .inr ⟨o, k _ r⟩
theorem SqL.keep {K : PySem.W.Frag} {H H' : Hp} {a : Addr} {xs : List V} (r : SqL K H a xs) (k : ∀ o, H a = some o → H' a = some o) : SqL K H' a xs := by
  rcases r with r | r
  · exact .inl (r.keep k)
  · exact .inr r
theorem lam_closure {env : Env} {scope : Scope} {c : Addr} (hsc : scope.names = [(("name" : Str), NameKind.local), (("rests" : Str), NameKind.free)]) (hc : env.cells.lookup ("rests" : Str) = some c) : closureFor scope env = pure [(("rests" : Str), c)] := by
  unfold closureFor
  rw [hsc]
  simp [cellOf, hc]
section
variable {X : Cx} {l : Expr} {tl : TE} {p pos kpos lpos p1 p2 p3 p4 p5 p6 p7 : Pos} {k0 : Nat} {scope : Scope} {c0 P : Addr} {i : Nat}
end
end L2
namespace L2
open PySem PySem.Spec PySem.W PyProof.Rows
def OnlyT (P : Addr) (H : Hp) : Prop := H P = some (.tbl #[]) ∧ ∀ b, b ≠ P → H b = none ∨ ∃ o xs, H b = some (.frz o (.lst xs))
theorem law_callT {Pg : Program} {w : World} {K : PySem.W.Frag} {mg mb : Str → Option Value} {CX : CXT} {k : Nat} {fa a P c0 : Addr} {fd : FuncData} {x : Str} {sp : Sp} {s₁ : Shared} {vs : List Value} {ns : List Int}
    (KX : K.In s₁.heap) (hns : s₁.heap.Ns mainGlobals mg) (hb : s₁.heap.Ns builtinsNs mb) (hbb : ∀ x : Str, x ≠ "__name__" → mb x = bootBuiltins x) (hlim : s₁.heap.NoLimit) (hg : s₁.gens = #[])
    (hPt : s₁.heap.get? P = some (tabObj #[])) (hPK : K.lookup P = none) (hch : codeHdIn K c0 P = true) (hbm : s₁.heap.BuiltinsAt mg P)
    (ha : s₁.heap.get? a = some { cls := .type "list", data := .seq vs.toArray }) (hi : IntsAre vs ns) (hl : ns.length ≤ sizeLine) (hr : Room k callerA)
    (F : ∀ base : Heap, K.In base → base.Ns mainGlobals mg → base.BuiltinsAt mg P → FnOk Pg w K mg base CX k fa fd [x] sp) (hbind : ∀ (s : Shared) (u : Value), BindsTo s fd ⟨[u], []⟩ [(x, u)])
    (hsp : ∀ H : Hp, OnlyT P H → SqL K H a (ns.map V.int) → sp [.ref a] H (fun v _ => v = .bl true) fun _ _ _ => False)
    (hCX : ∀ H e s', CX [] H s₁ (fun _ _ _ => False) e s' → False) :
    codeAny (model Pg w) callerA (.call (.ref fa) ⟨[.ref a], []⟩) (fun r s' => r = .ok (.ret (.bool true)) ∧ OldK s₁.heap s'.heap ∧ s'.os = s₁.os ∧ AllBare s'.gens) s₁ := by
  have rv := vals_ints hi
  have lenV := hi.length
  have haP : a ≠ P := fun z => by rw [z, hPt] at ha; cases ha
  have core : ∀ H : Hp, OnlyT P H → SqL K H a (ns.map V.int) → HOk Pg w H s₁.heap → (∀ b, H b ≠ none → b = a ∨ b = P) → (H a ≠ none → K.lookup a = none) →
      codeAny (model Pg w) callerA (.call (.ref fa) ⟨[.ref a], []⟩) (fun r s' => r = .ok (.ret (.bool true)) ∧ OldK s₁.heap s'.heap ∧ s'.os = s₁.os ∧ AllBare s'.gens) s₁ := by
    intro H hO hS hok hA hK
    have base_of : ∀ {b : Addr} {o : Obj}, s₁.heap.get? b = some o → H b = none → (hidT s₁.heap H).get? b = some o := fun e n => hidT_get e n
    have noA : ∀ {b : Addr} {o : Obj}, s₁.heap.get? b = some o → (∀ es ep, o.data ≠ .seq es ep) → (∀ fs, o.data ≠ .fields fs) → H b = none := fun {b o} e d1 d2 => by
      cases q : H b with
      | none => rfl
      | some u =>
        rcases hA b (by rw [q]; simp) with e' | e' <;> subst e'
        · rw [ha] at e; cases e; exact absurd rfl (d1 _ _)
        · rw [hPt] at e; cases e; exact absurd rfl (d2 _)
    have nsK : ∀ {b : Addr} {m : Str → Option Value}, s₁.heap.Ns b m → (hidT s₁.heap H).Ns b m := fun {b m} ⟨o, es, ep, e, d, r⟩ => ⟨o, es, ep, base_of e (noA e (fun _ _ z => by rw [d] at z; cases z) (fun _ z => by rw [d] at z; cases z)), d, r⟩
    have hKb : K.In (hidT s₁.heap H) := fun b o e => base_of (KX b o e) (by
      cases q : H b with
      | none => rfl
      | some u =>
        rcases hA b (by rw [q]; simp) with e' | e' <;> subst e'
        · rw [hK (by rw [q]; simp)] at e; cases e
        · rw [hPK] at e; cases e)
    have hM : Mod K mg (hidT s₁.heap H) := ⟨hKb, nsK hns, ⟨mb, nsK hb, hbb⟩, let ⟨mc, h1, h2⟩ := hlim; ⟨mc, nsK h1, h2⟩⟩
    have hBb : (hidT s₁.heap H).BuiltinsAt mg P := by
      obtain ⟨bm, o, b1, b2, b3, b4, b5, b6, b7, b8⟩ := hbm
      exact ⟨bm, o, b1, b2, b3, b4, base_of b5 (noA b5 (fun _ _ z => by rw [b8] at z; cases z) (fun _ z => by rw [b8] at z; cases z)), b6, b7, b8⟩
    have e0 : Env0 Pg w K mg (hidT s₁.heap H) callerA [] s₁ H := ⟨rfl, hM, fun b o e => of_hidT e, Nat.le_of_eq (hidT_size _ _), trivial, fun b hb => absurd (show b ∈ ([] : List Addr) from hb) (by simp), hok, .of_eq hg⟩
    refine codeAny_mono ((F _ hKb (nsK hns) hBb).run callerA [] s₁ H ⟨[.ref a], []⟩ [.ref a] [.ref a] _ _ hr e0 (hbind s₁ (.ref a)) (.cons rfl .nil) (hsp H hO hS)) fun r s' h => ?_
    cases r with
    | error e => exact (hCX H e s' h).elim
    | ok fl =>
      cases fl with
      | next => exact False.elim h
      | brk => exact False.elim h
      | cont => exact False.elim h
      | ret u =>
        obtain ⟨v, H', os, bare, un, hok', r', q⟩ := h
        have q' : v = .bl true := q
        subst q'
        obtain rfl : u = Value.bool true := r'
        have kept : ∀ b o, b ≠ P → s₁.heap.get? b = some o → s'.heap.get? b = some o := fun b o hbP e => by
          cases q : H b with
          | none => exact un.keep b o e q (by intro z; exact absurd (show b ∈ ([] : List Addr) from z) (by simp)) (by simp)
          | some u =>
            rcases hO.2 b hbP with z | ⟨ob, xs, z⟩
            · rw [q] at z; cases z
            · have z2 := un.frzs b ob _ z
              obtain ⟨e1, _⟩ := hok b _ z
              obtain ⟨e2, _⟩ := hok' b _ z2
              rw [e] at e1; cases e1
              exact e2
        obtain ⟨more, hm⟩ := un.tbls P _ hO.1
        have hP2 : s'.heap.get? P = some (tabObj (#[] ++ more)) := hok' P _ hm
        obtain ⟨oc, cvs, _, _, _, _, _, _, _, h1, h2, h3, h4, _⟩ := codeHd_of_K KX hch
        refine ⟨rfl, ⟨fun b o e => ?_, fun b o e => ?_⟩, os, bare⟩
        · by_cases hbP : b = P
          · subst hbP
            rw [hPt] at e
            cases e
            exact .inr (.inl ⟨⟨c0, oc, cvs, h1, h2, h3, h4⟩, rfl, #[], more, rfl, hP2⟩)
          · exact .inl (kept b o hbP e)
        · by_cases hbP : b = P
          · subst hbP; exact ⟨_, hP2⟩
          · exact ⟨o, kept b o hbP e⟩
  cases hk : K.lookup a with
  | some o =>
    have e := KX a o hk
    rw [ha] at e
    cases e
    refine core (fun b => if b = P then some (.tbl #[]) else none) ⟨if_pos rfl, fun b hb => .inl (if_neg hb)⟩ (.inr ⟨_, vs.toArray, _, hk, rfl, rfl, rfl, by rw [List.size_toArray, lenV]; exact hl, by simpa using rv⟩) (fun b u z => ?_) (fun b z => ?_) fun z => absurd (if_neg haP) z
    · by_cases hb : b = P
      · have z' := (if_pos hb).symm.trans z
        cases z'
        subst hb
        exact hPt
      · have z' := (if_neg hb).symm.trans z
        cases z'
    · by_cases hb : b = P
      · exact .inr hb
      · exact absurd (if_neg hb) z
  | none =>
    refine core (fun b => if b = P then some (.tbl #[]) else if b = a then some (.frz { cls := .type "list", data := .seq vs.toArray } (.lst (ns.map V.int))) else none) ⟨if_pos rfl, fun b hb => ?_⟩ (.inl (.inr ⟨{ cls := .type "list", data := .seq vs.toArray }, by dsimp only; rw [if_neg haP, if_pos rfl]⟩)) (fun b u z => ?_) (fun b z => ?_) fun _ => hk
    · by_cases hb2 : b = a
      · exact .inr ⟨_, _, by dsimp only; rw [if_neg hb, if_pos hb2]⟩
      · exact .inl (by dsimp only; rw [if_neg hb, if_neg hb2])
    · by_cases hb : b = P
      · have z' := (if_pos hb).symm.trans z
        cases z'
        subst hb
        exact hPt
      · have z' := (if_neg hb).symm.trans z
        by_cases hb2 : b = a
        · rw [if_pos hb2] at z'
          cases z'
          subst hb2
          exact ⟨ha, by rw [List.length_map]; exact hl, vs, _, rv, ha⟩
        · rw [if_neg hb2] at z'
          cases z'
    · by_cases hb : b = P
      · exact .inr hb
      · by_cases hb2 : b = a
        · exact .inl hb2
        · exact absurd ((if_neg hb).trans (if_neg hb2)) z
theorem walk_ofT {l : PySem.W.OpenLaw} {n k : Nat} {q : Program} {loose : List Str} {XP : (Str → Option Value) → Heap → Prop} {YP : World → Heap → Prop} {d : DefRec} {K : Params → PySem.W.Frag} {CX : World → CXT} {sp : World → Sp} {x : Str} {P : Addr}
    (hn : l.most = some n) (hn2 : n ≤ sizeLine) (hdf : d.params.defaults = []) (hr : Room k callerA)
    (hY : ∀ (w : World) (h : Heap), YP w h → (K w.params).In h ∧ h.get? P = some (tabObj #[]))
    (F : ∀ (w : World) (mg : Str → Option Value) (fa : Addr) (h : Heap), (K w.params).In h → h.Ns mainGlobals mg → mg d.name = some (.ref fa) →
      ∃ (fd : FuncData) (c0 : Addr), (∀ (s : Shared) (u : Value), BindsTo s fd ⟨[u], []⟩ [(x, u)]) ∧ (K w.params).lookup P = none ∧ codeHdIn (K w.params) c0 P = true ∧
        ∀ base : Heap, (K w.params).In base → base.Ns mainGlobals mg → base.BuiltinsAt mg P → FnOk l.prog w (K w.params) mg base (CX w) k fa fd [x] (sp w))
    (hsp : ∀ (w : World) (H : Hp) (a : Addr) (ns : List Int), ns.length ≤ n → OnlyT P H → SqL (K w.params) H a (ns.map V.int) → sp w [.ref a] H (fun v _ => v = .bl true) fun _ _ _ => False)
    (hCX : ∀ (w : World) (H : Hp) (s : Shared) (e : Value) (s' : Shared), CX w [] H s (fun _ _ _ => False) e s' → False) :
    PySem.W.WalkO q loose XP YP l.row.toRowW d [] (fun f vs => PySem.call f vs) := by
  refine Att.attach_call hn hdf fun w s₀ s₁ mg mb fa o pm cd doc a vs ns G Y ho hd hcd hmg hobj hints hlen hg => ?_
  obtain ⟨KX, hPt⟩ := hY w _ Y
  obtain ⟨fd, c0, hb, hPK, hch, hF⟩ := F w mg fa _ KX G.T.g hmg
  obtain ⟨bm, ob, b1, b2, b3, b4, b5, b6⟩ := G.T.bmain
  have hbG : bm ≠ mainGlobals := fun q => by
    obtain ⟨o, es, ep, e, hd, _⟩ := G.T.g
    rw [q, e] at b3; cases b3; rw [hd] at b6; cases b6
  have hbP : bm ≠ P := fun q => by rw [q, hPt] at b3; cases b3; cases b4
  exact law_callT KX G.T.g G.T.b G.T.builtins G.T.nolimit hg hPt hPK hch ⟨bm, ob, b1, b2, hbG, hbP, b3, b4, b5, b6⟩ hobj hints (Nat.le_trans hlen hn2) hr hF hb (fun H hO hS => hsp w H a ns hlen hO hS) fun H e s' => hCX w H s₁ e s'
end L2
namespace L2
open PySem PySem.Spec PySem.W PyProof.Rows
section
variable {X : Cx} {o tg : Expr} {apos cpos : Pos} {td : TE}
end
end L2
namespace L2
open PySem PySem.Spec PySem.W PyProof.Rows
section
variable {X : Cx} {pins : List (Addr × Obj)} {σ : St} {H : Hp} {s : Shared}
end
end L2
namespace L2
open PySem PySem.Spec PySem.W PyProof.Rows
theorem for_items {a : Addr} {o : Obj} {kvs : List (Key × V)} {g : TG} {tb : TS} {D : Ends} {σ : St} {H : Hp} (Pv : Nat → St → Hp → Prop) (h0 : Pv 0 σ H) (hl : ∀ i σ H, i ≤ kvs.length → Pv i σ H → H a = some (.frz o (.dK kvs)))
    (hs : ∀ (i : Nat) (k : Key) (v : V) (p : Addr) (σ : St) (H : Hp), kvs[i]? = some (k, v) → H p = none → Pv i σ H → g (.ref p) σ (upd H p (.tup [kV k, v])) fun σ2 H2 => tb { D with nx := Pv (i + 1), ct := Pv (i + 1), bk := D.nx } σ2 H2) (hd : ∀ σ H, Pv kvs.length σ H → D.nx σ H) :
    ∃ W : Nat → Nat → St → Hp → Prop, (∃ m, W 0 m σ H) ∧ ∀ i m σ H, W i m σ H →
      ((Itd a o kvs).stop i H ∧ D.nx σ H) ∨ ((Itd a o kvs).go i H ∧ ∃ N : St → Hp → Prop, (∀ σ' H', N σ' H' → ∃ m', m' < m ∧ W (i + 1) m' σ' H') ∧ ∀ x H', (Itd a o kvs).yld i H x H' → g x σ H' fun σ2 H2 => tb { D with nx := N, ct := N, bk := D.nx } σ2 H2) := by
  refine ⟨fun i m σ H => m = kvs.length - i ∧ i ≤ kvs.length ∧ Pv i σ H, ⟨kvs.length, by simp, Nat.zero_le _, h0⟩, ?_⟩
  rintro i m σ H ⟨rfl, hi, p⟩
  have q := hl i σ H hi p
  by_cases hlt : i < kvs.length
  · refine .inr ⟨⟨q, hlt⟩, Pv (i + 1), fun σ' H' p' => ⟨kvs.length - (i + 1), by omega, rfl, hlt, p'⟩, fun x H' y => ?_⟩
    obtain ⟨b, k, v, e1, hn, e3, e2⟩ := y
    subst e1 e2
    exact hs i k v b σ H e3 hn p
  · have e : i = kvs.length := by omega
    subst e
    exact .inl ⟨⟨q, Nat.le_refl _⟩, hd σ H p⟩
end L2
namespace DV
open PySem PySem.W PyProof.Rows
end DV
namespace L2
open PySem PySem.Spec PySem.W PyProof.Rows
section
variable {X : Cx}
end
end L2
namespace DV
open PySem PySem.W PyProof.Rows
theorem lexA {a c : Int} {m k : Str} (h : ¬ a = c) : lexLt (a, m) (c, k) = decide (a < c) := by unfold lexLt; rw [if_neg h]
theorem lexB {a c : Int} {m k : Str} (h : a = c) (e : ¬ m = k) : lexLt (a, m) (c, k) = decide (m.cps.toList < k.cps.toList) := by unfold lexLt; rw [if_pos h, if_neg e]
theorem lexC {a c : Int} {m k : Str} (h : a = c) (e : m = k) : lexLt (a, m) (c, k) = false := by unfold lexLt; rw [if_pos h, if_pos e]
section
variable {prog : Program} {w : World} {A : Around} {E : Value → Shared → Prop} {s : Shared} {Q : Value → Shared → Prop}
theorem rcLI {a c : Int} {t u : Tok} (h : Q (.bool (decide (a < c))) s) : wpAny (model prog w) A (richCompare .Lt (.int a t) (.int c u)) Q E s := (PyProof.Rows.lt_int h : wpAny (model prog w) A (compareOp .Lt (.int a t) (.int c u)) Q E s)
theorem rcLS {x y : Str} {t u : Tok} (h : Q (.bool (decide (x.cps.toList < y.cps.toList))) s) : wpAny (model prog w) A (richCompare .Lt (.str x t) (.str y u)) Q E s := (lt_str h : wpAny (model prog w) A (compareOp .Lt (.str x t) (.str y u)) Q E s)
end
open PySem.SeqAt
open PySem.AutoSeq1 (wpAny_loadPart')
open PySem.MeetsSeq PySem.MeetsSeq2 PySem.MeetsSeq3
theorem tuple_lt_is (l b : Addr) (n n2 : Nat) (dd dd2 : Option Addr) (sl sl2 : Array (Option Value)) (a c : Int) (m k : Str) (t1 t2 u1 u2 : Tok) :
    Meets (Builtin.«tuple.__lt__» ⟨[.ref l, .ref b], []⟩)
      (fun _ R s => s.heap.get? l = some { cls := .type "tuple", dict := dd, data := .seq #[.int a t1, .str m t2] n, slots := sl } ∧ s.heap.get? b = some { cls := .type "tuple", dict := dd2, data := .seq #[.int c u1, .str k u2] n2, slots := sl2 } ∧
        R (.ok (.ret (.bool (lexLt (a, m) (c, k))))) s) :=
  .of_wp fun prog w A R s h => by
    obtain ⟨hp, g, d, tk, os⟩ := s; obtain ⟨hl, hb, h⟩ := h
    have f2 := AutoSeq1.sub_tuple_tuple
    wp_walk using wpAny_loadPart' hl, wpAny_loadPart' hb, wpAny_forIn_list _ (fun rest b s' => b.1 = none ∧ s' = ⟨hp, g, d, tk, os⟩ ∧ (rest = [(Value.int a t1, Value.int c u1), (Value.str m t2, Value.str k u2)] ∨ (a = c ∧ rest = [(Value.str m t2, Value.str k u2)]) ∨ (a = c ∧ m = k ∧ rest = []))) _
    case turn =>
      rintro ⟨y, x⟩ rest b s' ⟨hb', rfl, hz⟩
      rcases hz with hz | ⟨hac, hz⟩ | ⟨_, _, hz⟩
      · injection hz with hyx hrest
        injection hyx with hy hx
        subst hy hx
        obtain ⟨e, he, hiff⟩ := HT.eqAt_int A.in1 ⟨hp, g, d, tk, os⟩ a t1 c u1
        refine wpAny_bind (he prog w _ _ ?_)
        cases e with
        | true =>
          wp_walk
          exact ⟨rfl, rfl, .inr (.inl ⟨hiff.mp rfl, hrest⟩)⟩
        | false =>
          have hn : ¬ a = c := fun q => absurd (hiff.mpr q) Bool.false_ne_true
          have hri := fun E Q h => (rcLI (prog := prog) (w := w) (A := A.in1) (E := E) (s := ⟨hp, g, d, tk, os⟩) (a := a) (t := t1) (c := c) (u := u1) (Q := Q) h)
          wp_walk using hri
          exact ⟨_, rfl, by rw [lexA hn] at h; simpa using h⟩
      · injection hz with hyx hrest
        injection hyx with hy hx
        subst hy hx
        refine wpAny_bind (wpAny_eqBool_str ?_)
        by_cases e : m = k
        · rw [decide_eq_true e]
          wp_walk
          exact ⟨rfl, rfl, .inr (.inr ⟨hac, e, hrest⟩)⟩
        · rw [decide_eq_false e]
          have hri := fun E Q h => (rcLS (prog := prog) (w := w) (A := A.in1) (E := E) (s := ⟨hp, g, d, tk, os⟩) (x := m) (t := t2) (y := k) (u := u2) (Q := Q) h)
          wp_walk using hri
          exact ⟨_, rfl, by rw [lexB hac e] at h; simpa using h⟩
      · cases hz
    case fin =>
      rintro ⟨b1, b2⟩ s' ⟨hb', rfl, hz⟩
      simp only at hb'
      subst hb'
      rcases hz with hz | ⟨_, hz⟩ | ⟨hac, hmk, _⟩
      · cases hz
      · cases hz
      · rw [lexC hac hmk] at h
        wp_walk
        exact ⟨_, rfl, by simpa [Builtin.Tuple.tupleCompareSizes] using h⟩
    case h =>
      exact ⟨rfl, rfl, .inl rfl⟩
section
variable {prog : Program} {w : World} {A : Around} {E : Value → Shared → Prop} {s : Shared}
def PairAt (h : Heap) (l : Addr) (p : Int × Str) : Prop := ∃ o t1 t2 n, h.get? l = some o ∧ o.cls = .type "tuple" ∧ o.data = .seq #[.int p.1 t1, .str p.2 t2] n
theorem lt_pair {l b : Addr} {p q : Int × Str} {Q : Value → Shared → Prop} (hl : PairAt s.heap l p) (hb : PairAt s.heap b q) (hu : A.units < cLine) (h : Q (.bool (lexLt p q)) s) : wpAny (model prog w) A (compareOp .Lt (.ref l) (.ref b)) Q E s := by
  obtain ⟨⟨cls, dd, data, sl⟩, t1, t2, n, ho, hc, hd⟩ := hl
  obtain ⟨⟨cls2, dd2, data2, sl2⟩, u1, u2, n2, ho2, hc2, hd2⟩ := hb
  simp only at hc hd hc2 hd2
  subst hc hd hc2 hd2
  exact richCompare_meets_room (op := .Lt) ⟨_, ho, rfl⟩ ⟨_, ho2, rfl⟩ PySem.F.slot_tuple_lt PySem.F.entry_tuple_lt (PySem.F.args_tuple_lt_2 _ _) (tuple_lt_is l b n n2 dd dd2 sl sl2 p.1 q.1 p.2 q.2 t1 t2 u1 u2)
    ⟨ho, ho2, show Value.bool (lexLt p q) ≠ Value.notImplemented ∧ Q (.bool (lexLt p q)) s from ⟨(fun x => nomatch x), h⟩⟩ hu
end
end DV
namespace L2
open PySem
section
variable {prog : Program} {w : World} {A : Around} {R : Result → Shared → Prop} {I Z : Addr} {fp wr : List Addr} {n : Nat} {P : Nat → Value → Prop} {St : Nat → Heap → Prop} {Ok : Heap → Prop}
end
section
variable {prog : Program} {w : World} {A : Around} {E : Value → Shared → Prop} {s : Shared}
end
end L2
namespace DV
open PySem
theorem lexIrr (p : Int × Str) : lexLt p p = false := (lexOrd [p] 1).irr 0 (by decide)
theorem lexTr {p q r : Int × Str} (h1 : lexLt p q = true) (h2 : lexLt q r = true) : lexLt p r = true := (lexOrd [p, q, r] 3).tr 0 1 2 (by decide) (by decide) (by decide) h1 h2
theorem lexAnti {p q : Int × Str} (h1 : lexLt p q = false) (h2 : lexLt q p = false) : p = q := by
  obtain ⟨a, m⟩ := p
  obtain ⟨c, k⟩ := q
  by_cases h : a = c
  · by_cases e : m = k
    · rw [h, e]
    · rw [lexB h e] at h1
      rw [lexB h.symm (fun z => e z.symm)] at h2
      exfalso
      apply e
      have e1 : m.cps.toList = k.cps.toList := List.le_antisymm (List.not_lt.mp (of_decide_eq_false h2)) (List.not_lt.mp (of_decide_eq_false h1))
      have e2 : m.cps = k.cps := Array.toList_inj.mp e1
      cases m; cases k; simp_all
  · rw [lexA h] at h1
    rw [lexA (fun z => h z.symm)] at h2
    have := of_decide_eq_false h1
    have := of_decide_eq_false h2
    omega
end DV
namespace L2
open PySem PySem.Spec PySem.W PyProof.Rows
def tIS (p : Int × Str) : List V := [.int p.1, .str p.2]
section
variable {X : Cx}
theorem pairAt_of {pins : List (Addr × Obj)} {σ : St} {H : Hp} {s : Shared} (I : Inv X pins σ H s) {a : Addr} {p : Int × Str} (h : H a = some (.tup (tIS p))) : DV.PairAt s.heap a p := by
  obtain ⟨ws, r1, ⟨o, ho, hc2, n, hd⟩, _⟩ := I.tuple (SqT.of h)
  obtain ⟨u, v, e, r2, r3⟩ := vals2 r1
  subst e
  obtain ⟨t1, e1⟩ := r2
  obtain ⟨t2, e2⟩ := r3
  exact ⟨o, t1, t2, n, ho, hc2, by rw [hd, e1, e2]⟩
end
end L2
namespace DV
open PySem PySem.W PyProof.Rows
def lexLtI (p q : Int × Int) : Bool := if p.1 = q.1 then (if p.2 = q.2 then false else decide (p.2 < q.2)) else decide (p.1 < q.1)
section
variable {prog : Program} {w : World} {A : Around} {E : Value → Shared → Prop} {s : Shared}
theorem cmp_pairI {x y : Addr} {ox oy : Obj} {a b : Int} {m n : Int} {t1 t2 u1 u2 : Tok} {c d : Nat} {Q : Bool → Shared → Prop} (hx : s.heap.get? x = some ox) (dx : ox.data = .seq #[.int a t1, .int m t2] c) (hy : s.heap.get? y = some oy) (dy : oy.data = .seq #[.int b u1, .int n u2] d)
    (h : Q (lexLtI (a, m) (b, n)) s) : wpAny (model prog w) A (keyLt' (tuples' true) (.ref x) (.ref y)) Q E s := by
  refine kat_lt hx dx hy dy ?_
  show KatLex prog w A true (decide (2 < 2)) Q [(.int a t1, .int b u1), (.int m t2, .int n u2)] 0 s
  refine kat_cons (wpAny_eqBool_int ?_)
  unfold lexLtI at h
  by_cases e : a = b
  · rw [show (a == b) = true by simp [e]]
    refine kat_yes (kat_cons (wpAny_eqBool_int ?_))
    dsimp only at h
    rw [if_pos e] at h
    by_cases e2 : m = n
    · rw [show (m == n) = true by simp [e2]]
      rw [if_pos e2] at h
      exact kat_yes (kat_nil h)
    · rw [show (m == n) = false by simp [e2]]
      rw [if_neg e2] at h
      exact kat_no (kat_one _ _ (PyProof.Rows.lt_int h))
  · rw [show (a == b) = false by simp [e]]
    dsimp only at h
    rw [if_neg e] at h
    exact kat_no (oneLt_int h)
end
theorem lexI_sp (p q : Int × Int) : lexLtI p q = true ↔ (p.1 < q.1 ∨ p.1 = q.1 ∧ p.2 < q.2) := by
  unfold lexLtI
  by_cases e : p.1 = q.1
  · rw [if_pos e]
    by_cases e2 : p.2 = q.2
    · rw [if_pos e2]
      constructor
      · intro h; cases h
      · intro h; omega
    · rw [if_neg e2, decide_eq_true_eq]
      omega
  · rw [if_neg e, decide_eq_true_eq]
    omega
theorem lexOrdI (ps : List (Int × Int)) (n : Nat) : Ord (fun i j => lexLtI (ps.getD i (0, 0)) (ps.getD j (0, 0))) n := by
  refine ⟨fun i _ => ?_, fun i j k _ _ _ h1 h2 => ?_, fun i j k _ _ _ h => ?_⟩
  · cases e : lexLtI (ps.getD i (0, 0)) (ps.getD i (0, 0)) with
    | false => rfl
    | true => rw [lexI_sp] at e; omega
  · rw [lexI_sp] at *; omega
  · rw [lexI_sp] at *; rw [lexI_sp]; omega
theorem lexAntiI {p q : Int × Int} (h1 : lexLtI p q = false) (h2 : lexLtI q p = false) : p = q := by
  have a : ¬ lexLtI p q = true := by rw [h1]; exact Bool.false_ne_true
  have b : ¬ lexLtI q p = true := by rw [h2]; exact Bool.false_ne_true
  rw [lexI_sp] at a b
  obtain ⟨x, y⟩ := p
  obtain ⟨z, u⟩ := q
  dsimp only at a b
  have e1 : x = z := by omega
  have e2 : y = u := by omega
  rw [e1, e2]
def KeyAtI (h : Heap) (k : Value) (p : Int × Int) : Prop := ∃ x ox t1 t2 c, k = .ref x ∧ h.get? x = some ox ∧ ox.cls = .type "tuple" ∧ ox.data = .seq #[.int p.1 t1, .int p.2 t2] c
def KeysAtI (h : Heap) (ks : List Value) (ps : List (Int × Int)) : Prop := ks.length = ps.length ∧ ∀ (i : Nat) (k : Value) (p : Int × Int), ks[i]? = some k → ps[i]? = some p → KeyAtI h k p
section
variable {prog : Program} {w : World} {A : Around} {E : Value → Shared → Prop} {s : Shared}
theorem katTups_ofI {h : Heap} : ∀ {ks : List Value} {ps : List (Int × Int)}, KeysAtI h ks ps → ∃ fs, KatTups h ks fs ∧ fs.length = ks.length ∧ ∀ v ∈ fs, ∃ a t, v = Value.int a t
  | [], [], _ => ⟨[], trivial, rfl, fun v z => nomatch z⟩
  | [], _ :: _, hk => by cases hk.1
  | _ :: _, [], hk => by cases hk.1
  | k :: ks, p :: ps, hk => by
    obtain ⟨fs, h1, h2, h3⟩ := katTups_ofI (h := h) (ks := ks) (ps := ps) ⟨by simpa using hk.1, fun i k p e1 e2 => hk.2 (i + 1) k p (by simpa using e1) (by simpa using e2)⟩
    obtain ⟨x, ox, t1, t2, c, e, ho, hc, hd⟩ := hk.2 0 k p rfl rfl
    subst e
    refine ⟨.int p.1 t1 :: fs, KatTups.cons ho hc hd rfl h1, by simp [h2], fun v hv => ?_⟩
    rcases List.mem_cons.mp hv with z | z
    · exact ⟨p.1, t1, z⟩
    · exact h3 v z
theorem endSI {a kS : Addr} {e1 e : Nat} {ks vs : List Value} {ps : List (Int × Int)} {P : PySem.Fin → Shared → Prop} (hl : ks.length = vs.length) (h64 : vs.length < 64) (ha : s.heap.get? a = some (seqObj "list" #[] e1))
    (hk : s.heap.get? kS = some (seqObj "list" (List.toArray ks) e)) (hne : kS ≠ a) (hks : KeysAtI s.heap ks ps)
    (h : ∀ p : Array Nat, p.Perm (List.toArray (List.range vs.length)) → (∀ i j, i ≤ j → j < vs.length → lexLtI (ps.getD (p.getD j 0) (0, 0)) (ps.getD (p.getD i 0) (0, 0)) = false) →
      ∀ h' c, (∀ b, b ≠ kS → b ≠ a → h'.get? b = s.heap.get? b) → h'.get? a = some (seqObj "list" (List.toArray (p.toList.map fun i => vs.getD i Value.none)) c) → P (.done (.ret .none)) { s with heap := h' }) :
    wpAny (model prog w) A (ksk_end a false vs.toArray e1 (.ref kS) (List.toArray ks)) P E s := by
  unfold ksk_end
  try dsimp only
  simp only [Bool.false_eq_true, if_false]
  by_cases h2 : vs.length < 2
  · have hn2 : vs.toArray.size < 2 := by rw [List.size_toArray]; exact h2
    rw [if_pos hn2, if_pos hn2]
    refine wpAny_bind (wpAny_pure ?_)
    refine wpAny_bind (wpAny_pure ?_)
    try dsimp only
    have hr : (List.toArray (List.range vs.length)).toList.map (fun i => vs.getD i Value.none) = vs := by
      apply List.ext_getElem?
      intro i
      by_cases hi : i < vs.length
      · simp [hi, List.getD]
      · simp [hi]
    have ho : (arrOf (SortSt.mk' general' ((List.toArray ks).zip vs.toArray) #[] 7 none)).map (·.2) = List.toArray vs := by
      show ((List.toArray ks).zip vs.toArray).map (·.2) = _
      apply Array.toList_inj.mp
      rw [Array.toList_map, ksk_zip]
      exact List.map_snd_zip (Nat.le_of_eq hl.symm)
    refine tailS ha hk hne ho h64 (by omega) rfl fun h' c hb hc => h (List.toArray (List.range vs.length)) (.refl _) (fun i j hij hj => ?_) h' c hb (by rw [hr]; exact hc)
    have e0 : i = j := by omega
    rw [e0]
    unfold lexLtI
    rw [if_pos rfl, if_pos rfl]
  · have hn2 : ¬ vs.toArray.size < 2 := by rw [List.size_toArray]; exact h2
    rw [if_neg hn2, if_neg hn2]
    obtain ⟨fs, t1, t2, t3⟩ := katTups_ofI hks
    refine wpAny_bind (kat_kind (T := .type "int") t1 (by omega) (fun v hv => ?_) (by decide) ?_)
    · obtain ⟨z, t, rfl⟩ := t3 v hv
      exact .now
    rw [show (Value.type "int" != Value.type "tuple") = true by decide]
    refine wpAny_bind (wpAny_mono (kat_run (Q := fun st' s' => ∃ p : Array Nat, arrOf st' = p.map (kas_item ((List.toArray ks).zip (List.toArray vs))) ∧ failedOf st' = none ∧ s' = s ∧
      p.Perm (List.toArray (List.range vs.length)) ∧ ∀ i j, i ≤ j → j < vs.length → lexLtI (ps.getD (p.getD j 0) (0, 0)) (ps.getD (p.getD i 0) (0, 0)) = false)
      (G := fun p s' => s' = s ∧ p.Perm (List.toArray (List.range vs.length)) ∧ ∀ i j, i ≤ j → j < vs.length → lexLtI (ps.getD (p.getD j 0) (0, 0)) (ps.getD (p.getD i 0) (0, 0)) = false)
      hl (by omega) h64 (fun p' st' s' _ a2 a3 a4 => ⟨p', a2, a3, a4⟩) ?_) ?_ fun _ _ x => x)
    · refine sort_wp (J := fun s' => s' = s) (by omega) (lexOrdI ps vs.length) (fun i j hi hj C s' js hc => ?_) rfl fun p hp hs s' js => ⟨js, hp, hs⟩
      subst js
      have li : i < ks.length := by omega
      have lj : j < ks.length := by omega
      have lps := hks.1
      obtain ⟨x, ox, u1, u2, c1, ex, hx, _, dx⟩ := hks.2 i ks[i] (ps[i]'(by omega)) (by simp [li]) (by simp [show i < ps.length by omega])
      obtain ⟨y, oy, w1, w2, c2, ey, hy, _, dy⟩ := hks.2 j ks[j] (ps[j]'(by omega)) (by simp [lj]) (by simp [show j < ps.length by omega])
      show wpAny _ _ (keyLt' (tuples' true) (ks.getD i Value.none) (ks.getD j Value.none)) _ _ _
      rw [show ks.getD i Value.none = .ref x by simp [List.getD, li, ex], show ks.getD j Value.none = .ref y by simp [List.getD, lj, ey]]
      refine cmp_pairI hx dx hy dy ?_
      have := hc _ rfl
      simpa [List.getD, show i < ps.length by omega, show j < ps.length by omega] using this
    · rintro ⟨⟨⟩, st'⟩ s' ⟨p, har, hf, rfl, hp, hs⟩
      try dsimp only
      exact tailS ha hk hne (kat_snds hl har) (by rw [List.length_map, Array.length_toList, hp.size_eq]; simpa using h64) (by omega) hf fun h' c hb hc => h p hp hs h' c hb hc
end
end DV
namespace L2
open PySem PySem.Spec PySem.W PyProof.Rows
def KeyFI (X : Cx) (f : Value) (pins : List (Addr × Obj)) (σ : St) (H : Hp) (names : List Int) (kf : Int → Int) : Prop :=
  ∀ (more : List (Addr × Obj)) (s : Shared) (H1 : Hp) (x : Int) (t : Tok), x ∈ names → Inv X.i2 (pins ++ more) σ H1 s → Same H H1 →
    wpAny (model X.prog X.w) X.i2.A (call f [.int x t]) (fun v s' => ∃ p H2, v = .ref p ∧ Same H1 H2 ∧ H2 p = some (.tup [.int (kf x), .int x]) ∧ Inv X.i2 (pins ++ more) σ H2 s') (fun _ _ => False) s
def KeysHI (H : Hp) (ks : List Value) (ps : List (Int × Int)) : Prop := ks.length = ps.length ∧ ∀ (i : Nat) (k : Value) (p : Int × Int), ks[i]? = some k → ps[i]? = some p → ∃ x, k = .ref x ∧ H x = some (.tup [.int p.1, .int p.2])
theorem KeysHI.keep {H H' : Hp} {ks : List Value} {ps : List (Int × Int)} (h : KeysHI H ks ps) (s : Same H H') : KeysHI H' ks ps := ⟨h.1, fun i k p e1 e2 => by
  obtain ⟨x, ex, hx⟩ := h.2 i k p e1 e2
  exact ⟨x, ex, s _ _ hx⟩⟩
theorem KeysHI.snoc {H : Hp} {ks : List Value} {ps : List (Int × Int)} (h : KeysHI H ks ps) {p : Int × Int} {x : Addr} (hx : H x = some (.tup [.int p.1, .int p.2])) : KeysHI H (ks ++ [.ref x]) (ps ++ [p]) := by
  refine ⟨by simp [h.1], fun i k q e1 e2 => ?_⟩
  by_cases hi : i < ks.length
  · rw [List.getElem?_append_left hi] at e1
    rw [List.getElem?_append_left (by rw [← h.1]; exact hi)] at e2
    exact h.2 i k q e1 e2
  · rw [List.getElem?_append_right (by omega)] at e1
    rw [List.getElem?_append_right (by rw [← h.1]; omega)] at e2
    have hz : i - ks.length = 0 := by
      cases z : i - ks.length with
      | zero => rfl
      | succ m => rw [z] at e1; simp at e1
    rw [hz] at e1
    rw [← h.1, hz] at e2
    cases e1
    cases e2
    exact ⟨x, rfl, hx⟩
section
variable {X : Cx} {pins : List (Addr × Obj)} {σ : St} {E : Value → Shared → Prop}
theorem KeysHI.at {H : Hp} {s : Shared} {ks : List Value} {ps : List (Int × Int)} (I : Inv X pins σ H s) (h : KeysHI H ks ps) : DV.KeysAtI s.heap ks ps := ⟨h.1, fun i k p e1 e2 => by
  obtain ⟨x, ex, hx⟩ := h.2 i k p e1 e2
  obtain ⟨_, its, rv, o, ho, hc, n, hd⟩ := I.hok x _ hx
  obtain ⟨u, v, e3, ru, rv'⟩ := vals2 rv
  obtain ⟨t1, e4⟩ := ru
  obtain ⟨t2, e5⟩ := rv'
  exact ⟨x, o, t1, t2, n, ex, ho, hc, by rw [hd, e3, e4, e5]⟩⟩
theorem loopSI {f : Value} {H : Hp} {names : List Int} {kf : Int → Int} {a kS : Addr} {e1 : Nat} {body : Value → PUnit → Sem (ForInStep PUnit)} (hK : KeyFI X f pins σ H names kf) (hne : kS ≠ a)
    (hb : ∀ x (s : Shared) (R : Value → Shared → Prop), wpAny (model X.prog X.w) X.i2.A (call f [x]) (fun k s' => ∃ ks e, s'.heap.get? kS = some (seqObj "list" (List.toArray ks) e) ∧ ks.length < 64 ∧
        ∀ h' c, Heap.SameBut kS s'.heap h' → h'.get? kS = some (seqObj "list" (List.toArray (ks ++ [k])) c) → R k { s' with heap := h' }) (fun _ _ => False) s →
      wpAny (model X.prog X.w) X.i2.A (body x ⟨⟩) (fun r s' => r = .yield ⟨⟩ ∧ ∃ k, R k s') E s) :
    ∀ (nr : List Int) (r ks : List Value) (ps : List (Int × Int)) (s : Shared) (H1 : Hp) (e : Nat), Vals (nr.map V.int) r → (∀ x ∈ nr, x ∈ names) → Inv X pins σ H1 s → Same H H1 → (∀ b ∈ [a, kS], FpOk X pins H1 b) →
      s.heap.get? a = some (seqObj "list" #[] e1) → s.heap.get? kS = some (seqObj "list" (List.toArray ks) e) → KeysHI H1 ks ps → ks.length + r.length < 64 →
      wpAny (model X.prog X.w) X.i2.A (forIn r PUnit.unit body) (fun _ s' => ∃ ks' H2 e', Inv X pins σ H2 s' ∧ Same H H2 ∧ (∀ b ∈ [a, kS], FpOk X pins H2 b) ∧ s'.heap.get? a = some (seqObj "list" #[] e1) ∧
        s'.heap.get? kS = some (seqObj "list" (List.toArray ks') e') ∧ ks'.length = ks.length + r.length ∧ KeysHI H2 ks' (ps ++ nr.map fun x => (kf x, x))) E s
  | [], r, ks, ps, s, H1, e, rv, _, I, sm, fp, ha, hk, kh, hl => by
    cases rv
    rw [List.forIn_nil]
    exact wpAny_pure ⟨ks, H1, e, I, sm, fp, ha, hk, by simp, by simpa using kh⟩
  | x :: nr, r, ks, ps, s, H1, e, rv, sub, I, sm, fp, ha, hk, kh, hl => by
    obtain ⟨u, r', er, ru, rv'⟩ : ∃ u r', r = u :: r' ∧ RelV (V.int x) u ∧ Vals (nr.map V.int) r' := by
      cases rv with
      | cons a b => exact ⟨_, _, rfl, a, b⟩
    subst er
    obtain ⟨t, eu⟩ := ru
    subst eu
    rw [List.forIn_cons]
    have ob : ∀ b ∈ [a, kS], ∃ o, s.heap.get? b = some o ∧ ∀ v, o.data ≠ .cell v := fun b hb => by
      simp only [List.mem_cons, List.not_mem_nil, or_false] at hb
      rcases hb with q | q <;> subst q
      · exact ⟨_, ha, fun v q => by cases q⟩
      · exact ⟨_, hk, fun v q => by cases q⟩
    have Ip := I.pinned fp ob
    refine wpAny_bind (wpAny_mono (hb _ s (fun k s' => ∃ ks' ps' H2 e', k = k ∧ Inv X pins σ H2 s' ∧ Same H H2 ∧ (∀ b ∈ [a, kS], FpOk X pins H2 b) ∧ s'.heap.get? a = some (seqObj "list" #[] e1) ∧ s'.heap.get? kS = some (seqObj "list" (List.toArray ks') e') ∧
        ks'.length = ks.length + 1 ∧ ps' = ps ++ [(kf x, x)] ∧ KeysHI H2 ks' ps')
      (wpAny_mono (hK (pinsAt [a, kS] s.heap) s H1 x t (sub x (List.mem_cons_self ..)) Ip.i1.i1 sm) (fun v s2 hq => ?_) fun _ _ z => z)) (fun q s' hq => ?_) fun _ _ z => z)
    · obtain ⟨p, H2, ev, sm2, hp, I2⟩ := hq
      subst ev
      have I3' : Inv X (pins ++ pinsAt [a, kS] s.heap) σ H2 s2 := (I2.o1 Ip.i1.ok.hd Ip.i1.ok.frames).o1 Ip.ok.hd Ip.ok.frames
      have pin : ∀ b o, b ∈ [a, kS] → s.heap.get? b = some o → s2.heap.get? b = some o ∧ H2 b = none := fun b o hb e => by
        have z := I3'.pin (b, o) (List.mem_append_right _ (List.mem_append_right _ (mem_pinsAt hb e)))
        exact ⟨z.1, z.2.1⟩
      have fp2 : ∀ b ∈ [a, kS], FpOk X pins H2 b := fun b hb => by
        obtain ⟨o, e, _⟩ := ob b hb
        exact ⟨(pin b o hb e).2, (fp b hb).2⟩
      have I3 : Inv X pins σ H2 s2 := I3'.unpinned
      refine ⟨ks, e, (pin kS _ (by simp) hk).1, by omega, fun h' c sb hk' => ⟨ks ++ [.ref p], _, H2, c, rfl, ?_, sm.trans sm2, fp2, (sb.2 a (Ne.symm hne)).trans (pin a _ (by simp) ha).1, hk', by simp, rfl, (kh.keep sm2).snoc hp⟩⟩
      exact I3.turnedL (t' := s2.toks) (ch := [a, kS]) (fun b o hb e => (sb.2 b (fun q => hb (by simp [q]))).trans e) fp2
    · obtain ⟨rfl, k, ks', ps', H2, e', _, I2, sm2, fp2, ha2, hk2, l2, ep, kh2⟩ := hq
      subst ep
      show wpAny (model X.prog X.w) X.i2.A (forIn r' PUnit.unit body) _ E s'
      refine wpAny_mono (loopSI hK hne hb nr r' ks' _ s' H2 e' rv' (fun y hy => sub y (List.mem_cons_of_mem _ hy)) I2 sm2 fp2 ha2 hk2 kh2 (by rw [List.length_cons] at hl; omega)) (fun _ s3 hq => ?_) fun _ _ z => z
      obtain ⟨ks3, H3, e3, b1, b2, b3, b4, b5, b6, b7⟩ := hq
      refine ⟨ks3, H3, e3, b1, b2, b3, b4, b5, by rw [List.length_cons]; omega, ?_⟩
      rw [List.map_cons]
      rw [List.append_assoc] at b7
      exact b7
end
theorem vals_intI {P : List Int} : ∀ {us : List Value}, Vals (P.map V.int) us → ∀ (p : List Nat), Vals ((p.map fun i => P.getD i 0).map V.int) (p.map fun i => us.getD i Value.none) ∨ ∃ i ∈ p, P.length ≤ i := by
  intro us r p
  induction p with
  | nil => exact .inl .nil
  | cons i p ih =>
    rcases ih with ih | ⟨j, hj, l⟩
    · by_cases hi : i < P.length
      · refine .inl (.cons ?_ ih)
        obtain ⟨u, hu, ru⟩ := r.get (i := i) (x := V.int P[i]) (by simp [hi])
        show RelV (V.int (P.getD i 0)) (us.getD i Value.none)
        rw [show us.getD i Value.none = u by simp [List.getD, hu], show P.getD i 0 = P[i] by simp [List.getD, hi]]
        exact ru
      · exact .inr ⟨i, List.mem_cons_self .., by omega⟩
    · exact .inr ⟨j, List.mem_cons_of_mem _ hj, l⟩
theorem map_rangeI {names : List Int} : (List.range names.length).map (fun i => names.getD i 0) = names := by
  apply List.ext_getElem?
  intro i
  by_cases hi : i < names.length
  · simp [hi, List.getD]
  · simp [hi]
section
variable {X : Cx} {pins : List (Addr × Obj)} {σ : St} {E : Value → Shared → Prop}
theorem call_sortKI {f : Addr} {names : List Int} {kf : Int → Int} {l : Addr} {H : Hp} {s : Shared} {Q : VK} (I : Inv X pins σ H s) (hS : SqL X.K H l (names.map V.int)) (h64 : names.length < 64) (hK : KeyFI X (.ref f) pins σ H names kf)
    (q : ∀ (D : Addr) (out : List Int) (H2 : Hp), H2 D = none → Same H H2 → out.Perm names → out.Pairwise (fun x y => DV.lexLtI (kf y, y) (kf x, x) = false) → Q (.ref D) (upd H2 D (.lst (out.map V.int)))) :
    wpAny (model X.prog X.w) X.A (call (.builtin "sorted") [.ref l] [(Str.ofString "key", .ref f)]) (EP X pins σ Q) E s := by
  obtain ⟨vs, rv, pl, hz⟩ := I.list hS
  have hlen : names.length = vs.length := by rw [← rv.length, List.length_map]
  have hl := pl.isList
  refine call_function_entry_kw kind_sorted plain_sorted entry_sorted (ksk_s1 _ _) ?_
  unfold Builtin.«sorted»
  refine wpAny_bind (m := checkCount "sorted" 1 1 _) (wpAny_pure ?_)
  refine wpAny_bind (collect_list hl ?_ (by rw [sizeLine_eq]; omega))
  refine wpAny_bind (wpAny_newList ?_ (by rw [sizeLine_eq]; omega))
  have hsz : ((s.heap.push (seqObj "list" #[] 0)).update s.heap.objs.size (Obj.mapSeq (· ++ vs.toArray))).objs.size = s.heap.objs.size + 1 := by
    rw [Heap.size_update, size_push']
  have hoL : (((s.heap.push (seqObj "list" #[] 0)).update s.heap.objs.size (Obj.mapSeq (· ++ vs.toArray))).push (seqObj "list" vs.toArray 0)).get? (s.heap.objs.size + 1) = some (seqObj "list" vs.toArray 0) := by
    rw [← hsz]; exact Heap.get?_push_size _ rfl
  have keep : ∀ b o, s.heap.get? b = some o → (((s.heap.push (seqObj "list" #[] 0)).update s.heap.objs.size (Obj.mapSeq (· ++ vs.toArray))).push (seqObj "list" vs.toArray 0)).get? b = some o := fun b o q => by
    have hlt : b < s.heap.objs.size := Heap.lt_size q
    rw [Heap.get?_push_ne _ _ _ (by rw [hsz]; exact Nat.ne_of_lt (Nat.lt_succ_of_lt hlt)), Heap.get?_update_ne _ _ _ _ (Nat.ne_of_lt hlt), Heap.get?_push_ne _ _ _ (Nat.ne_of_lt hlt)]
    exact q
  have hsz2 : (((s.heap.push (seqObj "list" #[] 0)).update s.heap.objs.size (Obj.mapSeq (· ++ vs.toArray))).push (seqObj "list" vs.toArray 0)).objs.size = s.heap.objs.size + 2 := by rw [size_push', hsz]
  show wpAny _ _ _ _ _ { s with heap := ((s.heap.push (seqObj "list" #[] 0)).update s.heap.objs.size (Obj.mapSeq (· ++ vs.toArray))).push (seqObj "list" vs.toArray 0) }
  rw [hsz]
  generalize ((s.heap.push (seqObj "list" #[] 0)).update s.heap.objs.size (Obj.mapSeq (· ++ vs.toArray))).push (seqObj "list" vs.toArray 0) = g1 at *
  refine wpAny_bind (wpAny_holding (wpAny_call_entry_kw slot_list_sort ⟨_, hoL, rfl⟩ entry_list_sort ?body (ksk_l1 _ _)))
  case body =>
    show wpAny (model X.prog X.w) X.A.in1.in1 (Builtin.«list.sort» ⟨[.ref (s.heap.objs.size + 1)], [(Str.ofString "key", .ref f)]⟩) _ _ _
    rw [ksk_t1]
    have s1 := Heap.SameBut.update g1 (s.heap.objs.size + 1) (Obj.mapSeq fun _ => (#[] : Array Value))
    obtain ⟨e1, ho1⟩ : ∃ e1, (g1.update (s.heap.objs.size + 1) (Obj.mapSeq fun _ => (#[] : Array Value))).get? (s.heap.objs.size + 1) = some (seqObj "list" #[] e1) := ⟨_, get?_update_seq hoL fun _ => #[]⟩
    have hkS : ((g1.update (s.heap.objs.size + 1) (Obj.mapSeq fun _ => (#[] : Array Value))).push (seqObj "tuple" vs.toArray 0)).objs.size = s.heap.objs.size + 3 := by rw [size_push', Heap.size_update, hsz2]
    unfold ksk_tree
    refine wpAny_bind (listItems_at hoL rfl ?_)
    refine wpAny_bind (listUpdate_at hoL rfl ?_ (by rw [List.size_toArray, sizeLine_eq]; omega) (Nat.zero_le _))
    refine wpAny_bind (seqEpoch_at ho1 rfl ?_)
    refine wpAny_bind (wpAny_newTuple ?_ (by show vs.length ≤ _; rw [sizeLine_eq]; omega))
    refine wpAny_bind (wpAny_newList ?_ (Nat.zero_le _))
    refine wpAny_holding ?_
    have keep4 : ∀ b o, s.heap.get? b = some o → (((g1.update (s.heap.objs.size + 1) (Obj.mapSeq fun _ => (#[] : Array Value))).push (seqObj "tuple" vs.toArray 0)).push (seqObj "list" #[] 0)).get? b = some o := fun b o e =>
      Heap.get?_push_of_some _ (Heap.get?_push_of_some _ ((s1.2 b (Nat.ne_of_lt (Nat.lt_succ_of_lt (Heap.lt_size e)))).trans (keep b o e)))
    have ha4 := Heap.get?_push_of_some (seqObj "list" #[] 0) (Heap.get?_push_of_some (seqObj "tuple" vs.toArray 0) ho1)
    have hk4 : (((g1.update (s.heap.objs.size + 1) (Obj.mapSeq fun _ => (#[] : Array Value))).push (seqObj "tuple" vs.toArray 0)).push (seqObj "list" #[] 0)).get? (s.heap.objs.size + 3) = some (seqObj "list" #[] 0) := by
      rw [← hkS]; exact Heap.get?_push_size _ rfl
    show wpAny _ _ (ksk_rest (s.heap.objs.size + 1) (.ref f) false vs.toArray e1 (.ref ((g1.update (s.heap.objs.size + 1) (Obj.mapSeq fun _ => (#[] : Array Value))).push (seqObj "tuple" vs.toArray 0)).objs.size)) _ _ { s with heap := ((g1.update (s.heap.objs.size + 1) (Obj.mapSeq fun _ => (#[] : Array Value))).push (seqObj "tuple" vs.toArray 0)).push (seqObj "list" #[] 0) }
    rw [hkS]
    generalize ((g1.update (s.heap.objs.size + 1) (Obj.mapSeq fun _ => (#[] : Array Value))).push (seqObj "tuple" vs.toArray 0)).push (seqObj "list" #[] 0) = g4 at *
    have I4 : Inv X pins σ H { s with heap := g4 } := I.kept (t' := s.toks) keep4
    have fp : ∀ b ∈ [s.heap.objs.size + 1, s.heap.objs.size + 3], FpOk X pins H b := fun b hb => by
      have ge : s.heap.objs.size ≤ b := by
        simp only [List.mem_cons, List.not_mem_nil, or_false] at hb
        rcases hb with q | q <;> rw [q] <;> omega
      exact I.fpOk ge (I.hok.fresh ge)
    have hne : s.heap.objs.size + 3 ≠ s.heap.objs.size + 1 := by omega
    generalize s.heap.objs.size + 1 = D at *
    generalize s.heap.objs.size + 3 = kS at *
    unfold ksk_rest
    refine wpAny_bind (wpAny_rule ?_)
    first
      | rw [List.forIn_toArray]
      | (rw [← Array.forIn_toList]; simp only [List.toList_toArray])
      | rw [← Array.forIn_toList]
    refine wpAny_bind (wpAny_mono (loopSI (a := D) (kS := kS) (e1 := e1) hK hne (fun x s' R hx => ?_) names vs [] [] _ H 0 rv (fun _ h => h) I4 (Same.refl H) fp ha4 hk4 ⟨rfl, fun i k p e => by simp at e⟩ (by simp; omega)) (fun _ s' hd => ?_) fun _ _ x => x)
    · refine wpAny_bind (wpAny_attempt (wpAny_mono hx (fun k s'' hk => ?_) fun _ _ hF => hF.elim))
      obtain ⟨ks, e, hk1, hkl, c⟩ := hk
      have s1 := Heap.SameBut.update s''.heap kS (Obj.mapSeq (·.push k))
      have ea : (List.toArray ks).push k = List.toArray (ks ++ [k]) := by simp
      obtain ⟨c2, hc2⟩ : ∃ c2, (s''.heap.update kS (Obj.mapSeq (·.push k))).get? kS = some (seqObj "list" (List.toArray (ks ++ [k])) c2) := ⟨_, by rw [← ea]; exact get?_update_seq hk1 (·.push k)⟩
      try dsimp only
      refine wpAny_bind (listUpdate_at hk1 rfl ?_ (by rw [List.size_toArray, sizeLine_eq]; omega) (Nat.le_trans (Nat.le_of_eq (Array.size_push ..)) (by rw [List.size_toArray, sizeLine_eq]; omega)))
      exact wpAny_pure ⟨rfl, k, c _ c2 s1 hc2⟩
    · obtain ⟨ks, H2, e', I2, sm, fp2, ha2, hk2, hl2, kh⟩ := hd
      try dsimp only
      refine wpAny_bind (listItems_at hk2 rfl ?_)
      rw [List.nil_append] at kh
      refine DV.endSI (by simpa using hl2) (by omega) ha2 hk2 hne (kh.at I2) fun p hp hs h5 c5 hb5 hc5 => ⟨_, rfl, wpAny_pure ⟨_, rfl, ?_⟩⟩
      have hpl : p.toList.Perm (List.range vs.length) := by simpa using hp.toList
      have hin : ∀ i ∈ p.toList, i < vs.length := fun i hi => List.mem_range.mp (hpl.mem_iff.mp hi)
      have rv5 := (vals_intI rv p.toList).resolve_right fun ⟨i, hi, l⟩ => by have := hin i hi; omega
      refine ⟨.ref D, _, I2.adopt (t' := s'.toks) (ch := [D, kS]) (a := D) (o := .lst ((p.toList.map fun i => names.getD i 0).map V.int)) (fun b u hb e => (hb5 b (fun z => hb (by simp [z])) (fun z => hb (by simp [z]))).trans e) fp2 (by simp) ⟨?_, _, c5, rv5, hc5⟩, rfl, q D _ H2 (fp2 D (by simp)).1 sm ?_ ?_⟩
      · rw [List.length_map, List.length_map, hpl.length_eq, List.length_range, sizeLine_eq]; omega
      · have := hpl.map fun i => names.getD i 0
        rw [← hlen, map_rangeI] at this
        exact this
      · rw [List.pairwise_map, List.pairwise_iff_getElem]
        intro i j hi hj hij
        have hj2 : j < p.size := by simpa using hj
        have hi2 : i < p.size := by simpa using hi
        have hps : p.size = vs.length := by rw [hp.size_eq]; simp
        have := hs i j (by omega) (by omega)
        have ei : p.getD i 0 = p.toList[i] := by simp [Array.getD, hi2]
        have ej : p.getD j 0 = p.toList[j] := by simp [Array.getD, hj2]
        rw [ei, ej] at this
        have li := hin _ (List.getElem_mem hi)
        have lj := hin _ (List.getElem_mem hj)
        have f : ∀ k, k < vs.length → (names.map fun x => (kf x, x)).getD k (0, 0) = (kf (names.getD k 0), names.getD k 0) := fun k hk => by
          have : k < names.length := by omega
          simp [List.getD, this]
        rw [f _ li, f _ lj] at this
        exact this
end
end L2
namespace L2
open PySem PySem.Spec PySem.W PyProof.Rows
theorem lam_callI {X : Cx} {pins : List (Addr × Obj)} {σ : St} {H : Hp} {s : Shared} {f c c' d : Addr} {qual : Str} {scope : Scope} {pm ctv : Value} {p1 p2 p3 p4 p5 p6 p7 : Pos} {k0 : Nat} {x : Int} {t : Tok} {kvs : List (Key × V)} {n : Int}
    (I : Inv X pins σ H s) (hroom : X.A.depth < recursionLimit) (hf : s.heap.get? f = some (kla_obj "<lambda>" qual (lamArgs p1) (lamBody p2 p3 p4 p5 p6 p7 k0) scope [(("rests" : Str), c)] pm c' ctv))
    (hsc : scope.names = [(("name" : Str), NameKind.local), (("rests" : Str), NameKind.free)]) (hco : scope.isCoroutine = false) (hgen : scope.isGenerator = false) (hkd : scope.kind = .function)
    (hcd : s.heap.CodeRec (.ref c') qual) (hcell : s.heap.IsCell c (some (.ref d))) (hd : Rd H d (.dK kvs)) (hv : valV kvs (.inl x) = some (.int n)) :
    wpAny (model X.prog X.w) X.A (call (.ref f) [.int x t]) (fun v s' => ∃ p H2, v = .ref p ∧ H p = none ∧ H2 = upd H p (.tup [.int (-n), .int x]) ∧ Inv X pins σ H2 s') (fun _ _ => False) s := by
  refine wpAny_call ?_
  refine kla_callFunE hroom hf rfl hco hgen rfl hcd ?_
  rw [show bindArgs (kla_fn "<lambda>" qual (lamArgs p1) (lamBody p2 p3 p4 p5 p6 p7 k0) scope [(("rests" : Str), c)] pm (.ref c') ctv) ⟨[.int x t], []⟩ = pure [(("name" : Str), Value.int x t)] from rfl]
  refine wpAny_pure (wpAny_newFunctionEnv (by rw [hsc]; decide) (by intro y hy; rw [hsc]; rw [List.mem_singleton.mp hy]; show List.lookup (("name" : Str)) _ = _; decide) (fun h₁ hns hsb => ⟨I.nolimit.fresh _ hsb, ?_⟩) hkd)
  show codeAny _ _ (.expr (lamBody p2 p3 p4 p5 p6 p7 k0) (envX qual scope s.heap.objs.size f (.ref c') [(("rests" : Str), c)])) _ _
  have hk₁ : ∀ b o, s.heap.get? b = some o → h₁.get? b = some o := fun b o e => hsb.extBut b o (Nat.ne_of_lt (Heap.lt_size e)) (Heap.get?_push_of_some _ e)
  have I1 : Inv X pins σ H { s with heap := h₁, toks := s.toks + [(("name" : Str), Value.int x t)].length } := I.kept hk₁
  refine kla_codeExpr ?_
  have kn : (envX qual scope s.heap.objs.size f (.ref c') [(("rests" : Str), c)]).kindOf "name" = some .local := by
    show scope.names.lookup (("name" : Str)) = some NameKind.local
    rw [hsc]; rfl
  have kr : (envX qual scope s.heap.objs.size f (.ref c') [(("rests" : Str), c)]).kindOf "rests" = some .free := by
    show scope.names.lookup (("rests" : Str)) = some NameKind.free
    rw [hsc]; rfl
  have hnm : ∀ (s' : Shared) (Q : Value → Shared → Prop) (E : Value → Shared → Prop) (A : Around) (p : Pos), s'.heap.Ns s.heap.objs.size (fun y => ([("name", Value.int x t)] : List (Str × Value)).reverse.lookup y) → Q (.int x t) s' →
      wpAny (model X.prog X.w) A (eval (.Name "name" p) (envX qual scope s.heap.objs.size f (.ref c') [(("rests" : Str), c)])) Q E s' := fun s' Q E A p hn hq =>
    wpAny_Name (wpAny_loadName_local hkd kn hn rfl hq) (by decide)
  refine wpAny_Tuple_spliced ?_
  show wpAny _ _ (spliced [(false, eval (.UnaryOp .USub (.Subscript (.Name "rests" p2) (.Name "name" p3) p4) p5) _), (false, eval (.Name "name" p6) _)]) _ _ _
  refine Calls.spliced_cons (UnaryOp_ (subD_of PySem.F.slot_dict_getitem.lookup (fun _ _ => rfl) ?_))
  have cell1 : h₁.IsCell c (some (.ref d)) := by
    obtain ⟨o, ho, hd'⟩ := hcell
    exact ⟨o, hk₁ c o ho, hd'⟩
  refine wpAny_Name (wpAny_loadName_free hkd kr (c := c) rfl cell1 ?_ (by decide)) (by decide)
  refine hnm _ _ _ _ _ hns ?_
  obtain ⟨z, hdm, vs, rel, dd⟩ := dk_rd I1.hok hd
  obtain ⟨w', hw, rw'⟩ := RelO.some_of (v := .int n) (o := valueAt vs (.inl x)) (by rw [← hv]; exact rel.val _)
  obtain ⟨t3, rfl⟩ := rw'
  refine ⟨dd.typeIs, wpAny_getItem_of (k := .inl x) (kV_is (k := .inl x) ⟨t, rfl⟩) dd.mapOf hw ?_⟩
  refine neg_int ?_
  refine Calls.spliced_cons (hnm _ _ _ _ _ hns (Calls.spliced_nil ⟨(show 2 ≤ sizeLine by decide), ?_⟩))
  refine ⟨_, _, rfl, I1.hok.fresh (Nat.le_refl _), rfl, ?_⟩
  refine (I1.laid (a := h₁.objs.size) (o := .tup [.int (-n), .int x]) (fun b u e => Heap.get?_push_of_some _ e) (Nat.le_refl _) ?_)
  exact ⟨(show 2 ≤ sizeLine by decide), _, .cons ⟨_, rfl⟩ (.cons ⟨t, rfl⟩ .nil), ⟨_, Heap.get?_push_size _ rfl, rfl, _, rfl⟩⟩
def tSortLI (K : PySem.W.Frag) (P : Addr) (i : Nat) (lpos : Pos) (qual : Str) (tl : TE) : TE := fun σ H Q => tl σ H fun x H1 => ∃ (l : Addr) (names : List Int) (d : Addr) (kvs : List (Key × V)) (kf : Int → Int) (ps : Array Value),
  x = .ref l ∧ SqL K H1 l (names.map V.int) ∧ names.length < 64 ∧ H1 P = some (.tbl ps) ∧ TabOk H1 lpos qual ps ∧ σ[i]? = some (some (.ref d)) ∧ Rd H1 d (.dK kvs) ∧ (∀ x ∈ names, valV kvs (.inl x) = some (.int (kf x))) ∧
  ∀ (D : Addr) (out : List Int) (H2 : Hp) (ps' : Array Value), H2 D = none → (∀ b o, b ≠ P → H1 b = some o → H2 b = some o) → H2 P = some (.tbl ps') → TabOk H2 lpos qual ps' → out.Perm names →
    out.Pairwise (fun x y => DV.lexLtI (-(kf y), y) (-(kf x), x) = false) → Q (.ref D) (upd H2 D (.lst (out.map V.int)))
section
variable {X : Cx} {l : Expr} {tl : TE} {p pos kpos lpos p1 p2 p3 p4 p5 p6 p7 : Pos} {k0 : Nat} {scope : Scope} {c0 P : Addr} {i : Nat}
theorem pe_sortLI (hroom : X.i2.A.depth < recursionLimit) (hN : X.N[i]? = some ("rests" : Str)) (hvis : Vis X.env.scope ("rests" : Str)) (hkr : X.env.kindOf ("rests" : Str) = some .cell) (hcode : X.env.code = .ref c0) (hch : codeHdIn X.K c0 P = true) (hb : X.base.BuiltinsAt X.mg P)
    (hsc : scope.names = [(("name" : Str), NameKind.local), (("rests" : Str), NameKind.free)]) (hco : scope.isCoroutine = false) (hgen : scope.isGenerator = false) (hkd : scope.kind = .function)
    (hg : Gl X "sorted") (hm : X.mg "sorted" = none) (hv : bootBuiltins "sorted" = some (.builtin "sorted")) (hl : PE X l tl)
    (he : backTo pos (starEach [l] X.env) = (false, eval l X.env) :: backTo pos (starEach [] X.env) := by rfl) (hpl : (backTo pos (starEach [l] X.env)).any (·.1) = false := by rfl) :
    PE X (.Call (.Name "sorted" p) [l] [⟨some "key", .Lambda (lamArgs p1) (lamBody p2 p3 p4 p5 p6 p7 k0) scope lpos, kpos⟩] pos) (tSortLI X.K P i lpos (X.env.qual ++ "<lambda>") tl) := by
  intro pins s σ H Q I h
  refine wpAny_Call_Name_kw (ld_blt I hg hm hv (callWith_bK ?_ he hpl) (by decide) (by decide))
  rw [he]
  refine Calls.spliced_cons (thn (hl pins s σ H _ I h) fun u s1 ⟨x, H1, I1, rx, q1⟩ => Calls.spliced_nil ?_)
  obtain ⟨la, names, d, kvs, kf, ps, ex, hS, h64, hP, hT, hσ, hd, hkf, q⟩ := q1
  subst ex
  obtain rfl : u = Value.ref la := rx
  show wpAny _ _ (evalAll ((do let v ← eval (.Lambda (lamArgs p1) (lamBody p2 p3 p4 p5 p6 p7 k0) scope lpos) X.env; standAt pos; pure v) :: [])) _ _ s1
  refine wpAny_evalAll_cons (wpAny_bind (kla_eval rfl ?_))
  have cellOfI : ∀ {Y : Cx} {pins' : List (Addr × Obj)} {H' : Hp} {s' : Shared}, Y.env = X.env → Y.N = X.N → Inv Y pins' σ H' s' → ∃ c, X.env.cells.lookup ("rests" : Str) = some c ∧ s'.heap.IsCell c (some (.ref d)) := fun e1 e2 I' => by
    obtain ⟨m, _, hl'⟩ := I'.loc
    rw [e1, e2] at hl'
    obtain ⟨u, r, lk⟩ := hl' i _ _ hN hσ hvis
    obtain rfl : u = Value.ref d := r
    rcases lk with ⟨z, _⟩ | ⟨_, c, hc, hcell⟩
    · rw [hkr] at z; cases z
    · exact ⟨c, hc, hcell⟩
  obtain ⟨c, hc, hcell⟩ := cellOfI rfl rfl I1
  refine lam_make I1 (lam_closure hsc hc) hcode hch hP hT hb fun f c' ctv pm s2 H2 ps' I2 hf fpf hc' hP' hT' hk hk2 => ?_
  refine wpAny_bind (wpAny_standAt (wpAny_pure (wpAny_evalAll_nil ?_)))
  have nd : ∀ {b : Addr} {o : HO}, (∀ ps, o ≠ .tbl ps) → H1 b = some o → H2 b = some o := fun {b o} ne e => hk b o (fun z => by rw [z, hP] at e; cases e; exact ne _ rfl) e
  have hS2 : SqL X.K H2 la (names.map V.int) := by
    rcases hS with r | r
    · refine .inl ?_
      rcases r with r | ⟨o, r⟩
      · exact .inl (nd (fun ps z => by cases z) r)
      · exact .inr ⟨o, nd (fun ps z => by cases z) r⟩
    · exact .inr r
  have hd2 : Rd H2 d (.dK kvs) := by
    rcases hd with r | ⟨o, r⟩
    · exact .inl (nd (fun ps z => by cases z) r)
    · exact .inr ⟨o, nd (fun ps z => by cases z) r⟩
  have Ip := I2.pinned (fp := [f]) (fun b hb => by rw [List.mem_singleton.mp hb]; exact fpf) (fun b hb => by rw [List.mem_singleton.mp hb]; exact ⟨_, hf, fun v q => by cases q⟩)
  show wpAny _ _ (call (.builtin "sorted") [.ref la] [(Str.ofString "key", .ref f)]) _ _ s2
  refine wpAny_mono (call_sortKI (X := X) (pins := pins ++ pinsAt [f] s2.heap) (Q := Q) (kf := fun x => -(kf x)) (E := X.xe) Ip hS2 h64 ?_ fun D out H3 hD sm hp hs => ?_) (fun v s3 hq => ?_) fun _ _ z => z
  · intro more s4 H4 x t hx I4 sm
    have pf : s4.heap.get? f = some (kla_obj "<lambda>" (X.env.qual ++ "<lambda>") (lamArgs p1) (lamBody p2 p3 p4 p5 p6 p7 k0) scope [(("rests" : Str), c)] pm c' ctv) :=
      (I4.pin (f, _) (List.mem_append_right _ (List.mem_append_left _ (List.mem_append_right _ (mem_pinsAt (by simp) hf))))).1
    obtain ⟨c2, hc2, hcell2⟩ := cellOfI (Y := X.i2) rfl rfl I4
    rw [hc] at hc2
    cases hc2
    have hrec : s4.heap.CodeRec (.ref c') (X.env.qual ++ "<lambda>") := (I4.hok c' _ (sm _ _ hc')).1
    refine wpAny_mono (lam_callI (X := X.i2) I4 hroom pf hsc hco hgen hkd hrec hcell2 (hd2.keep fun o e => sm _ _ e) (hkf x hx)) (fun v s5 hq => ?_) fun _ _ z => z
    obtain ⟨pp, H5, ev, hn, eH, I5⟩ := hq
    subst eH
    exact ⟨pp, _, ev, fun b o e => by rw [upd_ne (ne_of_none e hn)]; exact e, upd_same, I5⟩
  · refine q D out H3 ps' hD (fun b o hb e => sm _ _ (hk b o hb e)) (sm _ _ hP') ⟨hT'.1, hT'.2.imp id fun ⟨c, e1, e2⟩ => ⟨c, e1, sm _ _ e2⟩⟩ hp hs
  · obtain ⟨y, H3, I3, ry, qq⟩ := hq
    exact ⟨y, H3, I3.unpinned, ry, qq⟩
end
end L2
namespace L2
open PySem PySem.Spec PySem.W PyProof.Rows
def kvWI (ws : List (Int × Int)) : List (Key × V) := ws.map fun p => (Sum.inl p.1, V.int p.2)
theorem kvW_valsI (ws : List (Int × Int)) : (kvWI ws).map (·.2) = (ws.map (·.2)).map V.int := by simp [kvWI]
theorem kvW_keysI (ws : List (Int × Int)) : (kvWI ws).map (fun kv => kV kv.1) = (ws.map (·.1)).map V.int := by simp [kvWI, kV]
theorem kvW_atI {ws : List (Int × Int)} {i : Nat} {k : Key} {v : V} (h : (kvWI ws)[i]? = some (k, v)) : ∃ x n, ws[i]? = some (x, n) ∧ k = .inl x ∧ v = .int n := by
  unfold kvWI at h
  rw [List.getElem?_map] at h
  cases e : ws[i]? with
  | none => rw [e] at h; cases h
  | some p => rw [e] at h; cases h; exact ⟨p.1, p.2, rfl, rfl, rfl⟩
theorem valWI {ws : List (Int × Int)} (nd : (ws.map (·.1)).Nodup) {x : Int} {n : Int} (h : (x, n) ∈ ws) : valV (kvWI ws) (.inl x) = some (.int n) := by
  induction ws with
  | nil => cases h
  | cons p ws ih =>
    rw [List.map_cons, List.nodup_cons] at nd
    show valV ((Sum.inl p.1, V.int p.2) :: kvWI ws) (.inl x) = _
    rcases List.mem_cons.mp h with e | e
    · rw [← e]; exact valV_pos rfl
    · rw [valV_neg (fun z => nd.1 (by rw [Sum.inl.inj z]; exact List.mem_map_of_mem (f := (·.1)) e))]
      exact ih nd.2 e
theorem valW_noneI {ws : List (Int × Int)} {x : Int} (h : x ∉ ws.map (·.1)) : valV (kvWI ws) (.inl x) = none := by
  induction ws with
  | nil => rfl
  | cons p ws ih =>
    rw [List.map_cons, List.mem_cons, not_or] at h
    show valV ((Sum.inl p.1, V.int p.2) :: kvWI ws) (.inl x) = _
    rw [valV_neg (fun z => h.1 (Sum.inl.inj z).symm)]
    exact ih h.2
theorem putW_newI {ws : List (Int × Int)} {x : Int} {n : Int} (h : x ∉ ws.map (·.1)) : putK (kvWI ws) (.inl x) (.int n) = kvWI (ws ++ [(x, n)]) := by
  rw [putK_new _ (valW_noneI h)]
  simp [kvWI]
theorem putW_oldI {ws : List (Int × Int)} {x : Int} {n : Int} (h : x ∈ ws.map (·.1)) : putK (kvWI ws) (.inl x) (.int n) = kvWI (ws.map fun p => if p.1 = x then (p.1, n) else p) := by
  unfold putK
  have ha : ((kvWI ws).any fun kv => decide (kv.1 = .inl x)) = true := by
    obtain ⟨p, hp, e⟩ := List.mem_map.mp h
    rw [List.any_eq_true]
    exact ⟨(.inl p.1, .int p.2), List.mem_map_of_mem (f := fun p : Int × Int => ((Sum.inl p.1 : Key), V.int p.2)) hp, by rw [← e]; exact decide_eq_true rfl⟩
  rw [if_pos ha]
  unfold kvWI
  rw [List.map_map, List.map_map]
  refine List.map_congr_left fun p _ => ?_
  show (if (Sum.inl p.1 : Key) = Sum.inl x then ((Sum.inl p.1 : Key), V.int n) else (Sum.inl p.1, V.int p.2)) = _
  by_cases e : p.1 = x
  · rw [if_pos (congrArg _ e)]; simp [e]
  · rw [if_neg (fun z => e (Sum.inl.inj z))]; simp [e]
end L2
namespace DV
open PySem PySem.W PyProof.Rows
def wholeI (ws : List (Int × Int)) : Int := (ws.map (·.2)).sum
def partI (R W w : Int) : Int := R * w / W
def restI (R W w : Int) : Int := R * w - partI R W w * W
theorem rest_posI {R W w : Int} (h : 0 < W) : 0 ≤ restI R W w ∧ restI R W w < W := by
  unfold restI partI
  have h1 := Int.emod_nonneg (R * w) (by omega : W ≠ 0)
  have h2 := Int.emod_lt_of_pos (R * w) h
  have h3 := Int.mul_ediv_add_emod (R * w) W
  have h4 : R * w / W * W = W * (R * w / W) := Int.mul_comm _ _
  omega
theorem parts_sumI (R W : Int) : ∀ ws : List (Int × Int), W * (ws.map fun p => partI R W p.2).sum + (ws.map fun p => restI R W p.2).sum = R * wholeI ws
  | [] => by simp [wholeI]
  | p :: ws => by
    have := parts_sumI R W ws
    unfold wholeI at *
    simp only [List.map_cons, List.sum_cons]
    rw [Int.mul_add, Int.mul_add, ← this]
    unfold restI
    have h4 : partI R W p.2 * W = W * partI R W p.2 := Int.mul_comm _ _
    omega
theorem rests_ltI {R W : Int} (h : 0 < W) : ∀ {ws : List (Int × Int)}, 0 ≤ (ws.map fun p => restI R W p.2).sum ∧ (ws.map fun p => restI R W p.2).sum ≤ W * ws.length ∧ (ws ≠ [] → (ws.map fun p => restI R W p.2).sum < W * ws.length)
  | [] => by simp
  | p :: ws => by
    have ⟨a, b, _⟩ := rests_ltI (R := R) h (ws := ws)
    have ⟨c, d⟩ := rest_posI (R := R) (w := p.2) h
    simp only [List.map_cons, List.sum_cons, List.length_cons]
    have e : W * ((ws.length + 1 : Nat) : Int) = W * ws.length + W := by
      rw [Int.natCast_add, Int.mul_add]; simp
    rw [e]
    exact ⟨by omega, by omega, fun _ => by omega⟩
theorem left_okI {R : Int} {ws : List (Int × Int)} (h : 0 < wholeI ws) (hne : ws ≠ []) : 0 ≤ R - (ws.map fun p => partI R (wholeI ws) p.2).sum ∧ R - (ws.map fun p => partI R (wholeI ws) p.2).sum < ws.length := by
  have h1 := parts_sumI R (wholeI ws) ws
  have ⟨a, _, c⟩ := rests_ltI (R := R) h (ws := ws)
  have c := c hne
  generalize (ws.map fun p => restI R (wholeI ws) p.2).sum = T at *
  generalize (ws.map fun p => partI R (wholeI ws) p.2).sum = S at *
  generalize wholeI ws = W at *
  have e : W * (R - S) = T := by rw [Int.mul_sub, ← Int.mul_comm R W]; omega
  constructor
  · by_cases z : 0 ≤ R - S
    · exact z
    · exfalso
      have := Int.mul_lt_mul_of_pos_left (show R - S < 0 by omega) h
      rw [Int.mul_zero, e] at this
      omega
  · have : W * (R - S) < W * (ws.length : Int) := by rw [e]; exact c
    exact Int.lt_of_mul_lt_mul_left this (Int.le_of_lt h)
end DV
namespace L2
open PySem PySem.Spec PyProof.Rows S2
def mergeP (kvs ps : List (Key × V)) : List (Key × V) := ps.foldl (fun acc p => putK acc p.1 p.2) kvs
def PairsAtK (H : Hp) (qs : List Addr) (ps : List (Key × V)) : Prop := qs.length = ps.length ∧ ∀ (i : Nat) (q : Addr) (x : Key × V), qs[i]? = some q → ps[i]? = some x → H q = some (.tup [kV x.1, x.2])
theorem PairsAtK.upd {H : Hp} {qs : List Addr} {ps kvs : List (Key × V)} {d : Addr} {o : HO} (h : PairsAtK H qs ps) (hd : H d = some (.dK kvs)) : PairsAtK (L2.upd H d o) qs ps := ⟨h.1, fun i q x e1 e2 => by
  have h1 := h.2 i q x e1 e2
  rw [upd_ne (ne_of h1 hd (fun z => nomatch z))]
  exact h1⟩
section
variable {X : Cx} {pins : List (Addr × Obj)} {σ : St}
theorem d_dictSetK {H : Hp} {s : Shared} {a : Addr} {kvs : List (Key × V)} {k : Key} {v : V} {u r : Value} {A : Around} {E : Value → Shared → Prop} {Q : Unit → Shared → Prop} (I : Inv X pins σ H s) (e : H a = some (.dK kvs)) (ru : RelV (kV k) u) (l : kvs.length < sizeLine) (rv : RelV v r)
    (h : ∀ h' t', Heap.SameBut a s.heap h' → Inv X pins σ (upd H a (.dK (putK kvs k v))) { s with heap := h', toks := t' } → Q () { s with heap := h', toks := t' }) :
    wpAny (model X.prog X.w) A (dictSet a u r) Q E s := by
  obtain ⟨z, hd, vs, rel, dd⟩ := dk_of I.hok e
  have hz : vs.length ≤ sizeLine := by rw [← rel.length]; exact z
  have hl : (putK kvs k v).length ≤ sizeLine := by have := length_putK kvs k v; omega
  refine wpAny_dictSet_pairs (hsz := hz) (kV_is ru) dd fun h' dd' hs => h _ _ hs ?_
  have he : ∃ q, h'.get? a = some q := let ⟨q, _, _, hq, _⟩ := dd'; ⟨q, hq⟩
  exact d_write I (by rw [e]; exact True.intro) hs he (dk_new hl hd (rel.put k rv) dd')
theorem dul_loopK {A : Around} {d it ax : Addr} {its : List Value} {qs : List Addr} {ps : List (Key × V)} {R : Result → Shared → Prop} (hh : A.in1.handled = none) (hne : ax ≠ it) (hdi : d ≠ it) (hdx : d ≠ ax) (hv : Vals (qs.map V.ref) its) :
    ∀ (k i : Nat) (s : Shared) (H : Hp) (kvs : List (Key × V)) (tk : Tok), qs.length - i = k → i ≤ qs.length → Inv X pins σ H s → FpOk X pins H it → H d = some (.dK kvs) → PairsAtK H qs ps → (s.heap.IsListIter it ax i ∧ s.heap.IsList ax its.toArray) → kvs.length + (qs.length - i) < sizeLine →
      (∀ h' t', Inv X pins σ (upd H d (.dK (mergeP kvs (ps.drop i)))) { s with heap := h', toks := t' } → R (.ok (.ret .none)) { s with heap := h', toks := t' }) →
      codeAny (model X.prog X.w) A (.builtin "dict.update.loop" ⟨[.ref d, .ref it, .int i tk, .none], []⟩) R s := by
  have hlen : its.length = qs.length := by rw [← hv.length, List.length_map]
  intro k
  induction k with
  | zero =>
    intro i s H kvs tk hk hi I fp hd hP st hsz hR
    have hin : i = qs.length := by omega
    subst hin
    have W := Walks.list (prog := X.prog) (w := X.w) (A := A.in1) hh it ax hne its.toArray
    refine codeAny_builtin F.entry_dul ?_
    rw [Around.under_plainId F.plain_dul _]
    show wpAny _ A.in1 (pyNext (.ref it) >>= _) _ _ s
    refine wpAny_bind (W.done s _ _ (by rw [List.size_toArray, hlen]; exact st) fun h' tk hk' => ?_)
    have e0 : upd H d (.dK (mergeP kvs (ps.drop qs.length))) = H := by
      rw [hP.1, List.drop_length]
      funext b
      by_cases e : b = d
      · rw [e, upd_same]; exact hd.symm
      · rw [upd_ne e]
    have I1 : Inv X pins σ H { s with heap := h', toks := tk } := I.turnedL (t' := tk) (ch := [it]) hk' fun b hb => by rw [List.mem_singleton.mp hb]; exact fp
    rw [← e0] at I1
    exact wpAny_bind (wpAny_pure (wpAny_pure (hR h' tk I1)))
  | succ k ih =>
    intro i s H kvs tk hk hi I fp hd hP st hsz hR
    have hlt : i < qs.length := by omega
    have W := Walks.list (prog := X.prog) (w := X.w) (A := A.in1) hh it ax hne its.toArray
    refine codeAny_builtin F.entry_dul ?_
    rw [Around.under_plainId F.plain_dul _]
    show wpAny _ A.in1 (pyNext (.ref it) >>= _) _ _ s
    refine wpAny_bind (W.item i s _ _ (by rw [List.size_toArray, hlen]; exact hlt) st fun v h' tk' hv' st' hk' => ?_)
    have I1 : Inv X pins σ H { s with heap := h', toks := tk' } := I.turnedL (t' := tk') (ch := [it]) hk' fun b hb => by rw [List.mem_singleton.mp hb]; exact fp
    have hv'' : its[i]? = some v := by simpa using hv'
    obtain ⟨x0, ex0, rx0⟩ := hv.at hv''
    obtain ⟨q, eq, rfl⟩ : ∃ q, qs[i]? = some q ∧ x0 = .ref q := by
      rw [List.getElem?_map] at ex0
      cases e1 : qs[i]? with
      | none => rw [e1] at ex0; cases ex0
      | some q => rw [e1] at ex0; cases ex0; exact ⟨q, rfl, rfl⟩
    obtain rfl : v = Value.ref q := rx0
    have hip : i < ps.length := by rw [← hP.1]; exact hlt
    have hq := hP.2 i q ps[i] eq (List.getElem?_eq_getElem hip)
    obtain ⟨_, its2, r2, o, g1, g2, n2, g3⟩ := (show ObjOk X.prog X.w H h' q (.tup [kV ps[i].1, ps[i].2]) from I1.hok q _ hq)
    obtain ⟨u, r, ru, rr, rfl⟩ : ∃ u r, RelV (kV ps[i].1) u ∧ RelV ps[i].2 r ∧ its2 = [u, r] := by
      cases r2 with
      | cons h1 t1 =>
        cases t1 with
        | cons h2 t2 =>
          cases t2
          exact ⟨_, _, h1, h2, rfl⟩
    have tq : ({ s with heap := h', toks := tk' } : Shared).TypeIs (.ref q) "tuple" := ⟨o, g1, g2⟩
    show wpAny _ A.in1 (holding [Value.ref q] _ >>= _) _ _ _
    refine wpAny_bind (wpAny_holding (wpAny_bind (wpAny_tryCatch ?_)))
    unfold Builtin.Dict.pairItems
    refine wpAny_bind (wpAny_typeOf tq ?_)
    rw [if_pos (by decide)]
    refine wpAny_bind (wpAny_seqItems g1 g3 (wpAny_pure ?_))
    show wpAny _ A.in1 (holding [u, r] (dictSet d u r)) _ _ _
    refine wpAny_holding (d_dictSetK I1 hd ru (by omega) rr fun h2 t2 hs I2 => ?_)
    refine wpAny_pure ⟨plainId_quiet F.plain_dul _, ?_⟩
    have fp2 : FpOk X pins (upd H d (.dK (putK kvs ps[i].1 ps[i].2))) it := ⟨by rw [upd_ne (Ne.symm hdi)]; exact fp.1, fp.2⟩
    have ed : mergeP kvs (ps.drop i) = mergeP (putK kvs ps[i].1 ps[i].2) (ps.drop (i + 1)) := by rw [List.drop_eq_getElem_cons hip]; rfl
    have hl2 := length_putK kvs ps[i].1 ps[i].2
    have := ih (i + 1) _ (upd H d (.dK (putK kvs ps[i].1 ps[i].2))) (putK kvs ps[i].1 ps[i].2) 0 (by omega) hlt I2 fp2 upd_same (hP.upd hd) ⟨st'.1.at fun o e => (hs.2 it (Ne.symm hdi)).trans e, st'.2.at fun o e => (hs.2 ax (Ne.symm hdx)).trans e⟩ (by omega) (fun h3 t3 I3 => by
      rw [upd_upd, ← ed] at I3
      exact hR h3 t3 I3)
    exact this
end
section
variable {X : Cx}
def rDictPK : List V → Hp → VK → Prop := fun xs H Q => ∃ (l : Addr) (qs : List Addr) (ps : List (Key × V)), xs = [.ref l] ∧ H l = some (.lst (qs.map V.ref)) ∧ PairsAtK H qs ps ∧ qs.length < sizeLine ∧ ∀ p, H p = none → Q (.ref p) (upd H p (.dK (mergeP [] ps)))
theorem call_dictPK (hc : X.calm = true) : CallR X (.type "dict") rDictPK := by
  intro pins s σ H xs us Q I r h
  obtain ⟨l, qs, ps, e1, hH, hP, hsz, q⟩ := h
  subst e1
  obtain ⟨u, e2, ru⟩ := vals1 r
  subst e2
  obtain rfl : u = Value.ref l := ru
  obtain ⟨z, its, n, rv, hl, e⟩ := I.lstM hH
  have hp0 : H s.heap.objs.size = none := I.hok.fresh (Nat.le_refl _)
  have npl : s.heap.objs.size ≠ l := fun z => by rw [z, hH] at hp0; cases hp0
  have I1 : Inv X pins σ (upd H s.heap.objs.size (.dK [])) { s with heap := s.heap.push { cls := .type "dict", data := .dict #[] } } := I.laid (a := s.heap.objs.size) (o := .dK []) (t' := s.toks) (fun _ _ q => Heap.get?_push_of_some _ q) (Nat.le_refl _) (dk_empty s.heap I.big)
  have e' : (s.heap.push { cls := .type "dict", data := .dict #[] }).get? l = some { cls := .type "list", data := .seq its.toArray n } := Heap.get?_push_of_some _ e
  have hP1 : PairsAtK (upd H s.heap.objs.size (.dK [])) qs ps := ⟨hP.1, fun i a x e1 e2 => by
    have h1 := hP.2 i a x e1 e2
    rw [upd_ne (ne_of_none h1 hp0)]
    exact h1⟩
  refine callType_codes (Q₁ := fun obj s₁ => obj = .ref s.heap.objs.size ∧ s₁ = { s with heap := s.heap.push { cls := .type "dict", data := .dict #[] } }) F.kt_called_dict (F.kt_typeCall_dict_1 _) F.entry_dict_init (kt_code_dict_new _ ⟨rfl, rfl⟩) ?_
  rintro obj s₁ ⟨rfl, rfl⟩
  have hT : ({ s with heap := s.heap.push { cls := .type "dict", data := .dict #[] } } : Shared).TypeIs (.ref s.heap.objs.size) "dict" := ⟨_, Heap.get?_push_size _ rfl, rfl⟩
  have hTl : ({ s with heap := s.heap.push { cls := .type "dict", data := .dict #[] } } : Shared).TypeIs (.ref l) "list" := ⟨_, e', rfl⟩
  refine ⟨hT, F.args_dict_init_2 _ _, ?_⟩
  unfold Builtin.«dict.__init__»
  refine wpAny_bind ?_
  unfold Builtin.Dict.selfAndRest
  refine wpAny_bind (wpAny_notOrdered_dict hT ?_)
  show wpAny _ _ (pure (s.heap.objs.size, [Value.ref l])) _ _ _
  refine wpAny_pure ?_
  show wpAny _ _ (Builtin.Dict.updateFrom "dict.__init__" s.heap.objs.size (.ref l) [] .none) _ _ _
  unfold Builtin.Dict.updateFrom
  refine wpAny_bind (wpAny_typeOf hTl ?_)
  rw [if_pos (by decide)]
  refine wpAny_bind (dm_keysS e' (I.ok.hd hc) fun h2 t2 hk2 => ?_)
  rw [if_pos (show (none : Option Value).isNone = true from rfl)]
  have I2 := I1.kept (t' := t2) hk2
  have hH1 : (upd H s.heap.objs.size (.dK [])) l = some (.lst (qs.map V.ref)) := by rw [upd_ne (Ne.symm npl)]; exact hH
  obtain ⟨its', rv', pl, hz'⟩ := I2.list (SqL.of hH1)
  have hL := pl.isList
  refine wpAny_bind (wpAny_rule (wpAny_bind (wpAny_pyIter_list hL ?_)))
  have hfr : (upd H s.heap.objs.size (.dK [])) h2.objs.size = none := I2.hok.fresh (Nat.le_refl _)
  have ndi : s.heap.objs.size ≠ h2.objs.size := ne_of_none (H := upd H s.heap.objs.size (.dK [])) upd_same hfr
  have nxi : l ≠ h2.objs.size := ne_of_none hH1 hfr
  refine wpAny_pure ⟨plainId_quiet F.plain_dul _, ?_⟩
  refine dul_loopK (X := X) (pins := pins) (σ := σ) (A := X.A.in1) (its := its') (qs := qs) (ps := ps) (I.ok.hd hc) nxi ndi npl rv' qs.length 0 _ (upd H s.heap.objs.size (.dK [])) [] 0 (by omega) (Nat.zero_le _) (I2.kept (t' := t2) fun _ _ q => Heap.get?_push_of_some _ q) (I2.fpOk (Nat.le_refl _) hfr) upd_same hP1 ⟨⟨_, Heap.get?_push_size _ rfl, rfl, rfl⟩, hL.push _⟩ (by show 0 + (qs.length - 0) < sizeLine; omega) ?_
  · intro h' t' I'
    rw [upd_upd, List.drop_zero] at I'
    exact ⟨rfl, .ref s.heap.objs.size, _, I', rfl, q _ hp0⟩
end
end L2
namespace L2
open PySem PySem.Spec PySem.W PyProof.Rows
def KeyFG (X : Cx) (f : Value) (pins : List (Addr × Obj)) (σ : St) (H : Hp) (xs : List V) (kf : V → Int × Str) : Prop :=
  ∀ (more : List (Addr × Obj)) (s : Shared) (H1 : Hp) (x : V) (u : Value), x ∈ xs → RelV x u → Inv X.i2 (pins ++ more) σ H1 s → Same H H1 →
    wpAny (model X.prog X.w) X.i2.A (call f [u]) (fun v s' => ∃ p H2, v = .ref p ∧ Same H1 H2 ∧ H2 p = some (.tup [.int (kf x).1, .str (kf x).2]) ∧ Inv X.i2 (pins ++ more) σ H2 s') (fun _ _ => False) s
section
variable {X : Cx} {pins : List (Addr × Obj)} {σ : St} {E : Value → Shared → Prop}
theorem loopSG {f : Value} {H : Hp} {names : List V} {kf : V → Int × Str} {a kS : Addr} {e1 : Nat} {body : Value → PUnit → Sem (ForInStep PUnit)} (hK : KeyFG X f pins σ H names kf) (hne : kS ≠ a)
    (hb : ∀ x (s : Shared) (R : Value → Shared → Prop), wpAny (model X.prog X.w) X.i2.A (call f [x]) (fun k s' => ∃ ks e, s'.heap.get? kS = some (seqObj "list" (List.toArray ks) e) ∧ ks.length < 64 ∧
        ∀ h' c, Heap.SameBut kS s'.heap h' → h'.get? kS = some (seqObj "list" (List.toArray (ks ++ [k])) c) → R k { s' with heap := h' }) (fun _ _ => False) s →
      wpAny (model X.prog X.w) X.i2.A (body x ⟨⟩) (fun r s' => r = .yield ⟨⟩ ∧ ∃ k, R k s') E s) :
    ∀ (nr : List V) (r ks : List Value) (ps : List (Int × Str)) (s : Shared) (H1 : Hp) (e : Nat), Vals (nr) r → (∀ x ∈ nr, x ∈ names) → Inv X pins σ H1 s → Same H H1 → (∀ b ∈ [a, kS], FpOk X pins H1 b) →
      s.heap.get? a = some (seqObj "list" #[] e1) → s.heap.get? kS = some (seqObj "list" (List.toArray ks) e) → KeysH H1 ks ps → ks.length + r.length < 64 →
      wpAny (model X.prog X.w) X.i2.A (forIn r PUnit.unit body) (fun _ s' => ∃ ks' H2 e', Inv X pins σ H2 s' ∧ Same H H2 ∧ (∀ b ∈ [a, kS], FpOk X pins H2 b) ∧ s'.heap.get? a = some (seqObj "list" #[] e1) ∧
        s'.heap.get? kS = some (seqObj "list" (List.toArray ks') e') ∧ ks'.length = ks.length + r.length ∧ KeysH H2 ks' (ps ++ nr.map kf)) E s
  | [], r, ks, ps, s, H1, e, rv, _, I, sm, fp, ha, hk, kh, hl => by
    cases rv
    rw [List.forIn_nil]
    exact wpAny_pure ⟨ks, H1, e, I, sm, fp, ha, hk, by simp, by simpa using kh⟩
  | x :: nr, r, ks, ps, s, H1, e, rv, sub, I, sm, fp, ha, hk, kh, hl => by
    obtain ⟨u, r', er, ru, rv'⟩ : ∃ u r', r = u :: r' ∧ RelV x u ∧ Vals (nr) r' := by
      cases rv with
      | cons a b => exact ⟨_, _, rfl, a, b⟩
    subst er
    rw [List.forIn_cons]
    have ob : ∀ b ∈ [a, kS], ∃ o, s.heap.get? b = some o ∧ ∀ v, o.data ≠ .cell v := fun b hb => by
      simp only [List.mem_cons, List.not_mem_nil, or_false] at hb
      rcases hb with q | q <;> subst q
      · exact ⟨_, ha, fun v q => by cases q⟩
      · exact ⟨_, hk, fun v q => by cases q⟩
    have Ip := I.pinned fp ob
    refine wpAny_bind (wpAny_mono (hb _ s (fun k s' => ∃ ks' ps' H2 e', k = k ∧ Inv X pins σ H2 s' ∧ Same H H2 ∧ (∀ b ∈ [a, kS], FpOk X pins H2 b) ∧ s'.heap.get? a = some (seqObj "list" #[] e1) ∧ s'.heap.get? kS = some (seqObj "list" (List.toArray ks') e') ∧
        ks'.length = ks.length + 1 ∧ ps' = ps ++ [kf x] ∧ KeysH H2 ks' ps')
      (wpAny_mono (hK (pinsAt [a, kS] s.heap) s H1 x u (sub x (List.mem_cons_self ..)) ru Ip.i1.i1 sm) (fun v s2 hq => ?_) fun _ _ z => z)) (fun q s' hq => ?_) fun _ _ z => z)
    · obtain ⟨p, H2, ev, sm2, hp, I2⟩ := hq
      subst ev
      have I3' : Inv X (pins ++ pinsAt [a, kS] s.heap) σ H2 s2 := (I2.o1 Ip.i1.ok.hd Ip.i1.ok.frames).o1 Ip.ok.hd Ip.ok.frames
      have pin : ∀ b o, b ∈ [a, kS] → s.heap.get? b = some o → s2.heap.get? b = some o ∧ H2 b = none := fun b o hb e => by
        have z := I3'.pin (b, o) (List.mem_append_right _ (List.mem_append_right _ (mem_pinsAt hb e)))
        exact ⟨z.1, z.2.1⟩
      have fp2 : ∀ b ∈ [a, kS], FpOk X pins H2 b := fun b hb => by
        obtain ⟨o, e, _⟩ := ob b hb
        exact ⟨(pin b o hb e).2, (fp b hb).2⟩
      have I3 : Inv X pins σ H2 s2 := I3'.unpinned
      refine ⟨ks, e, (pin kS _ (by simp) hk).1, by omega, fun h' c sb hk' => ⟨ks ++ [.ref p], _, H2, c, rfl, ?_, sm.trans sm2, fp2, (sb.2 a (Ne.symm hne)).trans (pin a _ (by simp) ha).1, hk', by simp, rfl, (kh.keep sm2).snoc hp⟩⟩
      exact I3.turnedL (t' := s2.toks) (ch := [a, kS]) (fun b o hb e => (sb.2 b (fun q => hb (by simp [q]))).trans e) fp2
    · obtain ⟨rfl, k, ks', ps', H2, e', _, I2, sm2, fp2, ha2, hk2, l2, ep, kh2⟩ := hq
      subst ep
      show wpAny (model X.prog X.w) X.i2.A (forIn r' PUnit.unit body) _ E s'
      refine wpAny_mono (loopSG hK hne hb nr r' ks' _ s' H2 e' rv' (fun y hy => sub y (List.mem_cons_of_mem _ hy)) I2 sm2 fp2 ha2 hk2 kh2 (by rw [List.length_cons] at hl; omega)) (fun _ s3 hq => ?_) fun _ _ z => z
      obtain ⟨ks3, H3, e3, b1, b2, b3, b4, b5, b6, b7⟩ := hq
      refine ⟨ks3, H3, e3, b1, b2, b3, b4, b5, by rw [List.length_cons]; omega, ?_⟩
      rw [List.map_cons]
      rw [List.append_assoc] at b7
      exact b7
end
theorem vals_getG {P : List V} : ∀ {us : List Value}, Vals P us → ∀ (p : List Nat), Vals (p.map fun i => P.getD i V.non) (p.map fun i => us.getD i Value.none) ∨ ∃ i ∈ p, P.length ≤ i := by
  intro us r p
  induction p with
  | nil => exact .inl .nil
  | cons i p ih =>
    rcases ih with ih | ⟨j, hj, l⟩
    · by_cases hi : i < P.length
      · refine .inl (.cons ?_ ih)
        obtain ⟨u, hu, ru⟩ := r.get (i := i) (x := P[i]) (by simp [hi])
        show RelV (P.getD i V.non) (us.getD i Value.none)
        rw [show us.getD i Value.none = u by simp [List.getD, hu], show P.getD i V.non = P[i] by simp [List.getD, hi]]
        exact ru
      · exact .inr ⟨i, List.mem_cons_self .., by omega⟩
    · exact .inr ⟨j, List.mem_cons_of_mem _ hj, l⟩
theorem map_rangeG {names : List V} : (List.range names.length).map (fun i => names.getD i V.non) = names := by
  apply List.ext_getElem?
  intro i
  by_cases hi : i < names.length
  · simp [hi, List.getD]
  · simp [hi]
section
variable {X : Cx} {pins : List (Addr × Obj)} {σ : St} {E : Value → Shared → Prop}
theorem call_sortKG {f : Addr} {names : List V} {kf : V → Int × Str} {l : Addr} {H : Hp} {s : Shared} {Q : VK} (I : Inv X pins σ H s) (hS : SqL X.K H l names) (h64 : names.length < 64) (hK : KeyFG X (.ref f) pins σ H names kf)
    (q : ∀ (D : Addr) (out : List V) (H2 : Hp), H2 D = none → Same H H2 → out.Perm names → out.Pairwise (fun x y => DV.lexLt (kf y) (kf x) = false) → Q (.ref D) (upd H2 D (.lst out))) :
    wpAny (model X.prog X.w) X.A (call (.builtin "sorted") [.ref l] [(Str.ofString "key", .ref f)]) (EP X pins σ Q) E s := by
  obtain ⟨vs, rv, pl, hz⟩ := I.list hS
  have hlen : names.length = vs.length := by rw [← rv.length]
  have hl := pl.isList
  refine call_function_entry_kw kind_sorted plain_sorted entry_sorted (ksk_s1 _ _) ?_
  unfold Builtin.«sorted»
  refine wpAny_bind (m := checkCount "sorted" 1 1 _) (wpAny_pure ?_)
  refine wpAny_bind (collect_list hl ?_ (by rw [sizeLine_eq]; omega))
  refine wpAny_bind (wpAny_newList ?_ (by rw [sizeLine_eq]; omega))
  have hsz : ((s.heap.push (seqObj "list" #[] 0)).update s.heap.objs.size (Obj.mapSeq (· ++ vs.toArray))).objs.size = s.heap.objs.size + 1 := by
    rw [Heap.size_update, size_push']
  have hoL : (((s.heap.push (seqObj "list" #[] 0)).update s.heap.objs.size (Obj.mapSeq (· ++ vs.toArray))).push (seqObj "list" vs.toArray 0)).get? (s.heap.objs.size + 1) = some (seqObj "list" vs.toArray 0) := by
    rw [← hsz]; exact Heap.get?_push_size _ rfl
  have keep : ∀ b o, s.heap.get? b = some o → (((s.heap.push (seqObj "list" #[] 0)).update s.heap.objs.size (Obj.mapSeq (· ++ vs.toArray))).push (seqObj "list" vs.toArray 0)).get? b = some o := fun b o q => by
    have hlt : b < s.heap.objs.size := Heap.lt_size q
    rw [Heap.get?_push_ne _ _ _ (by rw [hsz]; exact Nat.ne_of_lt (Nat.lt_succ_of_lt hlt)), Heap.get?_update_ne _ _ _ _ (Nat.ne_of_lt hlt), Heap.get?_push_ne _ _ _ (Nat.ne_of_lt hlt)]
    exact q
  have hsz2 : (((s.heap.push (seqObj "list" #[] 0)).update s.heap.objs.size (Obj.mapSeq (· ++ vs.toArray))).push (seqObj "list" vs.toArray 0)).objs.size = s.heap.objs.size + 2 := by rw [size_push', hsz]
  show wpAny _ _ _ _ _ { s with heap := ((s.heap.push (seqObj "list" #[] 0)).update s.heap.objs.size (Obj.mapSeq (· ++ vs.toArray))).push (seqObj "list" vs.toArray 0) }
  rw [hsz]
  generalize ((s.heap.push (seqObj "list" #[] 0)).update s.heap.objs.size (Obj.mapSeq (· ++ vs.toArray))).push (seqObj "list" vs.toArray 0) = g1 at *
  refine wpAny_bind (wpAny_holding (wpAny_call_entry_kw slot_list_sort ⟨_, hoL, rfl⟩ entry_list_sort ?body (ksk_l1 _ _)))
  case body =>
    show wpAny (model X.prog X.w) X.A.in1.in1 (Builtin.«list.sort» ⟨[.ref (s.heap.objs.size + 1)], [(Str.ofString "key", .ref f)]⟩) _ _ _
    rw [ksk_t1]
    have s1 := Heap.SameBut.update g1 (s.heap.objs.size + 1) (Obj.mapSeq fun _ => (#[] : Array Value))
    obtain ⟨e1, ho1⟩ : ∃ e1, (g1.update (s.heap.objs.size + 1) (Obj.mapSeq fun _ => (#[] : Array Value))).get? (s.heap.objs.size + 1) = some (seqObj "list" #[] e1) := ⟨_, get?_update_seq hoL fun _ => #[]⟩
    have hkS : ((g1.update (s.heap.objs.size + 1) (Obj.mapSeq fun _ => (#[] : Array Value))).push (seqObj "tuple" vs.toArray 0)).objs.size = s.heap.objs.size + 3 := by rw [size_push', Heap.size_update, hsz2]
    unfold ksk_tree
    refine wpAny_bind (listItems_at hoL rfl ?_)
    refine wpAny_bind (listUpdate_at hoL rfl ?_ (by rw [List.size_toArray, sizeLine_eq]; omega) (Nat.zero_le _))
    refine wpAny_bind (seqEpoch_at ho1 rfl ?_)
    refine wpAny_bind (wpAny_newTuple ?_ (by show vs.length ≤ _; rw [sizeLine_eq]; omega))
    refine wpAny_bind (wpAny_newList ?_ (Nat.zero_le _))
    refine wpAny_holding ?_
    have keep4 : ∀ b o, s.heap.get? b = some o → (((g1.update (s.heap.objs.size + 1) (Obj.mapSeq fun _ => (#[] : Array Value))).push (seqObj "tuple" vs.toArray 0)).push (seqObj "list" #[] 0)).get? b = some o := fun b o e =>
      Heap.get?_push_of_some _ (Heap.get?_push_of_some _ ((s1.2 b (Nat.ne_of_lt (Nat.lt_succ_of_lt (Heap.lt_size e)))).trans (keep b o e)))
    have ha4 := Heap.get?_push_of_some (seqObj "list" #[] 0) (Heap.get?_push_of_some (seqObj "tuple" vs.toArray 0) ho1)
    have hk4 : (((g1.update (s.heap.objs.size + 1) (Obj.mapSeq fun _ => (#[] : Array Value))).push (seqObj "tuple" vs.toArray 0)).push (seqObj "list" #[] 0)).get? (s.heap.objs.size + 3) = some (seqObj "list" #[] 0) := by
      rw [← hkS]; exact Heap.get?_push_size _ rfl
    show wpAny _ _ (ksk_rest (s.heap.objs.size + 1) (.ref f) false vs.toArray e1 (.ref ((g1.update (s.heap.objs.size + 1) (Obj.mapSeq fun _ => (#[] : Array Value))).push (seqObj "tuple" vs.toArray 0)).objs.size)) _ _ { s with heap := ((g1.update (s.heap.objs.size + 1) (Obj.mapSeq fun _ => (#[] : Array Value))).push (seqObj "tuple" vs.toArray 0)).push (seqObj "list" #[] 0) }
    rw [hkS]
    generalize ((g1.update (s.heap.objs.size + 1) (Obj.mapSeq fun _ => (#[] : Array Value))).push (seqObj "tuple" vs.toArray 0)).push (seqObj "list" #[] 0) = g4 at *
    have I4 : Inv X pins σ H { s with heap := g4 } := I.kept (t' := s.toks) keep4
    have fp : ∀ b ∈ [s.heap.objs.size + 1, s.heap.objs.size + 3], FpOk X pins H b := fun b hb => by
      have ge : s.heap.objs.size ≤ b := by
        simp only [List.mem_cons, List.not_mem_nil, or_false] at hb
        rcases hb with q | q <;> rw [q] <;> omega
      exact I.fpOk ge (I.hok.fresh ge)
    have hne : s.heap.objs.size + 3 ≠ s.heap.objs.size + 1 := by omega
    generalize s.heap.objs.size + 1 = D at *
    generalize s.heap.objs.size + 3 = kS at *
    unfold ksk_rest
    refine wpAny_bind (wpAny_rule ?_)
    first
      | rw [List.forIn_toArray]
      | (rw [← Array.forIn_toList]; simp only [List.toList_toArray])
      | rw [← Array.forIn_toList]
    refine wpAny_bind (wpAny_mono (loopSG (a := D) (kS := kS) (e1 := e1) hK hne (fun x s' R hx => ?_) names vs [] [] _ H 0 rv (fun _ h => h) I4 (Same.refl H) fp ha4 hk4 ⟨rfl, fun i k p e => by simp at e⟩ (by simp; omega)) (fun _ s' hd => ?_) fun _ _ x => x)
    · refine wpAny_bind (wpAny_attempt (wpAny_mono hx (fun k s'' hk => ?_) fun _ _ hF => hF.elim))
      obtain ⟨ks, e, hk1, hkl, c⟩ := hk
      have s1 := Heap.SameBut.update s''.heap kS (Obj.mapSeq (·.push k))
      have ea : (List.toArray ks).push k = List.toArray (ks ++ [k]) := by simp
      obtain ⟨c2, hc2⟩ : ∃ c2, (s''.heap.update kS (Obj.mapSeq (·.push k))).get? kS = some (seqObj "list" (List.toArray (ks ++ [k])) c2) := ⟨_, by rw [← ea]; exact get?_update_seq hk1 (·.push k)⟩
      try dsimp only
      refine wpAny_bind (listUpdate_at hk1 rfl ?_ (by rw [List.size_toArray, sizeLine_eq]; omega) (Nat.le_trans (Nat.le_of_eq (Array.size_push ..)) (by rw [List.size_toArray, sizeLine_eq]; omega)))
      exact wpAny_pure ⟨rfl, k, c _ c2 s1 hc2⟩
    · obtain ⟨ks, H2, e', I2, sm, fp2, ha2, hk2, hl2, kh⟩ := hd
      try dsimp only
      refine wpAny_bind (listItems_at hk2 rfl ?_)
      rw [List.nil_append] at kh
      refine DV.endS (by simpa using hl2) (by omega) ha2 hk2 hne (kh.at I2) fun p hp hs h5 c5 hb5 hc5 => ⟨_, rfl, wpAny_pure ⟨_, rfl, ?_⟩⟩
      have hpl : p.toList.Perm (List.range vs.length) := by simpa using hp.toList
      have hin : ∀ i ∈ p.toList, i < vs.length := fun i hi => List.mem_range.mp (hpl.mem_iff.mp hi)
      have rv5 := (vals_getG rv p.toList).resolve_right fun ⟨i, hi, l⟩ => by have := hin i hi; omega
      refine ⟨.ref D, _, I2.adopt (t' := s'.toks) (ch := [D, kS]) (a := D) (o := .lst (p.toList.map fun i => names.getD i V.non)) (fun b u hb e => (hb5 b (fun z => hb (by simp [z])) (fun z => hb (by simp [z]))).trans e) fp2 (by simp) ⟨?_, _, c5, rv5, hc5⟩, rfl, q D _ H2 (fp2 D (by simp)).1 sm ?_ ?_⟩
      · rw [List.length_map, hpl.length_eq, List.length_range, sizeLine_eq]; omega
      · have := hpl.map fun i => names.getD i V.non
        rw [← hlen, map_rangeG] at this
        exact this
      · rw [List.pairwise_map, List.pairwise_iff_getElem]
        intro i j hi hj hij
        have hj2 : j < p.size := by simpa using hj
        have hi2 : i < p.size := by simpa using hi
        have hps : p.size = vs.length := by rw [hp.size_eq]; simp
        have := hs i j (by omega) (by omega)
        have ei : p.getD i 0 = p.toList[i] := by simp [Array.getD, hi2]
        have ej : p.getD j 0 = p.toList[j] := by simp [Array.getD, hj2]
        rw [ei, ej] at this
        have li := hin _ (List.getElem_mem hi)
        have lj := hin _ (List.getElem_mem hj)
        have f : ∀ k, k < vs.length → (names.map kf).getD k (0, "") = kf (names.getD k V.non) := fun k hk => by
          have : k < names.length := by omega
          simp [List.getD, this]
        rw [f _ li, f _ lj] at this
        exact this
end
end L2
namespace L2
open PySem PySem.Spec PySem.W PyProof.Rows
def KeyOkT (sp : Sp) (H : Hp) (xs : List V) (kf : V → Int × Str) : Prop := ∀ (x : V) (H' : Hp) (Q : VK), x ∈ xs → Same H H' → (∀ p H'', Same H' H'' → H'' p = some (.tup [.int (kf x).1, .str (kf x).2]) → Q (.ref p) H'') → sp [x] H' Q E0
def rSortD (K : PySem.W.Frag) (f : Addr) (sp : Sp) : List V → List V → Hp → VK → Prop := fun xs ws H Q => ∃ (l : Addr) (ys : List V) (kf : V → Int × Str), xs = [.ref l] ∧ ws = [.ref f] ∧ SqL K H l ys ∧ ys.length < 64 ∧ KeyOkT sp H ys kf ∧
  ∀ (D : Addr) (out : List V) (H2 : Hp), H2 D = none → Same H H2 → out.Perm ys → out.Pairwise (fun x y => DV.lexLt (kf y) (kf x) = false) → Q (.ref D) (upd H2 D (.lst out))
def tSortD (K : PySem.W.Frag) (f : Addr) (sp : Sp) (ta tk : TA) : TE := fun σ H Q => ta σ H fun vs H1 => tk σ H1 fun ws H2 => rSortD K f sp vs ws H2 Q
section
variable {X : Cx}
theorem pe_sortD {k : Nat} {f : Addr} {fd : FuncData} {p0 : Str} {sp : Sp} {l : Expr} {kws : List Keyword} {ta tk : TA} {p pos : Pos} (G : FnOk X.prog X.w X.K X.mg X.base CX0 k f fd [p0] sp) (hr : Room (k + 2) X.A) (hb : Binds X.K fd [p0] [])
    (hg : Gl X "sorted") (hm : X.mg "sorted" = none) (ha : PA X [l] ta) (hk : PK X kws tk) (hks : (backToKw pos (keywordEach kws X.env)).filterMap (·.1) = [Str.ofString "key"] := by rfl)
    (he : backTo pos (starEach [l] X.env) = (false, eval l X.env) :: backTo pos (starEach [] X.env) := by rfl) (hpl : (backTo pos (starEach [l] X.env)).any (·.1) = false := by rfl)
    (hall : (backToKw pos (keywordEach kws X.env)).all (·.1.isSome) = true := by rfl) (hkw : (backToKw pos (keywordEach kws X.env)).any (·.1.isNone) = false := by rfl) :
    PE X (.Call (.Name "sorted" p) [l] kws pos) (tSortD X.K f sp ta tk) := by
  intro pins s σ H Q I h
  refine wpAny_Call_Name_kw (ld_blt I hg hm PyProof.Rows.boot_sorted (callWith_bK (thn (ha pos pins s σ H _ I h) fun us s1 ⟨vs, H1, I1, r1, q1⟩ => thn (hk pos pins s1 σ H1 _ I1 q1) fun ks s2 ⟨ws, H2, I2, r2, q2⟩ => ?_) he hpl hall hkw))
  rw [hks]
  obtain ⟨la, ys, kf, e1, e2, hS, h64, hK, q⟩ := q2
  subst e1 e2
  obtain ⟨u, e3, ru⟩ := vals1 r1
  subst e3
  obtain rfl : u = Value.ref la := ru
  obtain ⟨v, e4, rv⟩ := vals1 r2
  subst e4
  obtain rfl : v = Value.ref f := rv
  refine call_sortKG (X := X) (names := ys) (kf := kf) I2 hS h64 ?_ q
  intro more s4 H4 x u hx rx I4 sm
  refine wpAny_mono (run_fn (X := X.i2) (us := [u]) (vs := [x]) (Q := fun v H2 => ∃ p, v = .ref p ∧ Same H4 H2 ∧ H2 p = some (.tup [.int (kf x).1, .str (kf x).2])) (E := E0) G hr.in1.in1 hb .nil pass0 I4 (.cons rx .nil) (hK x H4 _ hx sm fun p H5 s5 h5 => ⟨p, rfl, s5, h5⟩)) (fun v s5 hq => ?_) fun _ _ z => z.elim
  obtain ⟨y, H5, I5, ry, p, ey, s5', h5⟩ := hq
  subst ey
  obtain rfl : v = Value.ref p := ry
  exact ⟨p, H5, rfl, s5', h5, I5⟩
end
end L2
namespace DV
open PySem PySem.W PyProof.Rows
section
variable {prog : Program} {w : World} {A : Around} {E : Value → Shared → Prop} {s : Shared}
end
end DV
namespace L2
open PySem PySem.Spec PySem.W PyProof.Rows
section
variable {X : Cx}
end
end L2
namespace L2
open PySem PySem.Spec PySem.W PyProof.Rows
section
variable {X : Cx} {e st : Expr} {te : TE} {tst : TO} {p2 pos : Pos}
end
theorem comp_itemsF {K : PySem.W.Frag} {a : Addr} {o : Obj} {kvs : List (Key × V)} {tt : TT} {te : TE} {σ : St} {H : Hp} {Q : VK} (Pv : Addr → Nat → List V → Hp → Prop) (hn : kvs.length < sizeLine) (h0 : ∀ D, H D = none → Pv D 0 [] (upd H D (.lst [])))
    (hs : ∀ D i l H', Pv D i l H' → H' a = some (.frz o (.dK kvs))) (hl : ∀ D i l H', Pv D i l H' → l.length ≤ i)
    (he : ∀ (D : Addr) (i : Nat) (k : Key) (v : V) (p : Addr) (l : List V) (H' : Hp) (Q1 : Bool → Hp → Prop), kvs[i]? = some (k, v) → H' p = none → Pv D i l H' →
      (∀ b H2, (b = false → Pv D (i + 1) l H2) → (b = true → ∀ Q' : VK, (∀ y H3, H3 D = some (.lst l) → Pv D (i + 1) (l ++ [y]) (upd H3 D (.lst (l ++ [y]))) → Q' y H3) → te (some (kV k) :: some v :: σ) H2 Q') → Q1 b H2) → tt (some (kV k) :: some v :: σ) (upd H' p (.tup [kV k, v])) Q1)
    (hd : ∀ D l H', H D = none → Pv D kvs.length l H' → Q (.ref D) H') : CompGoN (Itd a o kvs) H 2 σ (gTwo K) tt te Q := by
  intro D hD
  refine ⟨fun i m H' => m = kvs.length - i ∧ i ≤ kvs.length ∧ ∃ l, Pv D i l H', ⟨kvs.length, by omega, Nat.zero_le _, [], h0 D hD⟩, ?_⟩
  rintro i m H' ⟨rfl, hi, l, hp⟩
  have q := hs D i l H' hp
  by_cases hlt : i < kvs.length
  · refine .inr ⟨⟨q, hlt⟩, fun x H2 ρ lρ y => ?_⟩
    obtain ⟨b, k, v, e1, hb, e3, e2⟩ := y
    subst e1 e2
    match ρ, lρ with
    | [r0, r1], _ =>
      refine ⟨b, _, rfl, SqT.of upd_same, rfl, _, _, rfl, _, _, rfl, rfl, ⟨[some (kV k), some v], rfl, rfl⟩, ?_⟩
      refine he D i k v b l H' _ e3 hb hp fun c H3 hf ht => ?_
      cases c with
      | false =>
        refine iteF ?_
        exact ⟨kvs.length - (i + 1), by omega, rfl, hlt, l, hf rfl⟩
      | true =>
        refine iteT (ht rfl _ fun v H4 z1 z2 => ?_)
        have hl2 := hl D i l H' hp
        exact ⟨l, z1, Nat.lt_of_le_of_lt hl2 (by omega), kvs.length - (i + 1), by omega, rfl, hlt, l ++ [v], z2⟩
  · have e : i = kvs.length := by omega
    subst e
    exact .inl ⟨⟨q, Nat.le_refl _⟩, hd D l H' hD hp⟩
end L2
namespace DV
open PySem PySem.W PyProof.Rows
section
variable {prog : Program} {w : World} {A : Around} {E : Value → Shared → Prop} {s : Shared}
theorem sortN {a : Addr} {n : Nat} {vs : List Value} {κ : SortKind} {lt : Nat → Nat → Bool} {P : PySem.Fin → Shared → Prop} (ho : s.heap.get? a = some (seqObj "list" vs.toArray n)) (h64 : vs.length < 64) (hO : Ord lt vs.length)
    (hK : ∀ h : Heap, (∀ b o, b ≠ a → s.heap.get? b = some o → h.get? b = some o) → 2 ≤ vs.length → ∀ (E : Value → Shared → Prop) (Q : SortKind → Shared → Prop), Q κ { s with heap := h } → wpAny (model prog w) A (keyKind' vs.toArray) Q E { s with heap := h })
    (hC : ∀ h : Heap, (∀ b o, b ≠ a → s.heap.get? b = some o → h.get? b = some o) → ∀ i j, i < vs.length → j < vs.length → ∀ (E : Value → Shared → Prop) (Q : Bool → Shared → Prop), Q (lt i j) { s with heap := h } → wpAny (model prog w) A (keyLt' κ (vs.getD i Value.none) (vs.getD j Value.none)) Q E { s with heap := h })
    (h : ∀ (p : Array Nat), p.Perm (List.toArray (List.range vs.length)) → (∀ i j, i ≤ j → j < vs.length → lt (p.getD j 0) (p.getD i 0) = false) →
      ∀ h' c, (∀ b o, b ≠ a → s.heap.get? b = some o → h'.get? b = some o) → h'.get? a = some (seqObj "list" (List.toArray (p.toList.map fun i => vs.getD i Value.none)) c) → P (.done (.ret .none)) { s with heap := h' }) :
    wpAny (model prog w) A (Builtin.«list.sort» ⟨[.ref a], []⟩) P E s := by
  have ha : a < s.heap.objs.size := Heap.lt_size ho
  have s1 := Heap.SameBut.update s.heap a (Obj.mapSeq fun _ => (#[] : Array Value))
  obtain ⟨e1, ho1⟩ : ∃ e1, (s.heap.update a (Obj.mapSeq fun _ => (#[] : Array Value))).get? a = some (seqObj "list" #[] e1) := ⟨_, get?_update_seq ho fun _ => #[]⟩
  rw [list_sort_plain]
  refine wpAny_bind (listItems_at ho rfl ?_)
  refine wpAny_bind (listUpdate_at ho rfl ?_ (by rw [List.size_toArray, sizeLine_eq]; omega) (Nat.zero_le _))
  refine wpAny_bind (seqEpoch_at ho1 rfl ?_)
  refine wpAny_bind (wpAny_newTuple ?_ (by show vs.length ≤ _; rw [sizeLine_eq]; omega))
  refine wpAny_bind (wpAny_newList ?_ (Nat.zero_le _))
  refine wpAny_holding ?_
  show wpAny (model prog w) A _ P E { s with heap := ((s.heap.update a (Obj.mapSeq fun _ => (#[] : Array Value))).push (seqObj "tuple" vs.toArray 0)).push (seqObj "list" #[] 0) }
  dsimp only
  have keep : ∀ b o, b ≠ a → s.heap.get? b = some o → (((s.heap.update a (Obj.mapSeq fun _ => (#[] : Array Value))).push (seqObj "tuple" vs.toArray 0)).push (seqObj "list" #[] 0)).get? b = some o := fun b o hb e =>
    Heap.get?_push_of_some _ (Heap.get?_push_of_some _ ((s1.2 b hb).trans e))
  have ha4 := Heap.get?_push_of_some (seqObj "list" #[] 0) (Heap.get?_push_of_some (seqObj "tuple" vs.toArray 0) ho1)
  generalize ((s.heap.update a (Obj.mapSeq fun _ => (#[] : Array Value))).push (seqObj "tuple" vs.toArray 0)).push (seqObj "list" #[] 0) = g at *
  have tail : ∀ (p : Array Nat) (st' : SortSt), p.Perm (List.toArray (List.range vs.length)) → (∀ i j, i ≤ j → j < vs.length → lt (p.getD j 0) (p.getD i 0) = false) → (arrOf st').map (·.2) = List.toArray (p.toList.map fun i => vs.getD i Value.none) → failedOf st' = none →
      ∀ h' c, h' = g.update a (Obj.mapSeq fun _ => List.toArray (p.toList.map fun i => vs.getD i Value.none)) → h'.get? a = some (seqObj "list" (List.toArray (p.toList.map fun i => vs.getD i Value.none)) c) → P (.done (.ret .none)) { s with heap := h' } := fun p st' hp hs _ _ h' c eh hc =>
    h p hp hs h' c (fun b o hb e => by rw [eh]; exact ((Heap.SameBut.update g a _).2 b hb).trans (keep b o hb e)) hc
  by_cases h2 : vs.length < 2
  · have hn2 : vs.toArray.size < 2 := by rw [List.size_toArray]; exact h2
    rw [if_pos hn2, if_pos hn2]
    refine wpAny_bind (wpAny_pure ?_)
    refine wpAny_bind (wpAny_pure ?_)
    try dsimp only
    have hr : (List.toArray (List.range vs.length)).toList.map (fun i => vs.getD i Value.none) = vs := by
      apply List.ext_getElem?
      intro i
      by_cases hi : i < vs.length
      · simp [hi, List.getD]
      · simp [hi]
    have hout : (arrOf (SortSt.mk' general' (vs.toArray.zip vs.toArray) #[] 7 none)).map (·.2) = List.toArray ((List.toArray (List.range vs.length)).toList.map fun i => vs.getD i Value.none) := by
      rw [hr]
      show (vs.toArray.zip vs.toArray).map (·.2) = _
      apply Array.toList_inj.mp
      rw [Array.toList_map, ksk_zip]
      exact List.map_snd_zip (Nat.le_refl _)
    obtain ⟨c2, hc2⟩ : ∃ c2, (g.update a (Obj.mapSeq fun _ => List.toArray ((List.toArray (List.range vs.length)).toList.map fun i => vs.getD i Value.none))).get? a = some (seqObj "list" (List.toArray ((List.toArray (List.range vs.length)).toList.map fun i => vs.getD i Value.none)) c2) := ⟨_, get?_update_seq ha4 fun _ => _⟩
    rw [hout]
    refine wpAny_bind (seqEpoch_at ha4 rfl ?_)
    refine wpAny_bind (listUpdate_at ha4 rfl ?_ (Nat.zero_le _) (by rw [List.size_toArray, hr, sizeLine_eq]; omega))
    simp only [bne_self_eq_false, Bool.false_eq_true, if_false]
    refine wpAny_pure (tail (List.toArray (List.range vs.length)) _ (.refl _) (fun i j hij hj => ?_) hout rfl _ c2 rfl hc2)
    have e0 : i = j := by omega
    rw [e0]
    have hj0 : j = 0 := by omega
    have : (List.toArray (List.range vs.length)).getD j 0 = j := by simp [Array.getD, hj]
    rw [this]
    exact hO.irr j hj
  · have hn2 : ¬ vs.toArray.size < 2 := by rw [List.size_toArray]; exact h2
    rw [if_neg hn2, if_neg hn2]
    refine wpAny_bind (hK g keep (by omega) _ _ ?_)
    refine wpAny_bind (wpAny_mono (kat_run (Q := fun st' s' => ∃ p : Array Nat, arrOf st' = p.map (kas_item (vs.toArray.zip (List.toArray vs))) ∧ failedOf st' = none ∧ s' = { s with heap := g } ∧
      p.Perm (List.toArray (List.range vs.length)) ∧ ∀ i j, i ≤ j → j < vs.length → lt (p.getD j 0) (p.getD i 0) = false)
      (G := fun p s' => s' = { s with heap := g } ∧ p.Perm (List.toArray (List.range vs.length)) ∧ ∀ i j, i ≤ j → j < vs.length → lt (p.getD j 0) (p.getD i 0) = false)
      rfl (by omega) h64 (fun p' st' s' _ a2 a3 a4 => ⟨p', a2, a3, a4⟩) ?_) ?_ fun _ _ x => x)
    · refine sort_wp (J := fun s' => s' = { s with heap := g }) (by omega) hO (fun i j hi hj C s' js hc => ?_) rfl fun p hp hs s' js => ⟨js, hp, hs⟩
      subst js
      exact hC g keep i j hi hj _ _ (hc _ rfl)
    · rintro ⟨⟨⟩, st'⟩ s' ⟨p, har, hf, rfl, hp, hs⟩
      try dsimp only
      have hout := kat_snds rfl har
      have hsz : (List.toArray (p.toList.map fun i => vs.getD i Value.none)).size = vs.length := by rw [List.size_toArray, List.length_map, Array.length_toList, hp.size_eq]; simp
      rw [hout]
      obtain ⟨c2, hc2⟩ : ∃ c2, (g.update a (Obj.mapSeq fun _ => List.toArray (p.toList.map fun i => vs.getD i Value.none))).get? a = some (seqObj "list" (List.toArray (p.toList.map fun i => vs.getD i Value.none)) c2) := ⟨_, get?_update_seq ha4 fun _ => _⟩
      refine wpAny_bind (seqEpoch_at ha4 rfl ?_)
      refine wpAny_bind (listUpdate_at ha4 rfl ?_ (Nat.zero_le _) (Nat.le_trans (Nat.le_of_eq hsz) (by rw [sizeLine_eq]; omega)))
      rw [hf]
      simp only [bne_self_eq_false, Bool.false_eq_true, if_false]
      exact wpAny_pure (tail p st' hp hs hout hf _ c2 rfl hc2)
end
end DV
namespace L2
open PySem PySem.Spec PySem.W PyProof.Rows
section
variable {X : Cx} {pins : List (Addr × Obj)} {σ : St} {E : Value → Shared → Prop}
theorem call_sortN {l : Addr} {ys : List V} {κ : SortKind} {lt : Nat → Nat → Bool} {H : Hp} {s : Shared} {Q : VK} (I : Inv X pins σ H s) (hS : SqL X.K H l ys) (h64 : ys.length < 64) (hO : DV.Ord lt ys.length)
    (hK : ∀ (vs : List Value) (s' : Shared), Vals ys vs → (∀ b o, s.heap.get? b = some o → s'.heap.get? b = some o) → 2 ≤ vs.length → ∀ (E : Value → Shared → Prop) (Q : SortKind → Shared → Prop), Q κ s' → wpAny (model X.prog X.w) X.A.in1.in1 (keyKind' vs.toArray) Q E s')
    (hC : ∀ (vs : List Value) (s' : Shared), Vals ys vs → (∀ b o, s.heap.get? b = some o → s'.heap.get? b = some o) → ∀ i j, i < vs.length → j < vs.length → ∀ (E : Value → Shared → Prop) (Q : Bool → Shared → Prop), Q (lt i j) s' → wpAny (model X.prog X.w) X.A.in1.in1 (keyLt' κ (vs.getD i Value.none) (vs.getD j Value.none)) Q E s')
    (q : ∀ (D : Addr) (p : List Nat), H D = none → p.Perm (List.range ys.length) → p.Pairwise (fun i j => lt j i = false) → Q (.ref D) (upd H D (.lst (p.map fun i => ys.getD i V.non)))) :
    wpAny (model X.prog X.w) X.A (call (.builtin "sorted") [.ref l]) (EP X pins σ Q) E s := by
  obtain ⟨vs, rv, pl, hz⟩ := I.list hS
  have hlen : ys.length = vs.length := by rw [← rv.length]
  have hl := pl.isList
  refine Calls.call_function_entry kind_sorted plain_sorted entry_sorted (args_sorted1 _) ?_
  unfold Builtin.«sorted»
  refine wpAny_bind (m := checkCount "sorted" 1 1 _) (wpAny_pure ?_)
  refine wpAny_bind (collect_list hl ?_ (by rw [sizeLine_eq]; omega))
  refine wpAny_bind (wpAny_newList ?_ (by rw [sizeLine_eq]; omega))
  have hsz : ((s.heap.push (seqObj "list" #[] 0)).update s.heap.objs.size (Obj.mapSeq (· ++ vs.toArray))).objs.size = s.heap.objs.size + 1 := by
    rw [Heap.size_update, size_push']
  have hoL : (((s.heap.push (seqObj "list" #[] 0)).update s.heap.objs.size (Obj.mapSeq (· ++ vs.toArray))).push (seqObj "list" vs.toArray 0)).get? (s.heap.objs.size + 1) = some (seqObj "list" vs.toArray 0) := by
    rw [← hsz]; exact Heap.get?_push_size _ rfl
  have keep : ∀ b o, s.heap.get? b = some o → (((s.heap.push (seqObj "list" #[] 0)).update s.heap.objs.size (Obj.mapSeq (· ++ vs.toArray))).push (seqObj "list" vs.toArray 0)).get? b = some o := fun b o q => by
    have hlt : b < s.heap.objs.size := Heap.lt_size q
    rw [Heap.get?_push_ne _ _ _ (by rw [hsz]; exact Nat.ne_of_lt (Nat.lt_succ_of_lt hlt)), Heap.get?_update_ne _ _ _ _ (Nat.ne_of_lt hlt), Heap.get?_push_ne _ _ _ (Nat.ne_of_lt hlt)]
    exact q
  show wpAny _ _ _ _ _ { s with heap := ((s.heap.push (seqObj "list" #[] 0)).update s.heap.objs.size (Obj.mapSeq (· ++ vs.toArray))).push (seqObj "list" vs.toArray 0) }
  rw [hsz]
  generalize ((s.heap.push (seqObj "list" #[] 0)).update s.heap.objs.size (Obj.mapSeq (· ++ vs.toArray))).push (seqObj "list" vs.toArray 0) = g1 at *
  have nD : ∀ b o, s.heap.get? b = some o → b ≠ s.heap.objs.size + 1 := fun b o e => Nat.ne_of_lt (Nat.lt_succ_of_lt (Heap.lt_size e))
  refine wpAny_bind (wpAny_holding (wpAny_call_entry slot_list_sort ⟨_, hoL, rfl⟩ entry_list_sort ?body (args_list_sort _)))
  case body =>
    show wpAny (model X.prog X.w) X.A.in1.in1 (Builtin.«list.sort» ⟨[.ref (s.heap.objs.size + 1)], []⟩) _ _ _
    refine DV.sortN (s := { s with heap := g1 }) (κ := κ) (lt := lt) hoL (by omega) (by rw [← hlen]; exact hO) (fun h hk h2 E Q hq => hK vs _ rv (fun b o e => hk b o (nD b o e) (keep b o e)) h2 E Q hq) (fun h hk i j hi hj E Q hq => hC vs _ rv (fun b o e => hk b o (nD b o e) (keep b o e)) i j hi hj E Q hq) fun p hp hs h' c hk hc => ⟨_, rfl, wpAny_pure ⟨_, rfl, ?_⟩⟩
    have hpl : p.toList.Perm (List.range vs.length) := by simpa using hp.toList
    have hin : ∀ i ∈ p.toList, i < vs.length := fun i hi => List.mem_range.mp (hpl.mem_iff.mp hi)
    have rv5 := (vals_getG rv p.toList).resolve_right fun ⟨i, hi, l⟩ => by have := hin i hi; omega
    refine ⟨.ref (s.heap.objs.size + 1), _, I.laid (a := s.heap.objs.size + 1) (o := .lst (p.toList.map fun i => ys.getD i V.non)) (t' := s.toks) (fun b u e => hk b u (nD b u e) (keep b u e)) (Nat.le_succ _) ⟨?_, _, c, rv5, hc⟩, rfl, q _ p.toList (I.hok.fresh (Nat.le_succ _)) (by rw [hlen]; exact hpl) ?_⟩
    · rw [List.length_map, hpl.length_eq, List.length_range, sizeLine_eq]; omega
    · rw [List.pairwise_iff_getElem]
      intro i j hi hj hij
      have hj2 : j < p.size := by simpa using hj
      have hi2 : i < p.size := by simpa using hi
      have hps : p.size = vs.length := by rw [hp.size_eq]; simp
      have := hs i j (by omega) (by omega)
      have ei : p.getD i 0 = p.toList[i] := by simp [Array.getD, hi2]
      have ej : p.getD j 0 = p.toList[j] := by simp [Array.getD, hj2]
      rw [ei, ej] at this
      exact this
end
def rSortRev (K : PySem.W.Frag) : List V → List V → Hp → VK → Prop := fun xs ws H Q => ∃ (l : Addr) (ns : List Int), xs = [.ref l] ∧ ws = [.bl true] ∧ SqL K H l (ns.map V.int) ∧ ns.length < 64 ∧ ∀ (D : Addr) (out : List Int), H D = none → out.Perm ns → Ordered true out → Q (.ref D) (upd H D (.lst (out.map V.int)))
def tSortRev (K : PySem.W.Frag) (ta tk : TA) : TE := fun σ H Q => ta σ H fun vs H1 => tk σ H1 fun ws H2 => rSortRev K vs ws H2 Q
section
variable {X : Cx}
theorem pe_sortRev {l : Expr} {kws : List Keyword} {ta tk : TA} {p pos : Pos} (hg : Gl X "sorted") (hm : X.mg "sorted" = none) (ha : PA X [l] ta) (hk : PK X kws tk) (hks : (backToKw pos (keywordEach kws X.env)).filterMap (·.1) = [Str.ofString "reverse"] := by rfl)
    (he : backTo pos (starEach [l] X.env) = (false, eval l X.env) :: backTo pos (starEach [] X.env) := by rfl) (hpl : (backTo pos (starEach [l] X.env)).any (·.1) = false := by rfl)
    (hall : (backToKw pos (keywordEach kws X.env)).all (·.1.isSome) = true := by rfl) (hkw : (backToKw pos (keywordEach kws X.env)).any (·.1.isNone) = false := by rfl) :
    PE X (.Call (.Name "sorted" p) [l] kws pos) (tSortRev X.K ta tk) := by
  intro pins s σ H Q I h
  refine wpAny_Call_Name_kw (ld_blt I hg hm PyProof.Rows.boot_sorted (callWith_bK (thn (ha pos pins s σ H _ I h) fun us s1 ⟨vs, H1, I1, r1, q1⟩ => thn (hk pos pins s1 σ H1 _ I1 q1) fun ks s2 ⟨ws, H2, I2, r2, q2⟩ => ?_) he hpl hall hkw))
  rw [hks]
  obtain ⟨la, ns, e1, e2, hS, h64, q⟩ := q2
  subst e1 e2
  obtain ⟨u, e3, ru⟩ := vals1 r1
  subst e3
  obtain rfl : u = Value.ref la := ru
  obtain ⟨v, e4, rv⟩ := vals1 r2
  subst e4
  obtain rfl : v = Value.bool true := rv
  obtain ⟨vs', rv', pl, hz⟩ := I2.list hS
  have hlen : vs'.length = ns.length := by rw [← rv'.length, List.length_map]
  refine sorted_ints_rev pl.isList (intsAre_of rv') (by omega) fun out ns' a1 a2 a3 => ?_
  obtain ⟨e, he'⟩ := sortedAll_at s2.heap vs' out
  refine ⟨.ref (s2.heap.objs.size + 1), _, I2.laid (a := s2.heap.objs.size + 1) (o := .lst (ns'.map V.int)) (t' := s2.toks) (fun _ _ => sortedAll_old) (Nat.le_succ _) ⟨?_, out.toList, e, vals_ints a1, by simpa using he'⟩, rfl, q _ ns' (I2.hok.fresh (Nat.le_succ _)) a2 a3⟩
  rw [List.length_map, a2.length_eq, sizeLine_eq]; omega
end
end L2
namespace DV
open PySem PySem.W PyProof.Rows
abbrev Nest : Type := (Int × Str) × Int
def nestLt (p q : Nest) : Bool := if p.1 = q.1 then decide (p.2 < q.2) else lexLt p.1 q.1
theorem nestIrr (p : Nest) : nestLt p p = false := by unfold nestLt; rw [if_pos rfl]; exact decide_eq_false (by omega)
theorem nestTr {p q r : Nest} (h1 : nestLt p q = true) (h2 : nestLt q r = true) : nestLt p r = true := by
  unfold nestLt at *
  by_cases e1 : p.1 = q.1
  · rw [if_pos e1] at h1
    by_cases e2 : q.1 = r.1
    · rw [if_pos e2] at h2
      rw [if_pos (e1.trans e2)]
      have := of_decide_eq_true h1
      have := of_decide_eq_true h2
      exact decide_eq_true (by omega)
    · rw [if_neg e2] at h2
      rw [if_neg (by rw [e1]; exact e2), e1]
      exact h2
  · rw [if_neg e1] at h1
    by_cases e2 : q.1 = r.1
    · rw [if_neg (by rw [← e2]; exact e1), ← e2]
      exact h1
    · rw [if_neg e2] at h2
      have h3 := lexTr h1 h2
      rw [if_neg (fun z => by rw [z, lexIrr] at h3; cases h3)]
      exact h3
theorem lexOrdF (f : Nat → Int × Str) (n : Nat) : Ord (fun i j => lexLt (f i) (f j)) n := ⟨fun i _ => lexIrr _, fun i j k _ _ _ h1 h2 => lexTr h1 h2, fun i j k _ _ _ h => by
  rcases (lexOrd [f i, f j, f k] 3).neg 0 1 2 (by decide) (by decide) (by decide) h with z | z
  · exact .inl z
  · exact .inr z⟩
section
variable {prog : Program} {w : World} {A : Around} {E : Value → Shared → Prop} {s : Shared}
theorem pair_eq {a b : Addr} {p q : Int × Str} (h1 : PairAt s.heap a p) (h2 : PairAt s.heap b q) (hu : A.units < cLine) : SeqAt.EqAt A s (.ref a) (.ref b) (decide (p = q)) := by
  by_cases hne : a = b
  · subst hne
    obtain ⟨o, t1, t2, n, ho, hc, hd⟩ := h1
    obtain ⟨o', u1, u2, n', ho', hc', hd'⟩ := h2
    rw [ho] at ho'
    cases ho'
    rw [hd] at hd'
    injection hd' with e1 _
    have e2 : [Value.int p.1 t1, Value.str p.2 t2] = [Value.int q.1 u1, Value.str q.2 u2] := Array.toList_inj.mpr e1
    injection e2 with e3 e4
    injection e4 with e5 _
    injection e3 with e6 _
    injection e5 with e7 _
    have : p = q := Prod.ext e6 e7
    rw [decide_eq_true this]
    exact SeqAt.EqAt.same _
  · obtain ⟨o, t1, t2, n, ho, hc, hd⟩ := h1
    obtain ⟨o', u1, u2, n', ho', hc', hd'⟩ := h2
    have rc := SeqAt.RcAt.tuples (A := A) (s := s) (l := a) (b := b) (items := #[.int p.1 t1, .str p.2 t2]) (items2 := #[.int q.1 u1, .str q.2 u2]) (e := fun k => if k = 0 then p.1 == q.1 else p.2 == q.2) ⟨o, ho, hc, n, hd⟩ ⟨o', ho', hc', n', hd'⟩ hu (fun k h1 h2 => by
      match k, h1, h2 with
      | 0, _, _ => exact L2.eqAt_V (y := .int p.1) (x := .int q.1) ⟨t1, rfl⟩ ⟨u1, rfl⟩ rfl rfl
      | 1, _, _ => exact L2.eqAt_V (y := .str p.2) (x := .str q.2) ⟨t2, rfl⟩ ⟨u2, rfl⟩ rfl rfl
      | k + 2, h1, _ => exact absurd h1 (by simp))
    have e : ((List.range (min (#[Value.int p.1 t1, .str p.2 t2]).size (#[Value.int q.1 u1, .str q.2 u2]).size)).all (fun k => if k = 0 then p.1 == q.1 else p.2 == q.2) && ((#[Value.int p.1 t1, .str p.2 t2]).size == (#[Value.int q.1 u1, .str q.2 u2]).size)) = decide (p = q) := by
      show ((List.range 2).all _ && _) = _
      obtain ⟨a1, a2⟩ := p
      obtain ⟨b1, b2⟩ := q
      rw [Bool.eq_iff_iff]
      simp [List.range_succ]
    rw [e] at rc
    exact SeqAt.EqAt.of_refs hne rc
def NestAt (h : Heap) (k : Value) (p : Nest) : Prop := ∃ x ox q t n c, k = .ref x ∧ h.get? x = some ox ∧ ox.cls = .type "tuple" ∧ ox.data = .seq #[.ref q, .int n t] c ∧ n = p.2 ∧ PairAt h q p.1
theorem cmp_nest {k1 k2 : Value} {p q : Nest} {Q : Bool → Shared → Prop} (h1 : NestAt s.heap k1 p) (h2 : NestAt s.heap k2 q) (hu : A.units < cLine) (h : Q (nestLt p q) s) : wpAny (model prog w) A (keyLt' (tuples' false) k1 k2) Q E s := by
  obtain ⟨x, ox, a, t, n, c, rfl, hx, _, dx, rfl, pa⟩ := h1
  obtain ⟨y, oy, b, u, n', d, rfl, hy, _, dy, rfl, pb⟩ := h2
  refine kat_lt hx dx hy dy ?_
  show KatLex prog w A false (decide (2 < 2)) Q [(.ref a, .ref b), (.int p.2 t, .int q.2 u)] 0 s
  refine kat_cons (pair_eq pa pb hu prog w _ _ ?_)
  unfold nestLt at h
  by_cases e : p.1 = q.1
  · rw [decide_eq_true e]
    rw [if_pos e] at h
    refine kat_yes (kat_cons (wpAny_eqBool_int ?_))
    by_cases e2 : p.2 = q.2
    · rw [show (p.2 == q.2) = true by simp [e2]]
      rw [decide_eq_false (by omega)] at h
      exact kat_yes (kat_nil h)
    · rw [show (p.2 == q.2) = false by simp [e2]]
      exact kat_no (kat_one _ _ (PyProof.Rows.lt_int h))
  · rw [decide_eq_false e]
    rw [if_neg e] at h
    exact kat_no (kat_one _ _ (lt_pair pa pb hu h))
theorem katTupsN {h : Heap} : ∀ {ks : List Value} {ps : List Nest}, ks.length = ps.length → (∀ (i : Nat) (k : Value) (p : Nest), ks[i]? = some k → ps[i]? = some p → NestAt h k p) → ∃ fs, KatTups h ks fs ∧ fs.length = ks.length ∧ ∀ v ∈ fs, ∃ q k, v = Value.ref q ∧ PairAt h q k
  | [], [], _, _ => ⟨[], trivial, rfl, fun v z => nomatch z⟩
  | [], _ :: _, hk, _ => by cases hk
  | _ :: _, [], hk, _ => by cases hk
  | k :: ks, p :: ps, hk, ha => by
    obtain ⟨fs, h1, h2, h3⟩ := katTupsN (h := h) (ks := ks) (ps := ps) (by simpa using hk) fun i k p e1 e2 => ha (i + 1) k p (by simpa using e1) (by simpa using e2)
    obtain ⟨x, ox, q, t, n, c, e, ho, hc, hd, _, pa⟩ := ha 0 k p rfl rfl
    subst e
    refine ⟨.ref q :: fs, KatTups.cons ho hc hd rfl h1, by simp [h2], fun v hv => ?_⟩
    rcases List.mem_cons.mp hv with z | z
    · exact ⟨q, p.1, z, pa⟩
    · exact h3 v z
end
end DV
namespace L2
open PySem PySem.Spec PySem.W PyProof.Rows
theorem perm_out {ys : List V} {p : List Nat} (hp : p.Perm (List.range ys.length)) : (p.map fun i => ys.getD i V.non).Perm ys := by
  have := hp.map fun i => ys.getD i V.non
  rw [map_rangeG] at this
  exact this
theorem PairAt.keep {h h' : Heap} {a : Addr} {p : Int × Str} (x : DV.PairAt h a p) (k : ∀ b o, h.get? b = some o → h'.get? b = some o) : DV.PairAt h' a p := by
  obtain ⟨o, t1, t2, n, ho, r⟩ := x
  exact ⟨o, t1, t2, n, k _ _ ho, r⟩
section
variable {X : Cx}
def rSort2 (K : PySem.W.Frag) : List V → Hp → VK → Prop := fun xs H Q => ∃ (l : Addr) (ys : List V) (kf : V → Int × Str), xs = [.ref l] ∧ SqL K H l ys ∧ ys.length < 64 ∧ (∀ y ∈ ys, ∃ a, y = .ref a ∧ H a = some (.tup (tIS (kf y)))) ∧
  ∀ (D : Addr) (out : List V), H D = none → out.Perm ys → out.Pairwise (fun x y => DV.lexLt (kf y) (kf x) = false) → Q (.ref D) (upd H D (.lst out))
theorem call_sort2 : CallR X (.builtin "sorted") (rSort2 X.K) := by
  intro pins s σ H xs us Q I r h
  obtain ⟨l, ys, kf, e1, hS, h64, hq, q⟩ := h
  subst e1
  obtain ⟨u, e2, ru⟩ := vals1 r
  subst e2
  obtain rfl : u = Value.ref l := ru
  have at0 : ∀ (vs : List Value) (i : Nat), Vals ys vs → i < vs.length → ∃ a, vs.getD i Value.none = .ref a ∧ DV.PairAt s.heap a (kf (ys.getD i V.non)) := fun vs i rv hi => by
    have hl := rv.length
    obtain ⟨w, hw, rw'⟩ := rv.get (i := i) (x := ys[i]'(by omega)) (by simp [show i < ys.length by omega])
    obtain ⟨a, ea, ha⟩ := hq _ (List.getElem_mem (show i < ys.length by omega))
    rw [ea] at rw'
    have eg : ys.getD i V.non = ys[i]'(by omega) := by simp [List.getD, show i < ys.length by omega]
    have ew : w = Value.ref a := rw'
    exact ⟨a, by simp [List.getD, hw, ew], by rw [eg]; exact pairAt_of I ha⟩
  refine call_sortN (κ := tuples' true) (lt := fun i j => DV.lexLt (kf (ys.getD i V.non)) (kf (ys.getD j V.non))) I hS h64 (DV.lexOrdF (fun i => kf (ys.getD i V.non)) _) (fun vs s' rv hk h2 E Q hq' => ?_) (fun vs s' rv hk i j hi hj E Q hq' => ?_) fun D p hD hp hs => q D _ hD (perm_out hp) (List.pairwise_map.mpr hs)
  · have hl := rv.length
    obtain ⟨fs, t1, t2, t3⟩ := DV.katTups_of (h := s'.heap) (ks := vs) (ps := ys.map kf) ⟨by rw [List.length_map, hl], fun i k p e1 e2 => by
      have hi := (List.getElem?_eq_some_iff.mp e1).1
      obtain ⟨a, ea, pa⟩ := at0 vs i rv hi
      have ek : k = .ref a := by rw [← ea]; simp [List.getD, e1]
      rw [List.getElem?_map, List.getElem?_eq_getElem (show i < ys.length by omega)] at e2
      have ep : p = kf (ys.getD i V.non) := by
        rw [show ys.getD i V.non = ys[i]'(by omega) by simp [List.getD, show i < ys.length by omega]]
        exact (Option.some.inj e2).symm
      obtain ⟨o, u1, u2, n, ho, hc, hd⟩ := PairAt.keep pa hk
      exact ⟨a, o, u1, u2, n, ek, ho, hc, by rw [ep]; exact hd⟩⟩
    refine kat_kind (T := .type "int") t1 (by omega) (fun v hv => ?_) (by decide) ?_
    · obtain ⟨z, t, rfl⟩ := t3 v hv
      exact .now
    · rw [show (Value.type "int" != Value.type "tuple") = true by decide]
      exact hq'
  · obtain ⟨a, ea, pa⟩ := at0 vs i rv hi
    obtain ⟨b, eb, pb⟩ := at0 vs j rv hj
    rw [ea, eb]
    obtain ⟨o, u1, u2, n, ho, hc, hd⟩ := PairAt.keep pa hk
    obtain ⟨o', w1, w2, n', ho', hc', hd'⟩ := PairAt.keep pb hk
    exact DV.cmp_pair ho hd ho' hd' hq'
def nV (q : Addr) (n : Int) : List V := [.ref q, .int n]
end
end L2
namespace DV
open PySem PySem.W PyProof.Rows
theorem minRun_le : ∀ (fuel n r : Nat), r ≤ 1 → minRun' fuel n r ≤ n + r
  | 0, n, r, _ => Nat.le_of_eq rfl
  | fuel + 1, n, r, h => by
    rw [minRun'_succ]
    split
    · exact Nat.le_refl _
    · have := minRun_le fuel (n / 2) (max r (n % 2)) (by omega)
      omega
section
variable {prog : Program} {w : World} {A : Around} {E : Value → Shared → Prop} {κ : SortKind} {it : Array Keyed}
theorem asc_up {n : Nat} {p : Array Nat} {G : Nat → Shared → Prop} {s : Shared} {cmp : Nat → Nat → (Bool → Shared → Prop) → Shared → Prop} (hup : ∀ i, 1 ≤ i → i < n → ∀ C : Bool → Shared → Prop, C false s → cmp (p.getD i 0) (p.getD (i - 1) 0) C s) :
    ∀ (f k : Nat), 1 ≤ k → k + f = n → G n s → (kas_asc p f k).kasWp cmp G s
  | 0, k, _, e, h => by
    have : k = n := by omega
    rw [this]
    exact h
  | f + 1, k, hk, e, h => by
    show cmp (p.getD k 0) (p.getD (k - 1) 0) (fun c s' => (if c = true then KasT.ret k else kas_asc p f (k + 1)).kasWp cmp G s') s
    refine hup k hk (by omega) _ ?_
    rw [if_neg Bool.false_ne_true]
    exact asc_up hup f (k + 1) (by omega) (by omega) h
theorem count_up {n : Nat} {p : Array Nat} {G : Nat × Array Nat → Shared → Prop} {s : Shared} {cmp : Nat → Nat → (Bool → Shared → Prop) → Shared → Prop} (h1 : 1 ≤ n) (hup : ∀ i, 1 ≤ i → i < n → ∀ C : Bool → Shared → Prop, C false s → cmp (p.getD i 0) (p.getD (i - 1) 0) C s) (h : G (n, p) s) : (kas_count n p).kasWp cmp G s := by
  unfold kas_count
  rw [KasT.kasWp_bind]
  refine asc_up hup (n - 1) 1 (Nat.le_refl _) (by omega) ?_
  rw [if_pos (by simp)]
  exact h
theorem runs_up {n : Nat} {Q : Unit → SortSt → Shared → Prop} {s : Shared} (h2 : 2 ≤ n) (hup : ∀ i, 1 ≤ i → i < n → ∀ C : Bool → Shared → Prop, C false s → kas_cmp prog w A κ it i (i - 1) C s)
    (hG : ∀ st', arrOf st' = (List.toArray (List.range n)).map (kas_item it) → failedOf st' = none → Q () st' s) :
    kasC (model prog w) A E sortRuns' Q (kas_st κ it (List.toArray (List.range n))) s := by
  obtain ⟨r, rfl⟩ : ∃ r, n = r + 2 := ⟨n - 2, by omega⟩
  have hrs : (List.toArray (List.range (r + 2))).size = r + 2 := by simp
  have gd : ∀ i, i < r + 2 → (List.toArray (List.range (r + 2))).getD i 0 = i := fun i hi => by simp [Array.getD, hi]
  have h : (kas_count (r + 2) (List.toArray (List.range (r + 2)))).kasWp (kas_cmp prog w A κ it) (fun mp s' => mp = (r + 2, List.toArray (List.range (r + 2))) ∧ s' = s) s :=
    count_up (by omega) (fun i h1 h2 C hC => by rw [gd i h2, gd (i - 1) (by omega)]; exact hup i h1 h2 C hC) ⟨rfl, rfl⟩
  rw [sortRuns'_eq]
  refine kasC_bind (kasC_get ?_)
  dsimp only
  have hsz : (arrOf (kas_st κ it (List.toArray (List.range (r + 2))))).size = r + 2 := by
    show ((List.toArray (List.range (r + 2))).map (kas_item it)).size = _
    rw [Array.size_map, hrs]
  have hmr : minRun' (r + 2) (r + 2) 0 ≤ r + 2 := by have := minRun_le (r + 2) (r + 2) 0 (by omega); omega
  simp only [hsz]
  refine kasC_bind (kasC_range ?_)
  show kasC _ _ _ (forIn (0 :: 1 :: List.range' 2 r) _ _) _ _ _
  refine kasC_cons ?_
  dsimp only
  rw [if_neg (by omega)]
  simp only [Nat.sub_zero, Nat.zero_add]
  refine kasC_bind (kas_count_ (by omega) (by rw [hrs]; exact Nat.le_refl _) (fun m p' s' hm1 hm2 hp hg => ?_) h)
  obtain ⟨e, rfl⟩ := hg
  injection e with e1 e2
  subst e1 e2
  dsimp only
  rw [if_neg (by omega)]
  refine kasC_bind (kasC_get ?_)
  rw [show (pendingOf (kas_st κ it (List.toArray (List.range (r + 2))))).back? = none from rfl]
  dsimp only
  refine kasC_bind (kasC_modify (kasC_pure ?_))
  show kasC _ _ _ (forIn (1 :: List.range' 2 r) _ _) _ _ _
  refine kasC_cons ?_
  dsimp only
  rw [if_pos (Nat.le_refl _)]
  refine kasC_pure ?_
  dsimp only
  refine kasC_bind (kasC_range ?_)
  show kasC _ _ _ (forIn (0 :: 1 :: List.range' 2 r) _ _) _ _ _
  refine kasC_cons ?_
  refine kasC_bind (kasC_get ?_)
  rw [if_pos (show (pendingOf (setPending (kas_st κ it (List.toArray (List.range (r + 2)))) ((pendingOf (kas_st κ it (List.toArray (List.range (r + 2))))).push (0, r + 2, 0)))).size ≤ 1 from Nat.le_refl 1)]
  refine kasC_pure ?_
  dsimp only
  exact kasC_pure (hG _ rfl rfl)
theorem run_up {vs : List Value} {Q : SortSt → Shared → Prop} {s : Shared} (h2 : 2 ≤ vs.length) (hup : ∀ i, 1 ≤ i → i < vs.length → ∀ C : Bool → Shared → Prop, C false s → kas_ask prog w A κ vs i (i - 1) C s)
    (hG : ∀ st', arrOf st' = (List.toArray (List.range vs.length)).map (kas_item (vs.toArray.zip vs.toArray)) → failedOf st' = none → Q st' s) :
    wpAny (model prog w) A ((sortRuns').run (SortSt.mk' κ (vs.toArray.zip vs.toArray) #[] 7 none)) (fun r s' => Q r.2 s') E s := by
  have run := runs_up (E := E) (prog := prog) (w := w) (A := A) (κ := κ) (it := vs.toArray.zip vs.toArray) (Q := fun _ st' s' => Q st' s') (n := vs.length) (s := s) h2 (fun i h1 h3 C hC => by rw [← kat_ask_eq (ks := vs) (vs := vs) rfl]; exact hup i h1 h3 C hC) hG
  have est : SortSt.mk' κ (vs.toArray.zip vs.toArray) #[] 7 none = kas_st κ (vs.toArray.zip vs.toArray) (List.toArray (List.range vs.length)) := by
    have e := kas_range (vs.toArray.zip vs.toArray)
    rw [show (vs.toArray.zip vs.toArray).size = vs.length by simp] at e
    show SortSt.mk' κ (vs.toArray.zip vs.toArray) #[] 7 none = SortSt.mk' κ ((List.toArray (List.range vs.length)).map (kas_item (vs.toArray.zip vs.toArray))) #[] 7 none
    rw [e]
  rw [est]
  exact run
end
section
variable {prog : Program} {w : World} {A : Around} {E : Value → Shared → Prop} {s : Shared}
theorem sortUp {a : Addr} {n : Nat} {vs : List Value} {κ : SortKind} {P : PySem.Fin → Shared → Prop} (ho : s.heap.get? a = some (seqObj "list" vs.toArray n)) (hz : vs.length ≤ sizeLine)
    (hK : ∀ h : Heap, (∀ b o, b ≠ a → s.heap.get? b = some o → h.get? b = some o) → 2 ≤ vs.length → ∀ (E : Value → Shared → Prop) (Q : SortKind → Shared → Prop), Q κ { s with heap := h } → wpAny (model prog w) A (keyKind' vs.toArray) Q E { s with heap := h })
    (hC : ∀ h : Heap, (∀ b o, b ≠ a → s.heap.get? b = some o → h.get? b = some o) → ∀ i, 1 ≤ i → i < vs.length → ∀ (E : Value → Shared → Prop) (Q : Bool → Shared → Prop), Q false { s with heap := h } → wpAny (model prog w) A (keyLt' κ (vs.getD i Value.none) (vs.getD (i - 1) Value.none)) Q E { s with heap := h })
    (h : ∀ h' c, (∀ b o, b ≠ a → s.heap.get? b = some o → h'.get? b = some o) → h'.get? a = some (seqObj "list" vs.toArray c) → P (.done (.ret .none)) { s with heap := h' }) :
    wpAny (model prog w) A (Builtin.«list.sort» ⟨[.ref a], []⟩) P E s := by
  have ha : a < s.heap.objs.size := Heap.lt_size ho
  have s1 := Heap.SameBut.update s.heap a (Obj.mapSeq fun _ => (#[] : Array Value))
  obtain ⟨e1, ho1⟩ : ∃ e1, (s.heap.update a (Obj.mapSeq fun _ => (#[] : Array Value))).get? a = some (seqObj "list" #[] e1) := ⟨_, get?_update_seq ho fun _ => #[]⟩
  rw [list_sort_plain]
  refine wpAny_bind (listItems_at ho rfl ?_)
  refine wpAny_bind (listUpdate_at ho rfl ?_ (by rw [List.size_toArray]; exact hz) (Nat.zero_le _))
  refine wpAny_bind (seqEpoch_at ho1 rfl ?_)
  refine wpAny_bind (wpAny_newTuple ?_ (by show vs.length ≤ _; exact hz))
  refine wpAny_bind (wpAny_newList ?_ (Nat.zero_le _))
  refine wpAny_holding ?_
  show wpAny (model prog w) A _ P E { s with heap := ((s.heap.update a (Obj.mapSeq fun _ => (#[] : Array Value))).push (seqObj "tuple" vs.toArray 0)).push (seqObj "list" #[] 0) }
  dsimp only
  have keep : ∀ b o, b ≠ a → s.heap.get? b = some o → (((s.heap.update a (Obj.mapSeq fun _ => (#[] : Array Value))).push (seqObj "tuple" vs.toArray 0)).push (seqObj "list" #[] 0)).get? b = some o := fun b o hb e =>
    Heap.get?_push_of_some _ (Heap.get?_push_of_some _ ((s1.2 b hb).trans e))
  have ha4 := Heap.get?_push_of_some (seqObj "list" #[] 0) (Heap.get?_push_of_some (seqObj "tuple" vs.toArray 0) ho1)
  generalize ((s.heap.update a (Obj.mapSeq fun _ => (#[] : Array Value))).push (seqObj "tuple" vs.toArray 0)).push (seqObj "list" #[] 0) = g at *
  obtain ⟨c2, hc2⟩ : ∃ c2, (g.update a (Obj.mapSeq fun _ => vs.toArray)).get? a = some (seqObj "list" vs.toArray c2) := ⟨_, get?_update_seq ha4 fun _ => _⟩
  have tail : P (.done (.ret .none)) { s with heap := g.update a (Obj.mapSeq fun _ => vs.toArray) } := h _ c2 (fun b o hb e => ((Heap.SameBut.update g a _).2 b hb).trans (keep b o hb e)) hc2
  by_cases h2 : vs.length < 2
  · have hn2 : vs.toArray.size < 2 := by rw [List.size_toArray]; exact h2
    rw [if_pos hn2, if_pos hn2]
    refine wpAny_bind (wpAny_pure ?_)
    refine wpAny_bind (wpAny_pure ?_)
    try dsimp only
    have hout : (arrOf (SortSt.mk' general' (vs.toArray.zip vs.toArray) #[] 7 none)).map (·.2) = vs.toArray := by
      show (vs.toArray.zip vs.toArray).map (·.2) = _
      apply Array.toList_inj.mp
      rw [Array.toList_map, ksk_zip]
      exact List.map_snd_zip (Nat.le_refl _)
    rw [hout]
    refine wpAny_bind (seqEpoch_at ha4 rfl ?_)
    refine wpAny_bind (listUpdate_at ha4 rfl ?_ (Nat.zero_le _) (by rw [List.size_toArray]; omega))
    simp only [bne_self_eq_false, Bool.false_eq_true, if_false]
    exact wpAny_pure tail
  · have hn2 : ¬ vs.toArray.size < 2 := by rw [List.size_toArray]; exact h2
    rw [if_neg hn2, if_neg hn2]
    refine wpAny_bind (hK g keep (by omega) _ _ ?_)
    refine wpAny_bind (wpAny_mono (run_up (Q := fun st' s' => (arrOf st').map (·.2) = vs.toArray ∧ failedOf st' = none ∧ s' = { s with heap := g }) (by omega) (fun i h1 h3 C hc => hC g keep i h1 h3 _ _ hc) (fun st' har hf => ⟨?_, hf, rfl⟩)) ?_ fun _ _ x => x)
    · have := kat_snds (ks := vs) (vs := vs) rfl har
      rw [this]
      congr 1
      apply List.ext_getElem?
      intro i
      by_cases hi : i < vs.length
      · simp [hi, List.getD]
      · simp [hi]
    · rintro ⟨⟨⟩, st'⟩ s' ⟨hout, hf, rfl⟩
      try dsimp only
      rw [hout]
      refine wpAny_bind (seqEpoch_at ha4 rfl ?_)
      refine wpAny_bind (listUpdate_at ha4 rfl ?_ (Nat.zero_le _) (by rw [List.size_toArray]; omega))
      rw [hf]
      simp only [bne_self_eq_false, Bool.false_eq_true, if_false]
      exact wpAny_pure tail
end
end DV
namespace L2
open PySem PySem.Spec PySem.W PyProof.Rows
section
variable {X : Cx}
def rSortUp (K : PySem.W.Frag) : List V → Hp → VK → Prop := fun xs H Q => ∃ (l : Addr) (ys : List V) (kf : V → DV.Nest), xs = [.ref l] ∧ SqL K H l ys ∧ ys.length ≤ 1000 ∧ (∀ y ∈ ys, ∃ a q, y = .ref a ∧ H a = some (.tup (nV q (kf y).2)) ∧ H q = some (.tup (tIS (kf y).1))) ∧
  ys.Pairwise (fun x y => DV.nestLt (kf y) (kf x) = false) ∧ ∀ (D : Addr), H D = none → Q (.ref D) (upd H D (.lst ys))
theorem call_sortUp (hu : X.A.units + 2 < cLine) : CallR X (.builtin "sorted") (rSortUp X.K) := by
  intro pins s σ H xs us Q I r h
  obtain ⟨l, ys, kf, e1, hS, h1000, hq, hpw, q⟩ := h
  subst e1
  obtain ⟨u, e2, ru⟩ := vals1 r
  subst e2
  obtain rfl : u = Value.ref l := ru
  obtain ⟨vs, rv, pl, hz⟩ := I.list hS
  have hlen : ys.length = vs.length := by rw [← rv.length]
  have hl := pl.isList
  have at0 : ∀ (i : Nat), i < vs.length → DV.NestAt s.heap (vs.getD i Value.none) (kf (ys.getD i V.non)) := fun i hi => by
    obtain ⟨w, hw, rw'⟩ := rv.get (i := i) (x := ys[i]'(by omega)) (by simp [show i < ys.length by omega])
    obtain ⟨a, b, ea, ha, hb⟩ := hq _ (List.getElem_mem (show i < ys.length by omega))
    rw [ea] at rw'
    have eg : ys.getD i V.non = ys[i]'(by omega) := by simp [List.getD, show i < ys.length by omega]
    have ew : w = Value.ref a := rw'
    obtain ⟨ws, r1, ⟨o, ho, hc2, n, hd⟩, _⟩ := I.tuple (SqT.of ha)
    obtain ⟨u, v, e, r2, r3⟩ := vals2 r1
    subst e
    obtain rfl : u = Value.ref b := r2
    obtain ⟨t2, e2⟩ := r3
    rw [eg]
    exact ⟨a, o, b, t2, _, n, by simp [List.getD, hw, ew], ho, hc2, by rw [hd, e2], rfl, pairAt_of I hb⟩
  have keepN : ∀ {h h' : Heap} {k : Value} {p : DV.Nest}, DV.NestAt h k p → (∀ b o, h.get? b = some o → h'.get? b = some o) → DV.NestAt h' k p := fun x k => by
    obtain ⟨x, ox, q, t, n, c, e, ho, hc, hd, en, pa⟩ := x
    exact ⟨x, ox, q, t, n, c, e, k _ _ ho, hc, hd, en, PairAt.keep pa k⟩
  refine Calls.call_function_entry kind_sorted plain_sorted entry_sorted (args_sorted1 _) ?_
  unfold Builtin.«sorted»
  refine wpAny_bind (m := checkCount "sorted" 1 1 _) (wpAny_pure ?_)
  refine wpAny_bind (collect_list hl ?_ (by rw [sizeLine_eq]; omega))
  refine wpAny_bind (wpAny_newList ?_ (by rw [sizeLine_eq]; omega))
  have hsz : ((s.heap.push (seqObj "list" #[] 0)).update s.heap.objs.size (Obj.mapSeq (· ++ vs.toArray))).objs.size = s.heap.objs.size + 1 := by
    rw [Heap.size_update, size_push']
  have hoL : (((s.heap.push (seqObj "list" #[] 0)).update s.heap.objs.size (Obj.mapSeq (· ++ vs.toArray))).push (seqObj "list" vs.toArray 0)).get? (s.heap.objs.size + 1) = some (seqObj "list" vs.toArray 0) := by
    rw [← hsz]; exact Heap.get?_push_size _ rfl
  have keep : ∀ b o, s.heap.get? b = some o → (((s.heap.push (seqObj "list" #[] 0)).update s.heap.objs.size (Obj.mapSeq (· ++ vs.toArray))).push (seqObj "list" vs.toArray 0)).get? b = some o := fun b o q => by
    have hlt : b < s.heap.objs.size := Heap.lt_size q
    rw [Heap.get?_push_ne _ _ _ (by rw [hsz]; exact Nat.ne_of_lt (Nat.lt_succ_of_lt hlt)), Heap.get?_update_ne _ _ _ _ (Nat.ne_of_lt hlt), Heap.get?_push_ne _ _ _ (Nat.ne_of_lt hlt)]
    exact q
  show wpAny _ _ _ _ _ { s with heap := ((s.heap.push (seqObj "list" #[] 0)).update s.heap.objs.size (Obj.mapSeq (· ++ vs.toArray))).push (seqObj "list" vs.toArray 0) }
  rw [hsz]
  generalize ((s.heap.push (seqObj "list" #[] 0)).update s.heap.objs.size (Obj.mapSeq (· ++ vs.toArray))).push (seqObj "list" vs.toArray 0) = g1 at *
  have nD : ∀ b o, s.heap.get? b = some o → b ≠ s.heap.objs.size + 1 := fun b o e => Nat.ne_of_lt (Nat.lt_succ_of_lt (Heap.lt_size e))
  refine wpAny_bind (wpAny_holding (wpAny_call_entry slot_list_sort ⟨_, hoL, rfl⟩ entry_list_sort ?body (args_list_sort _)))
  case body =>
    show wpAny (model X.prog X.w) X.A.in1.in1 (Builtin.«list.sort» ⟨[.ref (s.heap.objs.size + 1)], []⟩) _ _ _
    refine DV.sortUp (s := { s with heap := g1 }) (κ := tuples' false) hoL (by rw [sizeLine_eq]; omega) (fun h hk h2 E Q hq' => ?_) (fun h hk i h1 h3 E Q hq' => ?_) fun h' c hk hc => ⟨_, rfl, wpAny_pure ⟨_, rfl, ?_⟩⟩
    · have kh : ∀ b o, s.heap.get? b = some o → h.get? b = some o := fun b o e => hk b o (nD b o e) (keep b o e)
      obtain ⟨fs, t1, t2, t3⟩ := DV.katTupsN (h := h) (ks := vs) (ps := ys.map kf) (by rw [List.length_map, hlen]) fun i k p e1 e2 => by
        have hi := (List.getElem?_eq_some_iff.mp e1).1
        have pa := keepN (at0 i hi) kh
        have ek : vs.getD i Value.none = k := by simp [List.getD, e1]
        rw [List.getElem?_map, List.getElem?_eq_getElem (show i < ys.length by omega)] at e2
        have ep : p = kf (ys.getD i V.non) := by
          rw [show ys.getD i V.non = ys[i]'(by omega) by simp [List.getD, show i < ys.length by omega]]
          exact (Option.some.inj e2).symm
        rw [ek] at pa
        rw [ep]
        exact pa
      refine kat_kind (s := { s with heap := h }) (T := .type "tuple") t1 (by omega) (fun v hv => ?_) (by decide) ?_
      · obtain ⟨b, k, rfl, o, u1, u2, n, ho, hc, hd⟩ := t3 v hv
        rw [← hc]
        exact (Looks.ld ho).andThen .now
      · rw [show (Value.type "tuple" != Value.type "tuple") = false by decide]
        exact hq'
    · have kh : ∀ b o, s.heap.get? b = some o → h.get? b = some o := fun b o e => hk b o (nD b o e) (keep b o e)
      have hlt := (List.pairwise_iff_getElem.mp hpw) (i - 1) i (by omega) (by omega) (by omega)
      refine DV.cmp_nest (s := { s with heap := h }) (keepN (at0 i h3) kh) (keepN (at0 (i - 1) (by omega)) kh) hu ?_
      rw [show ys.getD i V.non = ys[i]'(by omega) by simp [List.getD, show i < ys.length by omega], show ys.getD (i - 1) V.non = ys[i - 1]'(by omega) by simp [List.getD, show i - 1 < ys.length by omega], hlt]
      exact hq'
    · exact ⟨.ref (s.heap.objs.size + 1), _, I.laid (a := s.heap.objs.size + 1) (o := .lst ys) (t' := s.toks) (fun b u e => hk b u (nD b u e) (keep b u e)) (Nat.le_succ _) ⟨by rw [sizeLine_eq]; omega, _, c, rv, hc⟩, rfl, q _ (I.hok.fresh (Nat.le_succ _))⟩
end
end L2
namespace B32
open PySem L2 S2
def top (i : Nat) : Stmt := PySem.Challenge.pw_boxgalley_k32_whole_raises_add_up.main.body.getD i (.Pass ⟨0, 0, 0, 0⟩)
abbrev sDeal : Stmt := top 1
abbrev sOrder : Stmt := top 3
abbrev sTracks : Stmt := top 4
abbrev sStream : Stmt := top 6
abbrev sTake : Stmt := top 7
abbrev sLNames : Stmt := top 8
abbrev sLAsks : Stmt := top 9
abbrev sLTold : Stmt := top 10
abbrev sLRight : Stmt := top 11
abbrev sLOrder : Stmt := top 12
abbrev sLaw : Stmt := top 13
structure Names (mg : Str → Option Value) : Prop where
  sum : mg "sum" = none
  list : mg "list" = none
  sorted : mg "sorted" = none
  dict : mg "dict" = none
  len : mg "len" = none
  range : mg "range" = none
  max : mg "max" = none
  abs : mg "abs" = none
  all : mg "all" = none
abbrev lamPos : Pos := ⟨12, 40, 12, 73⟩
abbrev lamQual : Str := (("deal" : Str) ++ ".<locals>.") ++ "<lambda>"
def wOfI (ws : List (Int × Int)) (x : Int) : Int := ((ws.find? fun p => decide (p.1 = x)).map (·.2)).getD 0
def restOfI (R : Int) (ws : List (Int × Int)) (x : Int) : Int := DV.restI R (DV.wholeI ws) (wOfI ws x)
def dealtI (R : Int) (ws : List (Int × Int)) (more : List Int) : List (Int × Int) := ws.map fun p => (p.1, DV.partI R (DV.wholeI ws) p.2 + if p.1 ∈ more then 1 else 0)
def leftOfI (R : Int) (ws : List (Int × Int)) : Int := R - (ws.map fun p => DV.partI R (DV.wholeI ws) p.2).sum
def spDealI (T : Addr) : Sp := fun vs H Q _ => ∃ (d : Addr) (R : Int) (ws : List (Int × Int)) (ps : Array Value), vs = [.int R, .ref d] ∧ Rd H d (.dK (kvWI ws)) ∧ (ws.map (·.1)).Nodup ∧ ws ≠ [] ∧ ws.length < 64 ∧ 0 ≤ R ∧ R < 2 ^ 32 ∧ 0 < DV.wholeI ws ∧ DV.wholeI ws < 1073741824 ∧
  H T = some (.tbl ps) ∧ TabOk H lamPos lamQual ps ∧ ∀ (S : Addr) (H' : Hp) (ps' : Array Value) (out : List Int), H S = none → (∀ b u, b ≠ T → b ≠ d → H b = some u → H' b = some u) → Rd H' d (.dK (kvWI ws)) → H' T = some (.tbl ps') → TabOk H' lamPos lamQual ps' →
    out.Perm (ws.map (·.1)) → out.Pairwise (fun x y => DV.lexLtI (-(restOfI R ws y), y) (-(restOfI R ws x), x) = false) → H' S = some (.dK (kvWI (dealtI R ws (out.take (leftOfI R ws).toNat)))) → Q (.ref S) H'
theorem notin_takeI {ws : List (Int × Int)} (nd : (ws.map (·.1)).Nodup) {i : Nat} {x : Int} {n : Int} (h : ws[i]? = some (x, n)) (f : Int × Int → Int) : x ∉ ((ws.take i).map fun p => (p.1, f p)).map (·.1) := by
  intro hx
  rw [List.map_map] at hx
  obtain ⟨p, hp, e⟩ := List.mem_map.mp hx
  obtain ⟨j, hj, ej⟩ := List.mem_iff_getElem.mp hp
  rw [List.length_take] at hj
  obtain ⟨hi, ei⟩ := List.getElem?_eq_some_iff.mp h
  rw [List.getElem_take] at ej
  have e' : p.1 = x := e
  have := (List.pairwise_iff_getElem.mp nd) j i (by rw [List.length_map]; omega) (by rw [List.length_map]; exact hi) (by omega)
  apply this
  rw [List.getElem_map, List.getElem_map, ej, ei]
  exact e'
theorem take_nextI {ws : List (Int × Int)} {i : Nat} {x : Int} {n : Int} (h : ws[i]? = some (x, n)) (f : Int × Int → Int) : ((ws.take i).map fun p => (p.1, f p)) ++ [(x, f (x, n))] = (ws.take (i + 1)).map fun p => (p.1, f p) := by
  rw [List.take_succ, h, List.map_append]
  rfl
theorem putTakeI {ws : List (Int × Int)} (nd : (ws.map (·.1)).Nodup) {i : Nat} {x : Int} {n m : Int} (h : ws[i]? = some (x, n)) (f : Int × Int → Int) (e : m = f (x, n)) :
    putK (kvWI ((ws.take i).map fun p => (p.1, f p))) (.inl x) (.int m) = kvWI ((ws.take (i + 1)).map fun p => (p.1, f p)) := by
  rw [putW_newI (notin_takeI nd h _), e, take_nextI h f]
theorem wOf_ofI {ws : List (Int × Int)} (nd : (ws.map (·.1)).Nodup) {x : Int} {p : Int × Int} (h : (x, p.2) ∈ ws) : wOfI ws x = p.2 := by
  unfold wOfI
  induction ws with
  | nil => cases h
  | cons q ws ih =>
    rw [List.map_cons, List.nodup_cons] at nd
    rcases List.mem_cons.mp h with e | e
    · rw [List.find?_cons_of_pos (by rw [← e]; exact decide_eq_true rfl), ← e]
      rfl
    · rw [List.find?_cons_of_neg (fun z => nd.1 (by rw [of_decide_eq_true z]; exact List.mem_map_of_mem (f := (·.1)) e))]
      exact ih nd.2 e
theorem cut_takeI {xs : List Int} {v : Int} (h : 0 ≤ v) : cutV (xs.map V.int) none (some v) = (xs.take v.toNat).map V.int := by
  unfold cutV
  rw [HT.sIx_none]
  unfold HT.sIx
  dsimp only
  rw [if_neg (by omega), List.drop_zero, Nat.sub_zero, List.length_map, ← List.map_take]
  congr 1
  rw [List.take_eq_take_iff]
  omega
theorem notin_moreI {more : List Int} (nd : more.Nodup) {j : Nat} {x : Int} (h : more[j]? = some x) : x ∉ more.take j := by
  intro hx
  obtain ⟨i, hi, ei⟩ := List.mem_iff_getElem.mp hx
  rw [List.length_take] at hi
  rw [List.getElem_take] at ei
  obtain ⟨hj, ej⟩ := List.getElem?_eq_some_iff.mp h
  exact (List.pairwise_iff_getElem.mp nd) i j (by omega) hj (by omega) (by rw [ei, ej])
theorem dealt_nextI {R : Int} {ws : List (Int × Int)} (nd : (ws.map (·.1)).Nodup) {more : List Int} {j : Nat} {x : Int} {n : Int} (hx : (x, n) ∈ ws) (h : more[j]? = some x) :
    ((dealtI R ws (more.take j)).map fun p => if p.1 = x then (p.1, DV.partI R (DV.wholeI ws) n + 1) else p) = dealtI R ws (more.take (j + 1)) := by
  unfold dealtI
  rw [List.map_map]
  refine List.map_congr_left fun p hp => ?_
  have em : ∀ y, y ∈ more.take (j + 1) ↔ y ∈ more.take j ∨ y = x := fun y => by rw [List.take_succ, h]; simp
  show (if p.1 = x then (p.1, DV.partI R (DV.wholeI ws) n + 1) else (p.1, DV.partI R (DV.wholeI ws) p.2 + if p.1 ∈ more.take j then 1 else 0)) = _
  by_cases e : p.1 = x
  · have e2 : p.2 = n := (wOf_ofI nd (p := p) (x := x) (by rw [← e]; exact hp)).symm.trans (wOf_ofI nd (p := (x, n)) hx)
    rw [if_pos e, if_pos ((em _).mpr (.inr e)), e2]
  · rw [if_neg e]
    by_cases e3 : p.1 ∈ more.take j
    · rw [if_pos e3, if_pos ((em _).mpr (.inl e3))]
    · rw [if_neg e3, if_neg (fun z => ((em _).mp z).elim e3 e)]
theorem okC {P : Program} {w : World} {K : PySem.W.Frag} {mg : Str → Option Value} {base : Heap} {x qual : Str} {st : Stmt} {f : Addr} {fd : FuncData} {N ps : List Str} {k : Nat} {sp : Sp} (F : Fun K x qual st f fd) (S : FnScope N ps (defScope st)) (len : ∀ vs H Q E, sp vs H Q E → vs.length = ps.length)
    (hbody : ∀ (cdv : Value), fd.code = cdv → ∀ (A : Around) (outer : List Env) (s : Shared) (H : Hp) (vs : List V) (Q : VK) (E : XK), Room k (A.deeper (PyProof.Rows.envOfC qual (defScope st) s.heap.objs.size f cdv)) → sp vs H Q E →
      ∃ t, PSs (cxOf CX0 P w K mg base N qual (defScope st) f cdv A outer s H E).nox (defBody st) t ∧ t { nx := fun _ H' => Q .non H', rt := Q } (L2.start N vs) H) : FnOk P w K mg base CX0 (k + 1) f fd ps sp := by
  obtain ⟨oc, od, kV, doc, pm, an, cdv, ct, osl, rfl, lk, hcd⟩ := F.ex
  refine fn_of lk hcd S len fun A outer s H vs Q E hr hsp => ?_
  obtain ⟨t, h, q⟩ := hbody cdv rfl A outer s H vs Q E hr hsp
  exact ⟨t, h.nox, q⟩
theorem pe_never {X : Cx} {e : Expr} : PE X e (fun _ _ _ => False) := fun _ _ _ _ _ _ h => h.elim
section
variable {P : Program} {w : World} {K : PySem.W.Frag} {mg : Str → Option Value} {base : Heap}
theorem scDeal : FnScope ["room", "weights", "whole", "sizes", "rests", "name", "weight", "left", "in_turn"] ["room", "weights"] (defScope sDeal) := ⟨rfl, rfl, rfl, by decide +kernel, rfl, by decide +kernel, by decide +kernel⟩
set_option maxHeartbeats 2000000 in
theorem ok_deal {f T c0 : Addr} {fd : FuncData} (F : Fun K "deal" "deal" sDeal f fd) (N : Names mg) (hcd : fd.code = .ref c0) (hch : PySem.W.codeHdIn K c0 T = true) (hbm : base.BuiltinsAt mg T) : FnOk P w K mg base CX0 2 f fd ["room", "weights"] (spDealI T) := by
  refine okC F scDeal (fun vs H Q E h => ?_) (fun cdv hce A outer s H vs Q E hr h => ?_)
  · obtain ⟨d, R, ws, ps, e, _⟩ := h
    rw [e]
    rfl
  · obtain ⟨d, R, ws, ps, e, hd, nd, hne, h64, hR, hR2, hw, hw2, hT, hT2, q⟩ := h
    subst e
    have hu : (A.deeper (PyProof.Rows.envOfC "deal" (defScope sDeal) s.heap.objs.size f cdv)).units + 1 < cLine := by have := hr.units; omega
    have hcdv : cdv = .ref c0 := hce.symm.trans hcd
    refine ⟨_, pss_cons (ps_set (i := 2) scDeal.nd rfl (Or.inl rfl) (pe_sumV rfl (pv 1) (by rfl) (by rfl) (by rfl) N.sum PyProof.Rows.boot_sum))
      (pss_cons (ps_if (pt_cmpR op_eq (pv 2) pe_int (nomark _)) (pss_one (ps_ret pe_never)) pss_nil)
      (pss_cons (ps_set (i := 3) scDeal.nd rfl (Or.inl rfl) pe_dnewK)
      (pss_cons (ps_set (i := 4) scDeal.nd rfl (Or.inr rfl) pe_dnewK)
      (pss_cons (ps_for PassesOwn.never rfl (pi_items (pv 1)) (pg_tup rfl (pgs_cons (pg_name (i := 5) scDeal.nd rfl (Or.inl rfl)) (pgs_cons (pg_name (i := 6) scDeal.nd rfl (Or.inl rfl)) pgs_nil)))
        (pss_cons (ps_dput hu (pv 3) (pv 5) (pe_op op_fdiv (pe_op op_mul (pv 0) (pv 6)) (pv 2)) rfl)
        (pss_one (ps_dput hu (pv 4) (pv 5) (pe_op op_sub (pe_op op_mul (pv 0) (pv 6)) (pe_op op_mul (pe_dget hu (pv 3) (pv 5) (fun _ _ => rfl)) (pv 2))) rfl))))
      (pss_cons (ps_set (i := 7) scDeal.nd rfl (Or.inl rfl) (pe_op op_sub (pv 0) (pe_sumV rfl (pv 3) (by rfl) (by rfl) (by rfl) N.sum PyProof.Rows.boot_sum)))
      (pss_cons (ps_set (i := 8) scDeal.nd rfl (Or.inl rfl) (pe_sortLI (P := T) (c0 := c0) (i := 4) (Nat.lt_of_le_of_lt (Nat.le_trans (Nat.le_add_right _ _) (Nat.le_add_right _ _)) hr.dp) (by rfl) (by exact Or.inr (Or.inl rfl)) (by rfl) hcdv hch hbm (by rfl) (by rfl) (by rfl) (by rfl) (by rfl) N.sorted PyProof.Rows.boot_sorted (pe_callTy (call_listD rfl) (by rfl) N.list PyProof.Rows.boot_list (pa_cons (pv 1) pa_nil))))
      (pss_cons (ps_for PassesOwn.never rfl (pi_list (pe_slice sl_list (pv 8) po_none (po_some (pv 7)))) (pg_name (i := 5) scDeal.nd rfl (Or.inl rfl))
        (pss_one (ps_dput hu (pv 3) (pv 5) (pe_op op_add (pe_dget hu (pv 3) (pv 5) (fun _ _ => rfl)) pe_int) rfl)))
      (pss_one (ps_ret (pv 3)))))))))), ?_⟩
    refine ⟨_, rfl, d, _, ws.map (·.2), rfl, hd, kvW_valsI ws, ?_⟩
    have hW : DV.wholeI ws ≠ 0 := by omega
    refine ⟨_, rfl, rfl, _, rfl, ?_⟩
    refine iteC (by show decide (V.int (DV.wholeI ws) = V.int 0) = false; exact decide_eq_false fun z => hW (V.int.inj z)) ?_
    intro S hS B hB
    have hSB : S ≠ B := fun z => by rw [← z, upd_same] at hB; cases hB
    have hBH : H B = none := by rw [upd_ne (Ne.symm hSB)] at hB; exact hB
    have k1 : ∀ b u, H b = some u → (upd (upd H S (.dK [])) B (.dK [])) b = some u := fun b u e => by rw [upd_ne (ne_of_none e hBH), upd_ne (ne_of_none e hS)]; exact e
    have hS1 : (upd (upd H S (.dK [])) B (.dK [])) S = some (.dK []) := by rw [upd_ne hSB, upd_same]
    have hB1 : (upd (upd H S (.dK [])) B (.dK [])) B = some (.dK []) := upd_same
    generalize upd (upd H S (.dK [])) B (.dK []) = H1 at *
    have hdn : H d ≠ none := by rcases hd with r | ⟨_, r⟩ <;> rw [r] <;> exact fun z => nomatch z
    have dS : S ≠ d := fun z => hdn (by rw [← z]; exact hS)
    have dB : B ≠ d := fun z => hdn (by rw [← z]; exact hBH)
    have dT : d ≠ T := fun z => by rw [z] at hd; rcases hd with r | ⟨_, r⟩ <;> rw [hT] at r <;> cases r
    refine ⟨_, rfl, d, _, rfl, hd.keep fun o e => k1 _ _ e, fun o => for_items (fun i σ H9 => ∃ (u5 u6 : Option V), σ = [some (.int R), some (.ref d), some (.int (DV.wholeI ws)), some (.ref S), some (.ref B), u5, u6, none, none] ∧
      H9 d = some (.frz o (.dK (kvWI ws))) ∧ (∀ b u, b ≠ d → H b = some u → H9 b = some u) ∧ H9 S = some (.dK (kvWI ((ws.take i).map fun p => (p.1, DV.partI R (DV.wholeI ws) p.2)))) ∧ H9 B = some (.dK (kvWI ((ws.take i).map fun p => (p.1, DV.restI R (DV.wholeI ws) p.2)))))
      ⟨none, none, rfl, upd_same, fun b u hb e => by rw [upd_ne hb]; exact k1 _ _ e, by rw [upd_ne dS]; exact hS1, by rw [upd_ne dB]; exact hB1⟩ (fun i σ H9 _ ⟨_, _, _, z, _⟩ => z) ?_ ?_⟩
    · rintro i k v p0 σ H9 hkv hp0 ⟨u5, u6, rfl, h9d, h9k, h9S, h9B⟩
      obtain ⟨x, n, ex, rfl, rfl⟩ := kvW_atI hkv
      have k10 : ∀ b u, H9 b = some u → (upd H9 p0 (.tup [kV (.inl x), .int n])) b = some u := fun b u e => by rw [upd_ne (ne_of_none e hp0)]; exact e
      have hp10 : (upd H9 p0 (.tup [kV (.inl x), .int n])) p0 = some (.tup [kV (.inl x), .int n]) := upd_same
      generalize upd H9 p0 (.tup [kV (.inl x), .int n]) = H10 at *
      have hi : i < ws.length := (List.getElem?_eq_some_iff.mp ex).1
      have lt : ∀ f : Int × Int → Int, (kvWI ((ws.take i).map fun p => (p.1, f p))).length < sizeLine := fun f => by
        simp only [kvWI, List.length_map, List.length_take, sizeLine_eq]; omega
      have cm1 : CMul R n := .inl ⟨by omega, by omega⟩
      refine ⟨p0, _, rfl, SqT.of hp10, rfl, _, _, rfl, _, _, rfl, rfl, ?_⟩
      refine ⟨_, rfl, _, rfl, _, _, rfl, rfl, cm1, _, rfl, _, _, rfl, rfl, ⟨hw, hw2⟩, _, rfl, _, rfl, S, _, rfl, DPut.k (k := .inl x) (k10 _ _ h9S) (lt _), ?_⟩
      rw [putTakeI nd ex (fun p => DV.partI R (DV.wholeI ws) p.2) (m := R * n / DV.wholeI ws) rfl]
      have k11 : ∀ b u, b ≠ S → H10 b = some u → (upd H10 S (.dK (kvWI ((ws.take (i + 1)).map fun p => (p.1, DV.partI R (DV.wholeI ws) p.2))))) b = some u := fun b u hb e => by rw [upd_ne hb]; exact e
      have h11 : (upd H10 S (.dK (kvWI ((ws.take (i + 1)).map fun p => (p.1, DV.partI R (DV.wholeI ws) p.2))))) S = some (.dK (kvWI ((ws.take (i + 1)).map fun p => (p.1, DV.partI R (DV.wholeI ws) p.2)))) := upd_same
      generalize upd H10 S (.dK (kvWI ((ws.take (i + 1)).map fun p => (p.1, DV.partI R (DV.wholeI ws) p.2)))) = H11 at *
      have nd2 : (((ws.take (i + 1)).map fun p => (p.1, DV.partI R (DV.wholeI ws) p.2)).map (·.1)).Nodup := by
        rw [List.map_map]
        exact (List.Sublist.map _ (List.take_sublist _ _)).nodup nd
      have m2 : (x, DV.partI R (DV.wholeI ws) n) ∈ (ws.take (i + 1)).map fun p => (p.1, DV.partI R (DV.wholeI ws) p.2) := by
        rw [← take_nextI ex (fun p => DV.partI R (DV.wholeI ws) p.2)]
        simp
      have hv : DGet H11 S (kV (.inl x)) (some (.int (DV.partI R (DV.wholeI ws) n))) := by
        rw [← valWI nd2 m2]
        exact DGet.k h11
      have h11B := k11 _ _ (Ne.symm hSB) (k10 _ _ h9B)
      refine ⟨_, rfl, _, rfl, _, _, rfl, rfl, cm1, _, rfl, _, rfl, S, _, rfl, hv, _, rfl, _, _, rfl, rfl, .inr ⟨by omega, by omega⟩, _, _, rfl, rfl, _, rfl, _, rfl, B, _, rfl, DPut.k (k := .inl x) h11B (lt _), ?_⟩
      rw [putTakeI nd ex (fun p => DV.restI R (DV.wholeI ws) p.2) (m := R * n - DV.partI R (DV.wholeI ws) n * DV.wholeI ws) rfl]
      refine (show ∃ u5 u6, _ from ⟨_, _, rfl, ?_, fun b u hb e => ?_, ?_, upd_same⟩)
      · rw [upd_ne (Ne.symm dB)]; exact k11 _ _ (Ne.symm dS) (k10 _ _ h9d)
      · rw [upd_ne (ne_of_none e hBH)]; exact k11 _ _ (ne_of_none e hS) (k10 _ _ (h9k b u hb e))
      · rw [upd_ne hSB]; exact h11
    · rintro σ H9 ⟨u5, u6, rfl, h9d, h9k, h9S, h9B⟩
      rw [show (kvWI ws).length = ws.length by simp [kvWI], List.take_length] at h9S h9B
      refine ⟨_, rfl, _, rfl, S, _, (ws.map fun p => DV.partI R (DV.wholeI ws) p.2), rfl, .inl h9S, by simp [kvWI], _, _, rfl, rfl, ?_⟩
      refine ⟨_, rfl, d, _, rfl, .inr ⟨o, h9d⟩, fun l hl => ?_⟩
      rw [kvW_keysI]
      have k10 : ∀ b u, H9 b = some u → (upd H9 l (.lst ((ws.map (·.1)).map V.int))) b = some u := fun b u e => by rw [upd_ne (ne_of_none e hl)]; exact e
      have h10l : (upd H9 l (.lst ((ws.map (·.1)).map V.int))) l = some (.lst ((ws.map (·.1)).map V.int)) := upd_same
      generalize upd H9 l (.lst ((ws.map (·.1)).map V.int)) = H10 at *
      have hT10 : H10 T = some (.tbl ps) := k10 _ _ (h9k _ _ (Ne.symm dT) hT)
      refine ⟨l, ws.map (·.1), B, _, restOfI R ws, ps, rfl, SqL.of h10l, by rw [List.length_map]; exact h64, hT10, ⟨hT2.1, hT2.2.imp id fun ⟨c, e1, e2⟩ => ⟨c, e1, k10 _ _ (h9k _ _ (fun z => by rw [z] at e2; rcases hd with r | ⟨_, r⟩ <;> rw [e2] at r <;> cases r) e2)⟩⟩, rfl, .inl (k10 _ _ h9B), fun x hx => ?_, fun D out H2 ps' hD hk hP' hT' hp hs => ?_⟩
      · obtain ⟨p, hp, e⟩ := List.mem_map.mp hx
        have ew : wOfI ws x = p.2 := wOf_ofI nd (by rw [← e]; exact hp)
        refine valWI (by rw [List.map_map]; exact nd) ?_
        unfold restOfI
        rw [ew, ← e]
        exact List.mem_map_of_mem (f := fun p : Int × Int => (p.1, DV.restI R (DV.wholeI ws) p.2)) hp
      · have hlf := DV.left_okI (R := R) hw hne
        have hS2 := hk _ _ (fun z => by rw [z] at h9S; have := h9k _ _ (Ne.symm dT) hT; rw [h9S] at this; cases this) (k10 _ _ h9S)
        have k3 : ∀ b u, H2 b = some u → (upd H2 D (.lst (out.map V.int))) b = some u := fun b u e => by rw [upd_ne (ne_of_none e hD)]; exact e
        have h3D : (upd H2 D (.lst (out.map V.int))) D = some (.lst (out.map V.int)) := upd_same
        generalize upd H2 D (.lst (out.map V.int)) = H3 at *
        refine ⟨_, rfl, _, rfl, leftOfI R ws, rfl, D, _, rfl, SqL.of h3D, fun L hL => ⟨L, rfl, ⟨_, SqL.of upd_same⟩, ?_⟩⟩
        have ec : cutV (out.map V.int) none (some (leftOfI R ws)) = (out.take (leftOfI R ws).toNat).map V.int := cut_takeI hlf.1
        rw [ec]
        have k4 : ∀ b u, H3 b = some u → (upd H3 L (.lst ((out.take (leftOfI R ws).toNat).map V.int))) b = some u := fun b u e => by rw [upd_ne (ne_of_none e hL)]; exact e
        have h4L : (upd H3 L (.lst ((out.take (leftOfI R ws).toNat).map V.int))) L = some (.lst ((out.take (leftOfI R ws).toNat).map V.int)) := upd_same
        generalize upd H3 L (.lst ((out.take (leftOfI R ws).toNat).map V.int)) = H4 at *
        have ndo : (out.take (leftOfI R ws).toNat).Nodup := (List.take_sublist _ _).nodup (hp.nodup_iff.mpr nd)
        have sub : ∀ x ∈ out.take (leftOfI R ws).toNat, x ∈ ws.map (·.1) := fun x hx => hp.mem_iff.mp (List.mem_of_mem_take hx)
        have h4S : H4 S = some (.dK (kvWI (dealtI R ws []))) := by
          rw [k4 _ _ (k3 _ _ hS2)]
          simp [dealtI]
        have nLS : L ≠ S := fun z => by rw [z, h4S] at h4L; cases h4L
        generalize hmo : out.take (leftOfI R ws).toNat = more at *
        refine for_list (xs := more.map V.int) (fun j σ H9 => ∃ (u5 u6 : Option V), σ = [some (.int R), some (.ref d), some (.int (DV.wholeI ws)), some (.ref S), some (.ref B), u5, u6, some (.int (leftOfI R ws)), some (.ref D)] ∧
          (∀ b u, b ≠ S → H4 b = some u → H9 b = some u) ∧ H9 S = some (.dK (kvWI (dealtI R ws (more.take j))))) ⟨_, _, rfl, fun _ _ _ e => e, h4S⟩ (fun j σ H9 _ ⟨_, _, _, z, _⟩ => SqL.of (z _ _ nLS h4L)) ?_ ?_
        · rintro j v σ H9' hv ⟨u5, u6, rfl, hk9, hS9⟩
          obtain ⟨x, ex, rfl⟩ : ∃ x, more[j]? = some x ∧ v = .int x := by
            rw [List.getElem?_map] at hv
            cases e : more[j]? with
            | none => rw [e] at hv; cases hv
            | some x => rw [e] at hv; exact ⟨x, rfl, (Option.some.inj hv).symm⟩
          obtain ⟨p, hpm, e⟩ := List.mem_map.mp (sub x (List.mem_of_getElem? ex))
          have hxw : (x, p.2) ∈ ws := by rw [← e]; exact hpm
          have nx : x ∉ more.take j := notin_moreI ndo ex
          have hin : (x, DV.partI R (DV.wholeI ws) p.2) ∈ dealtI R ws (more.take j) := by
            refine List.mem_map.mpr ⟨p, hpm, ?_⟩
            rw [e, if_neg nx, Int.add_zero]
          have ndd : ((dealtI R ws (more.take j)).map (·.1)).Nodup := by unfold dealtI; rw [List.map_map]; exact nd
          have hg : DGet H9' S (kV (.inl x)) (some (.int (DV.partI R (DV.wholeI ws) p.2))) := by
            rw [← valWI ndd hin]
            exact DGet.k hS9
          refine ⟨_, rfl, _, rfl, S, _, rfl, hg, _, _, rfl, rfl, _, rfl, _, rfl, S, _, rfl, DPut.k (k := .inl x) hS9 (by simp only [kvWI, dealtI, List.length_map, sizeLine_eq]; omega), ?_⟩
          rw [putW_oldI (n := DV.partI R (DV.wholeI ws) p.2 + 1) (List.mem_map_of_mem (f := (·.1)) hin), dealt_nextI nd hxw ex]
          refine (show ∃ u5 u6, _ from ⟨_, _, rfl, fun b u hb e => ?_, upd_same⟩)
          rw [upd_ne hb]; exact hk9 b u hb e
        · rintro σ H9' ⟨u5, u6, rfl, hk9, hS9⟩
          rw [List.length_map, List.take_length] at hS9
          have nTS : T ≠ S := fun z => by rw [z] at hT; rw [hT] at hS; cases hS
          have kk : ∀ b u, b ≠ S → H3 b = some u → H9' b = some u := fun b u hb e => hk9 b u hb (k4 _ _ e)
          refine ⟨_, rfl, q S H9' ps' out hS (fun b u hbT hbd e => kk b u (ne_of_none e hS) (k3 _ _ (hk b u hbT (k10 _ _ (h9k b u hbd e))))) (.inr ⟨o, kk d _ (Ne.symm dS) (k3 _ _ (hk d _ dT (k10 _ _ h9d)))⟩) (kk T _ nTS (k3 _ _ hP'))
            ⟨hT'.1, hT'.2.imp id fun ⟨c, e1, e2⟩ => ⟨c, e1, kk c _ (fun z => ?_) (k3 _ _ e2)⟩⟩ hp hs (by rw [hmo]; exact hS9)⟩
          rw [z, hS2] at e2
          cases e2
end
end B32
namespace B32
open PySem L2 S2
theorem perm_unique {α : Type} {le : α → α → Prop} (anti : ∀ a b, le a b → le b a → a = b) : ∀ {l1 l2 : List α}, l1.Perm l2 → l1.Pairwise le → l2.Pairwise le → l1 = l2
  | [], l2, p, _, _ => (List.nil_perm.mp p).symm
  | a :: t1, l2, p, h1, h2 => by
    cases l2 with
    | nil => exact absurd (List.perm_nil.mp p) (by simp)
    | cons b t2 =>
      rw [List.pairwise_cons] at h1 h2
      have e : a = b := by
        rcases List.mem_cons.mp (p.mem_iff.mp (List.mem_cons_self (a := a) (l := t1))) with e | e
        · exact e
        · rcases List.mem_cons.mp (p.mem_iff.mpr (List.mem_cons_self (a := b) (l := t2))) with z | z
          · exact z.symm
          · exact anti _ _ (h1.1 b z) (h2.1 a e)
      subst e
      rw [perm_unique anti ((List.perm_cons a).mp p) h1.2 h2.2]
def onesW (f n : Nat) : List (Int × Int) := (List.range n).map fun i => (((f + i : Nat) : Int), 1)
theorem onesW_keys (f n : Nat) : (onesW f n).map (·.1) = (List.range n).map fun i => ((f + i : Nat) : Int) := by
  unfold onesW
  rw [List.map_map]
  rfl
theorem onesW_nd (f n : Nat) : ((onesW f n).map (·.1)).Nodup := by
  rw [onesW_keys]
  refine List.pairwise_map.mpr ((List.nodup_range (n := n)).imp fun h e => h ?_)
  omega
theorem onesW_whole (f n : Nat) : DV.wholeI (onesW f n) = n := by
  unfold DV.wholeI onesW
  rw [List.map_map]
  have : ∀ l : List Nat, (l.map ((fun x : Int × Int => x.2) ∘ fun i => (((f + i : Nat) : Int), (1 : Int)))).sum = l.length := by
    intro l
    induction l with
    | nil => rfl
    | cons a l ih => rw [List.map_cons, List.sum_cons, ih, List.length_cons]; show (1 : Int) + _ = _; omega
  rw [this, List.length_range]
theorem onesW_rest (R : Int) {f n : Nat} {x : Int} (h : x ∈ (onesW f n).map (·.1)) : restOfI R (onesW f n) x = R % n := by
  obtain ⟨p, hp, e⟩ := List.mem_map.mp h
  have hw : wOfI (onesW f n) x = 1 := by
    unfold wOfI
    cases q : (onesW f n).find? fun p => decide (p.1 = x) with
    | none => exact absurd (List.find?_eq_none.mp q p hp) (by simp [e])
    | some y =>
      have := List.mem_of_find?_eq_some q
      obtain ⟨i, _, rfl⟩ := List.mem_map.mp this
      rfl
  unfold restOfI DV.restI DV.partI
  rw [hw, onesW_whole, Int.mul_one]
  have := Int.mul_ediv_add_emod R n
  rw [Int.mul_comm] at this
  omega
def dealtAt (R : Int) (n i : Nat) : Int := R / n + if (i : Int) < R % n then 1 else 0
theorem deal_ones {R : Int} {f n : Nat} (hn : 0 < n) {out : List Int} (hp : out.Perm ((onesW f n).map (·.1))) (hs : out.Pairwise (fun x y => DV.lexLtI (-(restOfI R (onesW f n) y), y) (-(restOfI R (onesW f n) x), x) = false)) :
    dealtI R (onesW f n) (out.take (leftOfI R (onesW f n)).toNat) = (List.range n).map fun i => (((f + i : Nat) : Int), dealtAt R n i) := by
  have e1 : out = (onesW f n).map (·.1) := by
    refine perm_unique (le := fun x y => DV.lexLtI (-(restOfI R (onesW f n) y), y) (-(restOfI R (onesW f n) x), x) = false) (fun a b h1 h2 => congrArg Prod.snd (DV.lexAntiI h2 h1)) hp hs ?_
    refine List.pairwise_iff_getElem.mpr fun i j hi hj hij => ?_
    have q1 := onesW_rest R (List.getElem_mem hi)
    have q2 := onesW_rest R (List.getElem_mem hj)
    rw [q1, q2]
    have : ∀ (k : Nat) (hk : k < ((onesW f n).map (·.1)).length), ((onesW f n).map (·.1))[k] = ((f + k : Nat) : Int) := fun k hk => by
      simp only [onesW_keys, List.getElem_map, List.getElem_range]
    rw [this, this]
    cases e : DV.lexLtI (-(R % n), ((f + j : Nat) : Int)) (-(R % n), ((f + i : Nat) : Int)) with
    | false => rfl
    | true => rw [DV.lexI_sp] at e; dsimp only at e; omega
  have hn' : (0 : Int) < n := by omega
  have hl : leftOfI R (onesW f n) = R % n := by
    unfold leftOfI
    rw [onesW_whole]
    have : ∀ l : List Nat, ((l.map fun i => (((f + i : Nat) : Int), (1 : Int))).map fun p => DV.partI R n p.2).sum = R / n * l.length := by
      intro l
      induction l with
      | nil => simp
      | cons a l ih =>
        rw [List.map_cons, List.map_cons, List.sum_cons, ih, List.length_cons]
        show R * 1 / n + _ = _
        rw [Int.mul_one, Int.natCast_add, Int.mul_add]
        omega
    unfold onesW
    rw [this, List.length_range]
    have := Int.mul_ediv_add_emod R n
    rw [Int.mul_comm] at this
    omega
  have m0 := Int.emod_nonneg R (show (n : Int) ≠ 0 by omega)
  have m1 := Int.emod_lt_of_pos R hn'
  unfold dealtI
  rw [hl, onesW_whole, e1, onesW_keys]
  unfold onesW
  rw [List.map_map]
  refine List.map_congr_left fun i hi => ?_
  have hi' := List.mem_range.mp hi
  show (((f + i : Nat) : Int), DV.partI R n 1 + if ((f + i : Nat) : Int) ∈ ((List.range n).map fun i => ((f + i : Nat) : Int)).take (R % n).toNat then 1 else 0) = _
  have hm : ((f + i : Nat) : Int) ∈ ((List.range n).map fun i => ((f + i : Nat) : Int)).take (R % n).toNat ↔ (i : Int) < R % n := by
    rw [← List.map_take, List.take_range, List.mem_map]
    constructor
    · rintro ⟨j, hj, e⟩
      have := List.mem_range.mp hj
      omega
    · intro h
      exact ⟨i, List.mem_range.mpr (by omega), rfl⟩
  unfold DV.partI dealtAt
  rw [Int.mul_one]
  by_cases c : (i : Int) < R % n
  · rw [if_pos (hm.mpr c), if_pos c]
  · rw [if_neg (fun z => c (hm.mp z)), if_neg c]
theorem dealtAt_nn {R : Int} (h : 0 ≤ R) (n i : Nat) : 0 ≤ dealtAt R n i := by
  unfold dealtAt
  have : 0 ≤ R / (n : Int) := Int.ediv_nonneg h (by omega)
  split <;> omega
theorem dealtAt_zero (n i : Nat) : dealtAt 0 n i = 0 := by
  unfold dealtAt
  rw [Int.zero_ediv, Int.zero_emod, if_neg (by omega)]
  rfl
structure Ask where
  nm : Str
  fst : Nat
  sp : Nat
  am : Int
def single (ns : List Int) (a : Ask) : List Int := if a.sp = 1 then ns.set a.fst (if ns.getD a.fst 0 < a.am then a.am else ns.getD a.fst 0) else ns
def step1 (ns : List Int) (as : List Ask) : List Int := as.foldl single ns
theorem single_len (ns : List Int) (a : Ask) : (single ns a).length = ns.length := by
  unfold single
  split
  · rw [List.length_set]
  · rfl
theorem step1_len (as : List Ask) : ∀ ns, (step1 ns as).length = ns.length := by
  induction as with
  | nil => intro ns; rfl
  | cons a as ih => intro ns; show (step1 (single ns a) as).length = _; rw [ih, single_len]
def spread (R : Int) (f n : Nat) (ns : List Int) (i : Nat) : List Int := (List.range i).foldl (fun l k => l.set (f + k) (l.getD (f + k) 0 + dealtAt R n k)) ns
theorem spread_succ (R : Int) (f n : Nat) (ns : List Int) (i : Nat) : spread R f n ns (i + 1) = (spread R f n ns i).set (f + i) ((spread R f n ns i).getD (f + i) 0 + dealtAt R n i) := by
  unfold spread
  rw [List.range_succ, List.foldl_append]
  rfl
theorem spread_len (R : Int) (f n : Nat) (ns : List Int) : ∀ i, (spread R f n ns i).length = ns.length
  | 0 => rfl
  | i + 1 => by rw [spread_succ, List.length_set, spread_len R f n ns i]
theorem spread_zero (f n : Nat) (ns : List Int) : ∀ i, spread 0 f n ns i = ns
  | 0 => rfl
  | i + 1 => by
    rw [spread_succ, spread_zero f n ns i, dealtAt_zero, Int.add_zero]
    apply List.ext_getElem?
    intro j
    rw [List.getElem?_set]
    by_cases e : f + i = j
    · subst e
      rw [if_pos rfl]
      by_cases l : f + i < ns.length
      · rw [if_pos l]
        simp [List.getD, List.getElem?_eq_getElem l]
      · rw [if_neg l, List.getElem?_eq_none (by omega)]
    · rw [if_neg e]
abbrev Rz : Type := Str × Nat × Int
def rzOf (R : Int) (nm : Str) (f n i : Nat) : List Rz := ((List.range i).filter fun k => decide (0 < dealtAt R n k)).map fun k => (nm, f + k, dealtAt R n k)
theorem rzOf_succ (R : Int) (nm : Str) (f n i : Nat) : rzOf R nm f n (i + 1) = rzOf R nm f n i ++ if 0 < dealtAt R n i then [(nm, f + i, dealtAt R n i)] else [] := by
  unfold rzOf
  rw [List.range_succ, List.filter_append, List.map_append]
  congr 1
  by_cases c : 0 < dealtAt R n i
  · rw [if_pos c, List.filter_cons_of_pos (p := fun k => decide (0 < dealtAt R n k)) (decide_eq_true c)]; rfl
  · rw [if_neg c, List.filter_cons_of_neg (p := fun k => decide (0 < dealtAt R n k)) (by simpa using c)]; rfl
theorem rzOf_zero (nm : Str) (f n : Nat) : ∀ i, rzOf 0 nm f n i = []
  | 0 => rfl
  | i + 1 => by rw [rzOf_succ, rzOf_zero nm f n i, dealtAt_zero]; rfl
def lackOf (g : Int) (ns : List Int) (a : Ask) : Int := a.am - ((ns.drop a.fst).take a.sp).sum - g * (a.sp - 1)
def roomOf (g : Int) (ns : List Int) (a : Ask) : Int := if 0 < lackOf g ns a then lackOf g ns a else 0
def step2 (g : Int) (st : List Int × List Rz) (a : Ask) : List Int × List Rz := (spread (roomOf g st.1 a) a.fst a.sp st.1 a.sp, st.2 ++ rzOf (roomOf g st.1 a) a.nm a.fst a.sp a.sp)
theorem step2_none {g : Int} {st : List Int × List Rz} {a : Ask} (h : ¬ 0 < lackOf g st.1 a) : step2 g st a = st := by
  unfold step2 roomOf
  rw [if_neg h, spread_zero, rzOf_zero, List.append_nil]
theorem step2_some {g : Int} {st : List Int × List Rz} {a : Ask} (h : 0 < lackOf g st.1 a) : step2 g st a = (spread (lackOf g st.1 a) a.fst a.sp st.1 a.sp, st.2 ++ rzOf (lackOf g st.1 a) a.nm a.fst a.sp a.sp) := by
  unfold step2 roomOf
  rw [if_pos h]
def raisedS (g : Int) (ns : List Int) (as order : List Ask) : List Int × List Rz := order.foldl (step2 g) (step1 ns as, [])
theorem getD_nn {ns : List Int} (h : ∀ z ∈ ns, 0 ≤ z) (i : Nat) : 0 ≤ ns.getD i 0 := by
  rw [List.getD_eq_getElem?_getD]
  cases e : ns[i]? with
  | none => exact Int.le_refl 0
  | some v => exact h v (List.mem_of_getElem? e)
theorem spread_nn {R : Int} (hR : 0 ≤ R) {f n : Nat} {ns : List Int} (h : ∀ z ∈ ns, 0 ≤ z) : ∀ i, ∀ z ∈ spread R f n ns i, 0 ≤ z
  | 0, z, hz => h z hz
  | i + 1, z, hz => by
    rw [spread_succ] at hz
    rcases List.mem_or_eq_of_mem_set hz with q | q
    · exact spread_nn hR h i z q
    · rw [q]
      have := getD_nn (spread_nn hR (f := f) (n := n) h i) (f + i)
      have := dealtAt_nn hR n i
      omega
theorem rzOf_len (R : Int) (nm : Str) (f n i : Nat) : (rzOf R nm f n i).length ≤ i := by
  unfold rzOf
  rw [List.length_map]
  exact Nat.le_trans (List.length_filter_le _ _) (by rw [List.length_range]; exact Nat.le_refl _)
theorem sum_nn : ∀ {l : List Int}, (∀ z ∈ l, 0 ≤ z) → 0 ≤ l.sum
  | [], _ => Int.le_refl 0
  | a :: l, h => by
    have := sum_nn (l := l) fun z hz => h z (List.mem_cons_of_mem _ hz)
    have := h a List.mem_cons_self
    rw [List.sum_cons]
    omega
theorem room_ok {g : Int} {ns : List Int} {a : Ask} (hg : 0 ≤ g) (h : ∀ z ∈ ns, 0 ≤ z) (h1 : 1 ≤ a.sp) (h2 : 0 ≤ a.am) (h3 : a.am ≤ 1000000) : 0 ≤ roomOf g ns a ∧ roomOf g ns a ≤ 1000000 := by
  have q1 : 0 ≤ ((ns.drop a.fst).take a.sp).sum := sum_nn fun z hz => h z (List.mem_of_mem_drop (List.mem_of_mem_take hz))
  have q2 : 0 ≤ g * (a.sp - 1) := Int.mul_nonneg hg (by omega)
  unfold roomOf lackOf
  split <;> omega
theorem single_nn {ns : List Int} (h : ∀ z ∈ ns, 0 ≤ z) {a : Ask} (ha : 0 ≤ a.am) : ∀ z ∈ single ns a, 0 ≤ z := by
  intro z hz
  unfold single at hz
  split at hz
  · rcases List.mem_or_eq_of_mem_set hz with q | q
    · exact h z q
    · rw [q]
      have := getD_nn h a.fst
      split <;> omega
  · exact h z hz
theorem step1_nn : ∀ {as : List Ask} {ns : List Int}, (∀ z ∈ ns, 0 ≤ z) → (∀ a ∈ as, 0 ≤ a.am) → ∀ z ∈ step1 ns as, 0 ≤ z
  | [], _, h, _ => h
  | a :: as, ns, h, ha => step1_nn (as := as) (ns := single ns a) (single_nn h (ha a List.mem_cons_self)) fun b hb => ha b (List.mem_cons_of_mem _ hb)
theorem max_room {g : Int} {ns : List Int} {a : Ask} : (if (0 : Int) > lackOf g ns a then (0 : Int) else lackOf g ns a) = roomOf g ns a := by
  unfold roomOf
  split <;> split <;> omega
end B32
namespace B32
open PySem L2 S2
theorem pg_twoK {X : Cx} {K : PySem.W.Frag} (hK : X.K = K) {x y : Str} {px py pt : Pos} {kk : Nat} (hc : X.calm = true) (hN : X.N.Nodup) (h0 : X.N[0]? = some x) (h1 : X.N[1]? = some y) (hx : X.env.scope.names.lookup x = some .local) (hy : X.env.scope.names.lookup y = some .local)
    (ha : (assignEach [.Name x px, .Name y py] X.env).map (·.2) = [assign (.Name x px) X.env, assign (.Name y py) X.env] := by rfl) (hb : (assignEach [.Name y py] X.env).map (·.2) = [assign (.Name y py) X.env] := by rfl)
    (hn : (assignEach [.Name x px, .Name y py] X.env).length = 2 := by rfl) (hst : (assignEach [.Name x px, .Name y py] X.env).findIdx? (·.1) = none := by rfl) : PG X (.Tuple [.Name x px, .Name y py] kk pt) (gTwo K) := by
  subst hK
  exact pg_tup hc (pgs_cons (pg_name hN h0 (.inl hx) (.inr hx)) (pgs_cons (pg_name hN h1 (.inl hy) (.inr hy)) pgs_nil (by rw [hb]; rfl)) (by rw [ha, hb])) hn hst
theorem comp_listF {K : PySem.W.Frag} {a : Addr} {xs : List V} {tt : TT} {te : TE} {σ : St} {H : Hp} {Q : VK} (Pv : Addr → Nat → List V → Hp → Prop) (hn : xs.length < sizeLine) (h0 : ∀ D, H D = none → Pv D 0 [] (upd H D (.lst [])))
    (hs : ∀ D i l H', Pv D i l H' → SqL K H' a xs) (hl : ∀ D i l H', Pv D i l H' → l.length ≤ i)
    (he : ∀ (D : Addr) (i : Nat) (x : V) (l : List V) (H' : Hp) (Q1 : Bool → Hp → Prop), xs[i]? = some x → Pv D i l H' → (∀ b H2, (b = false → Pv D (i + 1) l H2) → (b = true → ∀ Q' : VK, (∀ y H3, H3 D = some (.lst l) → Pv D (i + 1) (l ++ [y]) (upd H3 D (.lst (l ++ [y]))) → Q' y H3) → te (some x :: σ) H2 Q') → Q1 b H2) → tt (some x :: σ) H' Q1)
    (hd : ∀ D l H', H D = none → Pv D xs.length l H' → Q (.ref D) H') : CompGo (Itl K a) H σ tt te Q := by
  intro D hD
  refine ⟨fun i m H' => m = xs.length - i ∧ i ≤ xs.length ∧ ∃ l, Pv D i l H', ⟨xs.length, by omega, Nat.zero_le _, [], h0 D hD⟩, ?_⟩
  rintro i m H' ⟨rfl, hi, l, hp⟩
  have q := hs D i l H' hp
  by_cases hlt : i < xs.length
  · refine .inr ⟨⟨xs, xs[i], q, by simp [hlt]⟩, fun x H2 y => ?_⟩
    obtain ⟨e, y⟩ := y
    subst e
    refine he D i x l H2 _ (y xs q) hp fun b H3 hf ht => ?_
    cases b with
    | false =>
      refine iteF ?_
      exact ⟨xs.length - (i + 1), by omega, rfl, hlt, l, hf rfl⟩
    | true =>
      refine iteT (ht rfl _ fun v H4 z1 z2 => ?_)
      have hl2 := hl D i l H2 hp
      exact ⟨l, z1, Nat.lt_of_le_of_lt hl2 (by omega), xs.length - (i + 1), by omega, rfl, hlt, l ++ [v], z2⟩
  · have e : i = xs.length := by omega
    subst e
    exact .inl ⟨⟨xs, q, Nat.le_refl _⟩, hd D l H' hD hp⟩
def askV (a : Ask) : List V := [.str a.nm, .int a.fst, .int a.sp, .int a.am]
def askAt (H : Hp) (v : V) : Ask := match v with
  | .ref p => (match H p with
    | some (.tup [.str nm, .int f, .int sp, .int am]) => ⟨nm, f.toNat, sp.toNat, am⟩
    | _ => ⟨"", 0, 0, 0⟩)
  | _ => ⟨"", 0, 0, 0⟩
theorem askAt_of {H : Hp} {p : Addr} {a : Ask} (h : H p = some (.tup (askV a))) : askAt H (.ref p) = a := by
  unfold askAt
  simp only [h, askV, Int.toNat_natCast]
def IsAsk (H : Hp) (x : V) : Prop := ∃ p, x = .ref p ∧ H p = some (.tup (askV (askAt H x)))
theorem IsAsk.of {H : Hp} {p : Addr} {a : Ask} (h : H p = some (.tup (askV a))) : IsAsk H (.ref p) := ⟨p, rfl, by rw [askAt_of h]; exact h⟩
def KpT (H H' : Hp) : Prop := ∀ b xs, H b = some (.tup xs) → H' b = some (.tup xs)
def keyA (a : Ask) : Int × Str := (a.sp, a.nm)
def GoodAsk (m : Nat) (a : Ask) : Prop := 1 ≤ a.sp ∧ a.fst + a.sp ≤ m ∧ 0 ≤ a.am ∧ a.am ≤ 1000000
def rzV (r : Rz) : List V := [.str r.1, .int r.2.1, .int r.2.2]
def spOrder : Sp := fun vs H Q _ => ∃ (p : Addr) (a : Ask), vs = [.ref p] ∧ H p = some (.tup (askV a)) ∧ ∀ (q : Addr) (H' : Hp), Same H H' → H' q = some (.tup [.int a.sp, .str a.nm]) → Q (.ref q) H'
def spTracks (K : PySem.W.Frag) (T : Addr) : Sp := fun vs H Q _ => ∃ (lf la : Addr) (m : Nat) (g : Int) (fl : List Int) (xs : List V) (ps : Array Value), vs = [.int m, .int g, .ref lf, .ref la] ∧ SqL K H lf (fl.map V.int) ∧ fl.length = m ∧ m ≤ 12 ∧ 0 ≤ g ∧ g ≤ 1000 ∧ (∀ z ∈ fl, 0 ≤ z) ∧
  SqL K H la xs ∧ (∀ x ∈ xs, IsAsk H x ∧ GoodAsk m (askAt H x)) ∧ xs.length ≤ 10 ∧ H T = some (.tbl ps) ∧ TabOk H lamPos lamQual ps ∧
  ∀ (t ln lr : Addr) (ra : List Addr) (H' : Hp) (ps' : Array Value) (order : List Ask), H t = none → H ln = none → H lr = none → (∀ b u, b ≠ T → H b = some u → H' b = some u) → H' T = some (.tbl ps') → TabOk H' lamPos lamQual ps' →
    order.Perm ((xs.map (askAt H)).filter fun a => decide (1 < a.sp)) → order.Pairwise (fun x y => DV.lexLt (keyA y) (keyA x) = false) → H' t = some (.tup [.ref ln, .ref lr]) → H' ln = some (.lst ((raisedS g fl (xs.map (askAt H)) order).1.map V.int)) →
    H' lr = some (.lst (ra.map V.ref)) → RowsOf H' ra ((raisedS g fl (xs.map (askAt H)) order).2.map rzV) → Q (.ref t) H'
theorem compN_of {J : It} {H1 : Hp} {σ : St} {te : TE} {Q : VK} (h : CompGo J H1 σ ttAll te Q) : CompGoN J H1 1 σ (gName 0) ttAll te Q := by
  intro D hD
  obtain ⟨W, w0, turn⟩ := h D hD
  refine ⟨W, w0, fun i m H hw => ?_⟩
  rcases turn i m H hw with q | ⟨go, step⟩
  · exact .inl q
  · refine .inr ⟨go, fun x H' ρ lρ y => ?_⟩
    match ρ, lρ with
    | [r0], _ => exact ⟨⟨[some x], rfl, rfl⟩, step x H' y⟩
theorem ixN_nat {n j : Nat} (h : j < n) : ixN n (j : Int) = some j := by
  unfold ixN
  rw [if_pos (by omega), if_pos (by omega)]
  simp
theorem iat' {ns : List Int} {j : Nat} (h : j < ns.length) : atI (ns.map V.int) ((j : Nat) : Int) = some (.int (ns.getD j 0)) := atI_nat (by rw [List.getElem?_map, List.getD_eq_getElem?_getD, List.getElem?_eq_getElem h]; rfl)
theorem map_getD_range (fl : List Int) : (List.range fl.length).map (fun i => V.int (fl.getD i 0)) = fl.map V.int := by
  apply List.ext_getElem?
  intro i
  rw [List.getElem?_map, List.getElem?_map]
  by_cases h : i < fl.length
  · rw [List.getElem?_range h, List.getElem?_eq_getElem h]
    simp [List.getD, h]
  · rw [List.getElem?_eq_none (by rw [List.length_range]; omega), List.getElem?_eq_none (by omega)]
    rfl
theorem mergeP_ones (f : Nat) : ∀ (n : Nat), mergeP [] (kvWI (onesW f n)) = kvWI (onesW f n)
  | 0 => rfl
  | n + 1 => by
    have e : onesW f (n + 1) = onesW f n ++ [(((f + n : Nat) : Int), 1)] := by unfold onesW; rw [List.range_succ, List.map_append]; rfl
    have ek : kvWI (onesW f (n + 1)) = kvWI (onesW f n) ++ [(Sum.inl ((f + n : Nat) : Int), V.int 1)] := by rw [e]; unfold kvWI; rw [List.map_append]; rfl
    have ih := mergeP_ones f n
    rw [ek]
    unfold mergeP at ih ⊢
    rw [List.foldl_append, ih]
    show putK (kvWI (onesW f n)) (Sum.inl ((f + n : Nat) : Int)) (V.int 1) = _
    rw [putW_newI (n := 1), ← ek, e]
    intro hx
    rw [onesW_keys] at hx
    obtain ⟨i, hi, e2⟩ := List.mem_map.mp hx
    have := List.mem_range.mp hi
    omega
theorem tab_keep {H H' : Hp} {pos : Pos} {q : Str} {ps : Array Value} (h : TabOk H pos q ps) (k : ∀ c, H c = some (CodeO c q) → H' c = some (CodeO c q)) : TabOk H' pos q ps :=
  ⟨h.1, h.2.imp id fun ⟨c, e1, e2⟩ => ⟨c, e1, k c e2⟩⟩
theorem rowsK {H H' : Hp} {as : List Addr} {rows : List (List V)} (h : RowsOf H as rows) (k : KpT H H') : RowsOf H' as rows := ⟨h.1, fun i p r e1 e2 => k _ _ (h.2 i p r e1 e2)⟩
theorem rows_app {H : Hp} {as bs : List Addr} {r1 r2 : List (List V)} (h1 : RowsOf H as r1) (h2 : RowsOf H bs r2) : RowsOf H (as ++ bs) (r1 ++ r2) := by
  refine ⟨by rw [List.length_append, List.length_append, h1.1, h2.1], fun i p r e1 e2 => ?_⟩
  by_cases hi : i < as.length
  · rw [List.getElem?_append_left hi] at e1
    rw [List.getElem?_append_left (by rw [← h1.1]; exact hi)] at e2
    exact h1.2 i p r e1 e2
  · rw [List.getElem?_append_right (by omega)] at e1
    rw [List.getElem?_append_right (by rw [← h1.1]; omega), ← h1.1] at e2
    exact h2.2 _ p r e1 e2
section
variable {P : Program} {w : World} {K : PySem.W.Frag} {mg : Str → Option Value} {base : Heap}
theorem scOrder : FnScope ["ask"] ["ask"] (defScope sOrder) := ⟨rfl, rfl, rfl, by decide +kernel, rfl, by decide +kernel, by decide +kernel⟩
theorem ok_order {f : Addr} {fd : FuncData} (F : Fun K "raise_order" "raise_order" sOrder f fd) : FnOk P w K mg base CX0 1 f fd ["ask"] spOrder := by
  refine F.ok scOrder (fun vs H Q E h => ?_) (fun cdv A outer s H vs Q E hr h => ?_)
  · obtain ⟨p, a, e, _⟩ := h
    rw [e]
    rfl
  · obtain ⟨p, a, e, hp, k⟩ := h
    subst e
    refine ⟨_, pss_one (ps_ret (pe_tup (pa_cons (pe_ix ix_tup (pv 0) pe_int (fun _ _ => rfl)) (pa_cons (pe_ix ix_tup (pv 0) pe_int (fun _ _ => rfl)) pa_nil)))), ?_⟩
    exact ⟨_, rfl, p, _, _, _, rfl, rfl, SqT.of hp, atI_nat (j := 2) rfl, _, rfl, p, _, _, _, rfl, rfl, SqT.of hp, atI_nat (j := 0) rfl, (by show 2 ≤ sizeLine; decide), fun q hq => k q _ (Same.put (Same.refl _) hq) upd_same⟩
abbrev nT : List Str := ["many", "gap", "floor", "asks", "numbers", "name", "first", "spanned", "amount", "raises", "several", "lack", "dealt", "column", "cells"]
abbrev nC1 : List Str := ["column", "many", "gap", "floor", "asks", "numbers", "name", "first", "spanned", "amount", "raises", "several", "lack", "dealt", "0", "cells"]
abbrev nC3 : List Str := ["column", "cells", "many", "gap", "floor", "asks", "numbers", "name", "first", "spanned", "amount", "raises", "several", "lack", "dealt", "0", "1"]
theorem ndC1 : nC1.Nodup := by decide +kernel
theorem ndC3 : nC3.Nodup := by decide +kernel
theorem scTracks : FnScope nT ["many", "gap", "floor", "asks"] (defScope sTracks) := ⟨rfl, rfl, rfl, by decide +kernel, rfl, by decide +kernel, by decide +kernel⟩
set_option maxHeartbeats 16000000 in
theorem ok_tracks {f f1 f2 T : Addr} {fd d1 d2 : FuncData} (F : Fun K "raise_tracks" "raise_tracks" sTracks f fd) (N : Names mg)
    (G1 : FnOk P w K mg base CX0 1 f1 d1 ["ask"] spOrder) (b1 : Binds K d1 ["ask"] []) (m1 : mg "raise_order" = some (.ref f1)) (k1 : PySem.W.keepIn K (.ref f1) = true)
    (G2 : FnOk P w K mg base CX0 2 f2 d2 ["room", "weights"] (spDealI T)) (b2 : Binds K d2 ["room", "weights"] []) (m2 : mg "deal" = some (.ref f2)) (k2 : PySem.W.keepIn K (.ref f2) = true) :
    FnOk P w K mg base CX0 4 f fd ["many", "gap", "floor", "asks"] (spTracks K T) := by
  refine F.ok scTracks (fun vs H Q E h => ?_) (fun cdv A outer s H vs Q E hr h => ?_)
  · obtain ⟨lf, la, m, g, fl, xs, ps, e, _⟩ := h
    rw [e]
    rfl
  · obtain ⟨lf, la, m, g, fl, xs, ps, e, hF, hfl, hm, hg0, hg1, hnn, hA, hxs, hx10, hT, hTk, k⟩ := h
    subst e
    have hr2 := hr.mono (j := 2) (by decide)
    refine ⟨_, pss_cons (ps_setCompN (i := 4) (k := 1) (N' := nC1) (compScN_mk (fs := defScope sTracks) (N := nT) rfl rfl (by decide +kernel)) rfl scTracks.nd rfl (Or.inl rfl) (pi_range1 (by rfl) N.range (pa_cons (pv 0) pa_nil)) (fun _ _ _ _ _ => pg_name (i := 0) ndC1 rfl (Or.inl rfl)) (fun _ _ _ _ _ => pts_nil)
        (fun _ _ _ _ _ => pe_ix (r := rIxL K) ix_list (pv 3) (pv 0) (fun _ _ => rfl)) rfl)
      (pss_cons (ps_for PassesOwn.never rfl (pi_list (pv 3)) (pg_tup rfl (pgs_cons (pg_name (i := 5) scTracks.nd rfl (Or.inr rfl)) (pgs_cons (pg_name (i := 6) scTracks.nd rfl (Or.inl rfl)) (pgs_cons (pg_name (i := 7) scTracks.nd rfl (Or.inl rfl)) (pgs_cons (pg_name (i := 8) scTracks.nd rfl (Or.inl rfl)) pgs_nil)))))
        (pss_one (ps_if (pt_cmpR op_eq (pv 7) pe_int (nomark _)) (pss_one (ps_asg (pe_callB (call_max2 rfl) (by rfl) N.max PyProof.Rows.boot_max (pa_cons (pe_ix ix_list (pv 4) (pv 6) (fun _ _ => rfl)) (pa_cons (pv 8) pa_nil))) (pg_sub (pv 4) (pv 6) set_list))) pss_nil)))
      (pss_cons (ps_set (i := 9) scTracks.nd rfl (Or.inl rfl) (pe_lst pa_nil))
      (pss_cons (ps_setComp (i := 10) (compSc_mk (fs := defScope sTracks) (N := nT) rfl rfl (by decide +kernel)) rfl scTracks.nd rfl (Or.inl rfl) (pi_list (pv 3)) (fun _ _ _ _ _ => pts_one (pt_cmpR op_gt (pe_ix (r := rIxT K) ix_tup (pv 0) pe_int (fun _ _ => rfl)) pe_int (nomark _))) (fun _ _ _ _ _ => pv 0) rfl)
      (pss_cons (ps_for PassesOwn.never rfl (pi_list (pe_sortD G1 (hr.mono (j := 3) (by decide)) b1 (by rfl) N.sorted (pa_cons (pv 10) pa_nil) (pk_cons (pe_glob (v := .ref f1) (by rfl) m1 rfl) pk_nil))) (pg_tup rfl (pgs_cons (pg_name (i := 5) scTracks.nd rfl (Or.inr rfl)) (pgs_cons (pg_name (i := 6) scTracks.nd rfl (Or.inl rfl)) (pgs_cons (pg_name (i := 7) scTracks.nd rfl (Or.inl rfl)) (pgs_cons (pg_name (i := 8) scTracks.nd rfl (Or.inl rfl)) pgs_nil)))))
        (pss_cons (ps_set (i := 11) scTracks.nd rfl (Or.inl rfl) (pe_op op_sub (pe_op op_sub (pv 8) (pe_callB (call_sumL rfl) (by rfl) N.sum PyProof.Rows.boot_sum (pa_cons (pe_slice sl_list (pv 4) (po_some (pv 6)) (po_some (pe_op op_add (pv 6) (pv 7)))) pa_nil))) (pe_op op_mul (pv 1) (pe_op op_sub (pv 7) pe_int))))
        (pss_cons (ps_set (i := 12) scTracks.nd rfl (Or.inl rfl) (pe_call G2 hr2 (by rfl) m2 k2 b2 .nil pass0 (pa_cons (pe_callB (call_max2 rfl) (by rfl) N.max PyProof.Rows.boot_max (pa_cons (pv 11) (pa_cons pe_int pa_nil))) (pa_cons (pe_callTy (call_dictPK rfl) (by rfl) N.dict PyProof.Rows.boot_dict (pa_cons
            (pe_compN (k := 1) (N' := nC1) (compScN_mk (fs := defScope sTracks) (N := nT) rfl rfl (by decide +kernel)) rfl (pi_range2 (by rfl) N.range (pa_cons (pv 6) (pa_cons (pe_op op_add (pv 6) (pv 7)) pa_nil))) (fun _ _ _ _ _ => pg_name (i := 0) ndC1 rfl (Or.inl rfl)) (fun _ _ _ _ _ => pts_nil) (fun _ _ _ _ _ => pe_tup (pa_cons (pv 0) (pa_cons pe_int pa_nil)))) pa_nil)) pa_nil))))
        (pss_cons (ps_for PassesOwn.never rfl (pi_items (pv 12)) (pg_tup rfl (pgs_cons (pg_name (i := 13) scTracks.nd rfl (Or.inl rfl)) (pgs_cons (pg_name (i := 14) scTracks.nd rfl (Or.inl rfl)) pgs_nil)))
          (pss_one (ps_asg (pe_op op_add (pe_ix ix_list (pv 4) (pv 13) (fun _ _ => rfl)) (pv 14)) (pg_sub (pv 4) (pv 13) set_list))))
        (pss_one (ps_expr (pe_bm PySem.F.plainAttrs_list PySem.F.slot_list_extend PySem.F.type_list_extend mt_extend (pv 9) (pa_cons
            (pe_compN (k := 2) (N' := nC3) (compScN_mk (fs := defScope sTracks) (N := nT) rfl rfl (by decide +kernel)) rfl (pi_items (pv 12)) (fun _ _ _ _ _ => pg_twoK (K := K) rfl rfl ndC3 rfl rfl rfl rfl) (fun _ _ _ _ _ => pts_one (pt_cmpR op_gt (pv 1) pe_int (nomark _))) (fun _ _ _ _ _ => pe_tup (pa_cons (pv 7) (pa_cons (pv 0) (pa_cons (pv 1) pa_nil))))) pa_nil))))))))
      (pss_one (ps_ret (pe_tup (pa_cons (pv 4) (pa_cons (pv 9) pa_nil))))))))), ?_⟩
    -- numbers
    refine ⟨_, rfl, (m : Int), rfl, by omega, by omega, ?_⟩
    have em : ((m : Int)).toNat = m := by omega
    rw [em]
    have e0 : (List.range m).map (fun i => V.int (fl.getD i 0)) = fl.map V.int := by rw [← hfl]; exact map_getD_range fl
    refine compN_of (comp_range (fun i => V.int (fl.getD i 0)) (small (by omega)) ?_ fun ln hln => ?_)
    · intro D i l Q' hD hi hq
      exact ⟨_, rfl, _, rfl, lf, _, _, _, rfl, rfl, (Same.put (Same.refl _) hD : Same H _).seq hF, (by rw [Int.zero_add]; exact iat' (by omega)), hq⟩
    rw [e0]
    have s1 : Same H (upd H ln (.lst (fl.map V.int))) := Same.put (Same.refl _) hln
    have h1n : (upd H ln (.lst (fl.map V.int))) ln = some (.lst (fl.map V.int)) := upd_same
    generalize upd H ln (.lst (fl.map V.int)) = H1 at *
    -- the asks of one column
    refine ⟨_, rfl, la, rfl, ⟨_, s1.seq hA⟩, for_list (K := K) (a := la) (xs := xs) (fun i σ H9 => ∃ (u5 u6 u7 u8 : Option V), σ = [some (.int m), some (.int g), some (.ref lf), some (.ref la), some (.ref ln), u5, u6, u7, u8, none, none, none, none, none, none] ∧ (∀ b u, b ≠ ln → H1 b = some u → H9 b = some u) ∧ H9 ln = some (.lst ((step1 fl ((xs.take i).map (askAt H))).map V.int)))
      ⟨none, none, none, none, rfl, fun _ _ _ e => e, h1n⟩ (fun i σ H9 _ ⟨_, _, _, _, _, z, _⟩ => hA.keep fun o e => z _ _ (ne_of_none e hln) (s1 _ _ e)) ?_ ?_⟩
    · rintro i x σ H9 hx ⟨u5, u6, u7, u8, rfl, k9, h9n⟩
      have etk : (xs.take (i + 1)).map (askAt H) = (xs.take i).map (askAt H) ++ [askAt H x] := by rw [List.take_add_one, hx, List.map_append]; rfl
      obtain ⟨⟨p, rfl, hp⟩, g1, g2, g3, g4⟩ := hxs x (List.mem_of_getElem? hx)
      have hp9 := k9 _ _ (ne_of_none hp hln) (s1 _ _ hp)
      generalize askAt H (.ref p) = a at *
      have est : step1 fl ((xs.take (i + 1)).map (askAt H)) = single (step1 fl ((xs.take i).map (askAt H))) a := by rw [etk]; unfold step1; rw [List.foldl_append]; rfl
      have hlen : (step1 fl ((xs.take i).map (askAt H))).length = m := by rw [step1_len]; exact hfl
      rw [est]
      generalize step1 fl ((xs.take i).map (askAt H)) = ns at *
      refine ⟨p, _, rfl, SqT.of hp9, rfl, _, _, rfl, _, _, rfl, _, _, rfl, _, _, rfl, rfl, ?_⟩
      refine ⟨_, rfl, rfl, _, rfl, ite2 (fun hc => ?_) (fun hc => ?_)⟩
      · have h1 : a.sp = 1 := by
          have := V.int.inj (of_decide_eq_true hc)
          omega
        refine ⟨_, rfl, _, rfl, ln, _, _, _, rfl, rfl, SqL.of h9n, iat' (by omega), _, rfl, _, _, rfl, _, rfl, _, rfl, ln, _, _, a.fst, rfl, rfl, h9n, ixN_nat (by rw [List.length_map]; omega), ?_⟩
        refine ⟨_, _, _, _, rfl, fun b u hb e => by rw [upd_ne hb]; exact k9 b u hb e, ?_⟩
        rw [upd_same]
        unfold single
        rw [if_pos h1, List.map_set]
      · have h1 : ¬ a.sp = 1 := fun z => hc (decide_eq_true (by rw [z]; rfl))
        refine ⟨_, _, _, _, rfl, k9, ?_⟩
        unfold single
        rw [if_neg h1]
        exact h9n
    rintro σ H2 ⟨u5, u6, u7, u8, rfl, k2', h2n⟩
    rw [List.take_length] at h2n
    have s02 : Same H H2 := fun b u e => k2' b u (ne_of_none e hln) (s1 _ _ e)
    -- raises, several
    refine ⟨smallE (by simp), fun lr hlr => ?_⟩
    have hlr0 : H lr = none := same_none s02 hlr
    have s3 : Same H2 (upd H2 lr (.lst [])) := Same.put (Same.refl _) hlr
    have h3r : (upd H2 lr (.lst [])) lr = some (.lst []) := upd_same
    have nnr : ln ≠ lr := ne_of_none h2n hlr
    generalize upd H2 lr (.lst []) = H3 at *
    have s03 : Same H H3 := s02.trans s3
    have h3n := s3 _ _ h2n
    refine ⟨_, rfl, la, rfl, ⟨_, s03.seq hA⟩, ?_⟩
    refine comp_listF (K := K) (a := la) (xs := xs) (fun D i l H' => H3 D = none ∧ l = (xs.take i).filter (fun x => decide (1 < (askAt H x).sp)) ∧ H' = upd H3 D (.lst l)) (small (by omega)) (fun D hD => ⟨hD, rfl, rfl⟩)
      (fun D i l H' ⟨hD, _, e⟩ => by rw [e]; exact (Same.put s03 (same_none s03 hD)).seq hA) (fun D i l H' ⟨_, e, _⟩ => by rw [e]; exact Nat.le_trans (List.length_filter_le _ _) (by rw [List.length_take]; omega)) ?_ ?_
    · rintro D i x l H' Q1 hx ⟨hD, rfl, rfl⟩ hq
      have etk : (xs.take (i + 1)).filter (fun x => decide (1 < (askAt H x).sp)) = (xs.take i).filter (fun x => decide (1 < (askAt H x).sp)) ++ (if 1 < (askAt H x).sp then [x] else []) := by
        rw [List.take_add_one, hx, List.filter_append]
        congr 1
        by_cases c : 1 < (askAt H x).sp
        · rw [if_pos c]; exact List.filter_cons_of_pos (p := fun x => decide (1 < (askAt H x).sp)) (decide_eq_true c)
        · rw [if_neg c]; exact List.filter_cons_of_neg (p := fun x => decide (1 < (askAt H x).sp)) (by simpa using c)
      obtain ⟨⟨p, rfl, hp⟩, _⟩ := hxs x (List.mem_of_getElem? hx)
      have hp3 : (upd H3 D (.lst ((xs.take i).filter (fun x => decide (1 < (askAt H x).sp))))) p = some (.tup (askV (askAt H (.ref p)))) := Same.put (Same.refl _) hD _ _ (s03 _ _ hp)
      refine ⟨_, rfl, p, _, _, _, rfl, rfl, SqT.of hp3, atI_nat (j := 2) rfl, _, _, rfl, rfl, _, rfl, ?_⟩
      refine hq _ _ (fun hb => ⟨hD, ?_, rfl⟩) (fun hb Q' hq' => ⟨_, rfl, hq' _ _ upd_same ⟨hD, ?_, by rw [upd_upd]⟩⟩)
      · rw [etk, if_neg (fun z => by have := of_decide_eq_false hb; omega), List.append_nil]
      · rw [etk, if_pos (by have := of_decide_eq_true hb; omega)]
    rintro lsv l H4 _ ⟨hsv, rfl, rfl⟩
    rw [List.take_length]
    generalize hys : xs.filter (fun x => decide (1 < (askAt H x).sp)) = ys at *
    have ysub : ∀ y ∈ ys, y ∈ xs ∧ 1 < (askAt H y).sp := fun y hy => by
      rw [← hys] at hy
      have := List.mem_filter.mp hy
      exact ⟨this.1, of_decide_eq_true this.2⟩
    have hyl : ys.length ≤ 10 := by rw [← hys]; exact Nat.le_trans (List.length_filter_le _ _) hx10
    have s4 : Same H3 (upd H3 lsv (.lst ys)) := Same.put (Same.refl _) hsv
    have h4 : (upd H3 lsv (.lst ys)) lsv = some (.lst ys) := upd_same
    generalize upd H3 lsv (.lst ys) = H4 at *
    have s04 : Same H H4 := s03.trans s4
    refine ⟨_, rfl, lsv, ys, fun v => keyA (askAt H v), rfl, rfl, SqL.of h4, by omega, fun x H' Q' hx s' hq => ?_, fun lo out H5 hlo s5 hperm hsort => ?_⟩
    · obtain ⟨⟨p, rfl, hp⟩, _⟩ := hxs x (ysub x hx).1
      exact ⟨p, _, rfl, s' _ _ (s04 _ _ hp), fun q2 H'' s'' h'' => hq q2 H'' s'' h''⟩
    have h6o : (upd H5 lo (.lst out)) lo = some (.lst out) := upd_same
    have s6 : Same H4 (upd H5 lo (.lst out)) := Same.put s5 (same_none s5 hlo)
    have h5n := s5 _ _ (s4 _ _ h3n)
    have h5r := s5 _ _ (s4 _ _ h3r)
    have non : lo ≠ ln := Ne.symm (ne_of_none h5n hlo)
    have nor : lo ≠ lr := Ne.symm (ne_of_none h5r hlo)
    generalize upd H5 lo (.lst out) = H6 at *
    have s06 : Same H H6 := s04.trans s6
    have h6n := s6 _ _ (s4 _ _ h3n)
    have h6r := s6 _ _ (s4 _ _ h3r)
    have hT6 := s06 _ _ hT
    have hTk6 : TabOk H6 lamPos lamQual ps := tab_keep hTk fun c e => s06 _ _ e
    have hop : ∀ x ∈ out, x ∈ ys := fun x hx => hperm.mem_iff.mp hx
    have hol : out.length ≤ 10 := by rw [hperm.length_eq]; exact hyl
    have nnT : ln ≠ T := ne_of h6n hT6 (by intro z; cases z)
    have nrT : lr ≠ T := ne_of h6r hT6 (by intro z; cases z)
    have noT : lo ≠ T := ne_of h6o hT6 (by intro z; cases z)
    refine ⟨lo, rfl, ⟨_, SqL.of h6o⟩, for_list (K := K) (a := lo) (xs := out) (fun i σ H9 => ∃ (w5 w6 w7 w8 w11 w12 w13 w14 : Option V) (ra : List Addr) (ps9 : Array Value), σ = [some (.int m), some (.int g), some (.ref lf), some (.ref la), some (.ref ln), w5, w6, w7, w8, some (.ref lr), some (.ref lsv), w11, w12, w13, w14] ∧ (∀ b u, b ≠ T → b ≠ ln → b ≠ lr → H6 b = some u → H9 b = some u) ∧
        H9 ln = some (.lst ((raisedS g fl (xs.map (askAt H)) ((out.take i).map (askAt H))).1.map V.int)) ∧ H9 lr = some (.lst (ra.map V.ref)) ∧ RowsOf H9 ra ((raisedS g fl (xs.map (askAt H)) ((out.take i).map (askAt H))).2.map rzV) ∧ H9 T = some (.tbl ps9) ∧ TabOk H9 lamPos lamQual ps9 ∧
        (raisedS g fl (xs.map (askAt H)) ((out.take i).map (askAt H))).1.length = m ∧ (∀ z ∈ (raisedS g fl (xs.map (askAt H)) ((out.take i).map (askAt H))).1, 0 ≤ z) ∧ ra.length ≤ 12 * i)
      ⟨u5, u6, u7, u8, none, none, none, none, [], ps, rfl, fun _ _ _ _ _ e => e, h6n, h6r, RowsOf.nil, hT6, hTk6, by show (step1 fl _).length = m; rw [step1_len]; exact hfl, step1_nn hnn (fun b hb => by
          obtain ⟨y, hy, rfl⟩ := List.mem_map.mp hb
          exact (hxs y hy).2.2.2.1), Nat.le_refl _⟩ (fun i σ H9 _ ⟨_, _, _, _, _, _, _, _, _, _, _, z, _⟩ => SqL.of (z _ _ noT non nor h6o)) ?_ ?_⟩
    · rintro i x σ H9 hx ⟨w5, w6, w7, w8, w11, w12, w13, w14, ra, ps9, rfl, k9, h9n, h9r, hR9, hT9, hTk9, hl9, hn9, hra⟩
      have etk : (out.take (i + 1)).map (askAt H) = (out.take i).map (askAt H) ++ [askAt H x] := by rw [List.take_add_one, hx, List.map_append]; rfl
      have hi10 : i < 10 := by have := get_lt hx; omega
      have hxo := hop x (List.mem_of_getElem? hx)
      have hsp1 := (ysub x hxo).2
      obtain ⟨⟨p, rfl, hp⟩, g1, g2, g3, g4⟩ := hxs x (ysub x hxo).1
      have hp9 := k9 _ _ (ne_of hp hT (by intro z; cases z)) (ne_of_none hp hln) (ne_of_none hp hlr0) (s06 _ _ hp)
      have est : raisedS g fl (xs.map (askAt H)) ((out.take (i + 1)).map (askAt H)) = step2 g (raisedS g fl (xs.map (askAt H)) ((out.take i).map (askAt H))) (askAt H (.ref p)) := by rw [etk]; unfold raisedS; rw [List.foldl_append]; rfl
      rw [est]
      clear etk est
      generalize askAt H (.ref p) = a at *
      generalize raisedS g fl (xs.map (askAt H)) ((out.take i).map (askAt H)) = st at *
      obtain ⟨ns, rz⟩ := st
      dsimp only at h9n hR9 hl9 hn9
      have es2 : step2 g (ns, rz) a = (spread (roomOf g ns a) a.fst a.sp ns a.sp, rz ++ rzOf (roomOf g ns a) a.nm a.fst a.sp a.sp) := rfl
      rw [es2]
      refine ⟨p, _, rfl, SqT.of hp9, rfl, _, _, rfl, _, _, rfl, _, _, rfl, _, _, rfl, rfl, ?_⟩
      -- what it lacks
      refine ⟨_, rfl, _, rfl, _, rfl, _, rfl, _, rfl, _, rfl, _, _, rfl, rfl, _, rfl, ln, _, rfl, SqL.of h9n, fun lc hlc => ?_⟩
      have ecut : cutV (ns.map V.int) (some (a.fst : Int)) (some ((a.fst : Int) + (a.sp : Int))) = ((ns.drop a.fst).take a.sp).map V.int := by
        rw [show ((a.fst : Int) + (a.sp : Int)) = ((a.fst + a.sp : Nat) : Int) by omega, cells_cut]
        unfold cellsOf
        rw [Nat.min_eq_left (by omega), Nat.min_eq_left (by omega), Nat.add_sub_cancel_left]
      rw [ecut]
      have sA : Same H9 (upd H9 lc (.lst (((ns.drop a.fst).take a.sp).map V.int))) := Same.put (Same.refl _) hlc
      have hcA : (upd H9 lc (.lst (((ns.drop a.fst).take a.sp).map V.int))) lc = some (.lst (((ns.drop a.fst).take a.sp).map V.int)) := upd_same
      generalize upd H9 lc (.lst (((ns.drop a.fst).take a.sp).map V.int)) = HA at *
      refine ⟨lc, _, rfl, SqL.of hcA, _, _, rfl, rfl, _, rfl, _, rfl, _, _, rfl, rfl, _, _, rfl, rfl, .inl ⟨by omega, by omega⟩, _, _, rfl, rfl, ?_⟩
      have elk : a.am - ((ns.drop a.fst).take a.sp).sum - g * ((a.sp : Int) - 1) = lackOf g ns a := rfl
      dsimp only
      rw [elk]
      -- the weights
      refine ⟨_, rfl, _, _, rfl, ?_⟩
      rw [max_room]
      refine ⟨_, rfl, _, rfl, _, rfl, _, _, rfl, rfl, (a.fst : Int), ((a.fst : Int) + (a.sp : Int)), rfl, ⟨by omega, by omega, by omega, by omega⟩, ?_⟩
      have en : (((a.fst : Int) + (a.sp : Int)) - (a.fst : Int)).toNat = a.sp := by omega
      rw [en]
      refine compN_of (comp_rangeG (n := a.sp) (fun D j l H' => ∃ qa : List Addr, l = qa.map V.ref ∧ qa.length = j ∧ (∀ k q, qa[k]? = some q → H' q = some (.tup [.int ((a.fst + k : Nat) : Int), .int 1])) ∧ H' D = some (.lst l) ∧ HA D = none ∧ (∀ b u, HA b = some u → H' b = some u)) (small (by omega))
        (fun D hD => ⟨[], rfl, rfl, (fun k q e => nomatch e), upd_same, hD, Same.put (Same.refl _) hD⟩) (fun D j l H' ⟨qa, e1, e2, _⟩ => by rw [e1, List.length_map, e2]; exact Nat.le_refl _) ?_ ?_)
      · rintro D j l H' Q1 hj ⟨qa, rfl, ej, hqa, hD, hDA, kA⟩ hq
        refine hq true H' (fun z => by cases z) (fun _ Q' hq' => ?_)
        refine ⟨_, rfl, (by show 2 ≤ sizeLine; decide), fun q hqn => ?_⟩
        have eq0 : (a.fst : Int) + (j : Int) = ((a.fst + j : Nat) : Int) := by omega
        rw [eq0]
        have sq : Same H' (upd H' q (.tup [V.int ((a.fst + j : Nat) : Int), V.int 1])) := Same.put (Same.refl _) hqn
        have hq1 : (upd H' q (.tup [V.int ((a.fst + j : Nat) : Int), V.int 1])) q = some (.tup [V.int ((a.fst + j : Nat) : Int), V.int 1]) := upd_same
        generalize upd H' q (.tup [V.int ((a.fst + j : Nat) : Int), V.int 1]) = Hq at *
        have hDq := sq _ _ hD
        refine hq' _ _ hDq ⟨qa ++ [q], by rw [List.map_append]; rfl, by rw [List.length_append, ej]; rfl, fun k q' e => ?_, upd_same, hDA, fun b u e => ?_⟩
        · have hq' : Hq q' = some (.tup [V.int ((a.fst + k : Nat) : Int), V.int 1]) := by
            by_cases hk : k < qa.length
            · rw [List.getElem?_append_left hk] at e
              exact sq _ _ (hqa k q' e)
            · rw [List.getElem?_append_right (by omega)] at e
              have z : k - qa.length = 0 := by
                have := get_lt e
                simp at this
                omega
              rw [z] at e
              cases e
              have ek : k = j := by omega
              rw [ek]
              exact hq1
          rw [upd_ne (ne_of hq' hDq (by intro z; cases z))]
          exact hq'
        · rw [upd_ne (ne_of_none e hDA)]
          exact sq _ _ (kA _ _ e)
      rintro lq l HB ⟨qa, rfl, eqa, hqa, hlq, _, kB⟩
      have hpr : PairsAtK HB qa (kvWI (onesW a.fst a.sp)) := ⟨by rw [eqa]; simp [kvWI, onesW], fun k q x e1 e2 => by
        have hk : k < a.sp := by have := get_lt e1; omega
        have ex : (kvWI (onesW a.fst a.sp))[k]? = some (Sum.inl ((a.fst + k : Nat) : Int), V.int 1) := by
          unfold kvWI onesW
          rw [List.map_map, List.getElem?_map, List.getElem?_range hk]
          rfl
        rw [ex] at e2
        cases e2
        exact hqa k q e1⟩
      refine ⟨lq, qa, kvWI (onesW a.fst a.sp), rfl, hlq, hpr, small (by omega), fun dd hdd => ?_⟩
      rw [mergeP_ones]
      have sC : Same HB (upd HB dd (.dK (kvWI (onesW a.fst a.sp)))) := Same.put (Same.refl _) hdd
      have hCd : (upd HB dd (.dK (kvWI (onesW a.fst a.sp)))) dd = some (.dK (kvWI (onesW a.fst a.sp))) := upd_same
      generalize upd HB dd (.dK (kvWI (onesW a.fst a.sp))) = HC at *
      have kB9 : ∀ b u, H9 b = some u → HB b = some u := fun b u e => kB _ _ (sA _ _ e)
      have kC : ∀ b u, H9 b = some u → HC b = some u := fun b u e => sC _ _ (kB9 _ _ e)
      obtain ⟨r0, r1⟩ := room_ok (ns := ns) (a := a) hg0 hn9 g1 g3 g4
      refine ⟨dd, roomOf g ns a, onesW a.fst a.sp, ps9, rfl, .inl hCd, onesW_nd _ _, (fun z => by have := congrArg List.length z; simp [onesW] at this; omega), (by simp [onesW]; omega), r0, by omega, by rw [onesW_whole]; omega, by rw [onesW_whole]; omega, kC _ _ hT9, tab_keep hTk9 fun c e => kC _ _ e, fun S HD ps' out' hS0 kD hdD hTD hTkD hp' hs' hSD => ?_⟩
      rw [deal_ones (by omega) hp' hs'] at hSD
      clear hp' hs' hdD
      generalize roomOf g ns a = R at *
      have kD9 : ∀ b u, b ≠ T → H9 b = some u → HD b = some u := fun b u hb e => kD b u hb (ne_of_none (kB9 _ _ e) hdd) (kC _ _ e)
      have hDn := kD9 _ _ nnT h9n
      have hDr := kD9 _ _ nrT h9r
      have nSn : ln ≠ S := ne_of_none (kC _ _ h9n) hS0
      have nSr : lr ≠ S := ne_of_none (kC _ _ h9r) hS0
      have nST : T ≠ S := ne_of_none (kC _ _ hT9) hS0
      generalize hkv : kvWI ((List.range a.sp).map fun i => (((a.fst + i : Nat) : Int), dealtAt R a.sp i)) = kvs at *
      have kvl : kvs.length = a.sp := by rw [← hkv]; simp [kvWI]
      have kvat : ∀ (j : Nat) (k : Key) (v : V), kvs[j]? = some (k, v) → j < a.sp ∧ k = .inl ((a.fst + j : Nat) : Int) ∧ v = .int (dealtAt R a.sp j) := fun j k v e => by
        have hj : j < a.sp := by have := get_lt e; omega
        rw [← hkv] at e
        unfold kvWI at e
        rw [List.map_map, List.getElem?_map, List.getElem?_range hj] at e
        cases e
        exact ⟨hj, rfl, rfl⟩
      -- the columns
      refine ⟨_, rfl, S, _, rfl, .inl hSD, fun o => for_items (fun j σ H' => ∃ (v13 v14 : Option V), σ = [some (.int m), some (.int g), some (.ref lf), some (.ref la), some (.ref ln), some (.str a.nm), some (.int a.fst), some (.int a.sp), some (.int a.am), some (.ref lr), some (.ref lsv), some (.int (lackOf g ns a)), some (.ref S), v13, v14] ∧ H' S = some (.frz o (.dK kvs)) ∧ (∀ b u, b ≠ ln → b ≠ S → HD b = some u → H' b = some u) ∧ H' ln = some (.lst ((spread R a.fst a.sp ns j).map V.int)))
        ⟨_, _, rfl, upd_same, fun b u h1 h2 e => by rw [upd_ne h2]; exact e, by rw [upd_ne nSn]; exact hDn⟩ (fun j σ H' _ ⟨_, _, _, z, _⟩ => z) ?_ ?_⟩
      · rintro j k v q0 σ H' hkv' hq0 ⟨v13, v14, rfl, hS', kS, hn'⟩
        obtain ⟨hj, rfl, rfl⟩ := kvat j k v hkv'
        have sq : Same H' (upd H' q0 (.tup [kV (.inl ((a.fst + j : Nat) : Int)), .int (dealtAt R a.sp j)])) := Same.put (Same.refl _) hq0
        have hq1 : (upd H' q0 (.tup [kV (.inl ((a.fst + j : Nat) : Int)), .int (dealtAt R a.sp j)])) q0 = some (.tup [kV (.inl ((a.fst + j : Nat) : Int)), .int (dealtAt R a.sp j)]) := upd_same
        generalize upd H' q0 (.tup [kV (.inl ((a.fst + j : Nat) : Int)), .int (dealtAt R a.sp j)]) = Hq at *
        have hn1 := sq _ _ hn'
        have hS1 := sq _ _ hS'
        refine ⟨q0, _, rfl, SqT.of hq1, rfl, _, _, rfl, _, _, rfl, rfl, ?_⟩
        refine ⟨_, rfl, _, rfl, ln, _, _, _, rfl, rfl, SqL.of hn1, iat' (by rw [spread_len]; omega), _, rfl, _, _, rfl, rfl, _, rfl, _, rfl, ln, _, _, a.fst + j, rfl, rfl, hn1, ixN_nat (by rw [List.length_map, spread_len]; omega), ?_⟩
        refine (show ∃ v13 v14, _ from ⟨_, _, rfl, by rw [upd_ne (Ne.symm nSn)]; exact hS1, fun b u h1 h2 e => by rw [upd_ne h1]; exact sq _ _ (kS b u h1 h2 e), ?_⟩)
        rw [upd_same, spread_succ, List.map_set]
      rintro σ HE ⟨v13, v14, rfl, hES, kE, hEn⟩
      rw [kvl] at hEn
      have hEr := kE _ _ (Ne.symm nnr) nSr hDr
      -- the raises
      refine ⟨_, rfl, .inl ⟨rfl, _, SqL.of hEr⟩, _, rfl, S, _, rfl, .inr ⟨o, hES⟩, fun o2 => ?_⟩
      have hFS : (upd HE S (.frz o2 (.dK kvs))) S = some (.frz o2 (.dK kvs)) := upd_same
      have kF : ∀ b u, b ≠ S → HE b = some u → (upd HE S (.frz o2 (.dK kvs))) b = some u := fun b u hb e => by rw [upd_ne hb]; exact e
      generalize upd HE S (.frz o2 (.dK kvs)) = HF at *
      refine comp_itemsF (K := K) (fun D j l H' => ∃ rb : List Addr, l = rb.map V.ref ∧ rb.length ≤ j ∧ RowsOf H' rb ((rzOf R a.nm a.fst a.sp j).map rzV) ∧ H' D = some (.lst l) ∧ HF D = none ∧ (∀ b u, HF b = some u → H' b = some u)) (small (by omega))
        (fun D hD => ⟨[], rfl, Nat.le_refl _, RowsOf.nil, upd_same, hD, Same.put (Same.refl _) hD⟩) (fun D j l H' ⟨_, _, _, _, _, _, z⟩ => z _ _ hFS) (fun D j l H' ⟨rb, e1, e2, _⟩ => by rw [e1, List.length_map]; exact e2) ?_ ?_
      · rintro D j k v q0 l H' Q1 hkv' hq0 ⟨rb, rfl, hrb, hRb, hD, hDF, kG⟩ hq
        obtain ⟨hj, rfl, rfl⟩ := kvat j k v hkv'
        have sq : Same H' (upd H' q0 (.tup [kV (.inl ((a.fst + j : Nat) : Int)), .int (dealtAt R a.sp j)])) := Same.put (Same.refl _) hq0
        generalize upd H' q0 (.tup [kV (.inl ((a.fst + j : Nat) : Int)), .int (dealtAt R a.sp j)]) = Hq at *
        have hDq := sq _ _ hD
        refine ⟨_, rfl, _, _, rfl, rfl, _, rfl, ?_⟩
        refine hq _ _ (fun hb => ⟨rb, rfl, by omega, ?_, hDq, hDF, fun b u e => sq _ _ (kG _ _ e)⟩) (fun hb Q' hq' => ?_)
        · rw [rzOf_succ, if_neg (of_decide_eq_false hb), List.append_nil]
          exact hRb.same sq
        · refine ⟨_, rfl, _, rfl, _, rfl, (by show 3 ≤ sizeLine; decide), fun t ht => ?_⟩
          have s2 : Same Hq (upd Hq t (.tup [V.str a.nm, V.int ((a.fst + j : Nat) : Int), V.int (dealtAt R a.sp j)])) := Same.put (Same.refl _) ht
          have ht2 : (upd Hq t (.tup [V.str a.nm, V.int ((a.fst + j : Nat) : Int), V.int (dealtAt R a.sp j)])) t = some (.tup (rzV (a.nm, a.fst + j, dealtAt R a.sp j))) := upd_same
          have hDt := s2 _ _ hDq
          refine hq' _ _ hDt ⟨rb ++ [t], by rw [List.map_append]; rfl, by rw [List.length_append]; simp only [List.length_singleton]; omega, ?_, upd_same, hDF, fun b u e => ?_⟩
          · rw [rzOf_succ, if_pos (of_decide_eq_true hb), List.map_append]
            have := RowsOf.snoc (hRb.same sq) s2 ht2
            exact rowsK this fun b xs e => by rw [upd_ne (ne_of e hDt (by intro z; cases z))]; exact e
          · rw [upd_ne (ne_of_none e hDF)]
            exact s2 _ _ (sq _ _ (kG _ _ e))
      rintro D l HG hDF ⟨rb, rfl, hrb, hRb, hD, _, kG⟩
      rw [kvl] at hRb hrb
      have hGr := kG _ _ (kF _ _ nSr hEr)
      have hGn := kG _ _ (kF _ _ nSn hEn)
      have nDr : D ≠ lr := Ne.symm (ne_of_none (kF _ _ nSr hEr) hDF)
      have k0 : ∀ b u, b ≠ T → b ≠ ln → b ≠ S → H9 b = some u → HG b = some u := fun b u h1 h2 h3 e => kG _ _ (kF b u h3 (kE b u h2 h3 (kD9 b u h1 e)))
      have nS9 : ∀ b u, H9 b = some u → b ≠ S := fun b u e => ne_of_none (kC _ _ e) hS0
      have hGT : HG T = some (.tbl ps') := kG _ _ (kF _ _ nST (kE _ _ (Ne.symm nnT) nST hTD))
      have hTkG : TabOk HG lamPos lamQual ps' := tab_keep hTkD fun c e => kG _ _ (kF _ _ (ne_of e hSD (by intro z; cases z)) (kE _ _ (ne_of e hDn (by intro z; cases z)) (ne_of e hSD (by intro z; cases z)) e))
      refine ⟨lr, D, _, _, rfl, rfl, hGr, hD, smallE (by rw [List.length_map, List.length_map]; omega), ?_⟩
      have kU : KpT HG (upd HG lr (.lst (ra.map V.ref ++ rb.map V.ref))) := fun b xs e => by rw [upd_ne (ne_of e hGr (by intro z; cases z))]; exact e
      have kTG : KpT H9 HG := fun b xs e => k0 b _ (ne_of e hT9 (by intro z; cases z)) (ne_of e h9n (by intro z; cases z)) (nS9 _ _ e) e
      refine (show ∃ (w5 w6 w7 w8 w11 w12 w13 w14 : Option V) (ra : List Addr) (ps9 : Array Value), _ from ⟨_, _, _, _, _, _, _, _, ra ++ rb, ps', rfl, fun b u h1 h2 h3 e => ?_, ?_, ?_, ?_, ?_, ?_, ?_, spread_nn r0 hn9 _, ?_⟩)
      · rw [upd_ne h3]
        have e9 := k9 b u h1 h2 h3 e
        exact k0 b u h1 h2 (nS9 _ _ e9) e9
      · rw [upd_ne nnr]; exact hGn
      · rw [upd_same, List.map_append]
      · rw [List.map_append]
        exact rows_app (rowsK (rowsK hR9 kTG) kU) (rowsK hRb kU)
      · rw [upd_ne (Ne.symm nrT)]; exact hGT
      · exact tab_keep hTkG fun c e => by rw [upd_ne (ne_of e hGr (by intro z; cases z))]; exact e
      · show (spread R a.fst a.sp ns a.sp).length = m
        rw [spread_len]; exact hl9
      · rw [List.length_append]; omega
    rintro σ H7 ⟨w5, w6, w7, w8, w11, w12, w13, w14, ra, ps7, rfl, k7, h7n, h7r, hR7, hT7, hTk7, hl7, hn7, hra⟩
    rw [List.take_length] at h7n hR7
    refine ⟨_, rfl, _, rfl, (by show 2 ≤ sizeLine; decide), fun t ht => ?_⟩
    have s07 : ∀ b u, b ≠ T → H b = some u → H7 b = some u := fun b u hb e => k7 b u hb (ne_of_none e hln) (ne_of_none e hlr0) (s06 _ _ e)
    have ht0 : H t = none := by
      cases e : H t with
      | none => rfl
      | some u =>
        have : t ≠ T := Ne.symm (ne_of_none hT7 ht)
        rw [s07 t u this e] at ht
        cases ht
    have s8 : Same H7 (upd H7 t (.tup [V.ref ln, V.ref lr])) := Same.put (Same.refl _) ht
    refine k t ln lr ra _ ps7 (out.map (askAt H)) ht0 hln hlr0 (fun b u hb e => s8 _ _ (s07 b u hb e)) (s8 _ _ hT7) (tab_keep hTk7 fun c e => s8 _ _ e) ?_ (List.pairwise_map.mpr hsort) upd_same (s8 _ _ h7n) (s8 _ _ h7r) (hR7.same s8)
    rw [List.filter_map]
    have := hperm.map (askAt H)
    rw [← hys] at this
    exact this
end
end B32
namespace B32
open PySem L2 S2
theorem same_none {H H' : Hp} {b : Addr} (s : Same H H') (h : H' b = none) : H b = none := by
  cases e : H b with
  | none => rfl
  | some o => rw [s b o e] at h; cases h
section
variable {X : Cx}
def CDivL (_ j : Int) : Prop := 0 < j ∧ j.natAbs.log2 < 9000
theorem op_fdivL : OpR X (binaryOp .FloorDiv) (rI CDivL fun i j => .int (i / j)) := opI fun i j _ _ _ _ _ hc q => by
  have h1 : (0 : Int) < j := hc.1
  exact PyProof.Rows.floordiv_int (by omega) (by rw [Int.fdiv_eq_ediv_of_nonneg i (by omega)]; exact q) (.inl (PyProof.noPylong_of_log2 hc.2))
end
def Kp (st : Addr) (H H' : Hp) : Prop := ∀ b o, b ≠ st → H b = some o → H' b = some o
theorem Kp.refl {st : Addr} (H : Hp) : Kp st H H := fun _ _ _ h => h
theorem Kp.trans {st : Addr} {H H1 H2 : Hp} (a : Kp st H H1) (b : Kp st H1 H2) : Kp st H H2 := fun c o n h => b c o n (a c o n h)
theorem Kp.of {st : Addr} {H H' : Hp} (s : Same H H') : Kp st H H' := fun b o _ h => s b o h
theorem Kp.store {st : Addr} {H : Hp} {o : HO} : Kp st H (upd H st o) := fun b o' n h => by rw [upd_ne n]; exact h
theorem Kp.put {st D : Addr} {H H' : Hp} {o : HO} (k : Kp st H H') (h : H D = none) : Kp st H (upd H' D o) := fun b o' n hb => by
  rw [upd_ne (fun z => by rw [z, h] at hb; cases hb)]
  exact k b o' n hb
theorem int_at {us : List Int} {i : Nat} {x : V} (h : (us.map V.int)[i]? = some x) : ∃ c, us[i]? = some c ∧ x = .int c := by
  rw [List.getElem?_map] at h
  cases e : us[i]? with
  | none => rw [e] at h; cases h
  | some c => rw [e] at h; cases h; exact ⟨c, rfl, rfl⟩
theorem cut_ints (ns : List Int) (lo hi : Option Int) : ∃ us : List Int, cutV (ns.map V.int) lo hi = us.map V.int ∧ us.length ≤ ns.length := by
  refine ⟨(ns.drop (HT.sIx (ns.map V.int).length 0 lo)).take (HT.sIx (ns.map V.int).length (ns.map V.int).length hi - HT.sIx (ns.map V.int).length 0 lo), ?_, ?_⟩
  · unfold cutV
    rw [List.map_take, List.map_drop]
  · rw [List.length_take, List.length_drop]
    omega
theorem iat {ns : List Int} {j : Nat} (h : j < ns.length) : atI (ns.map V.int) ((j : Nat) : Int) = some (.int (ns.getD j 0)) := atI_nat (by rw [List.getElem?_map, List.getD_eq_getElem?_getD, List.getElem?_eq_getElem h]; rfl)
theorem eqInts {K : PySem.W.Frag} {H : Hp} {n : Nat} {us : List Int} : ∀ (j : Nat) (x y : V), (us.map V.int)[j]? = some x → (us.map V.int)[j]? = some y → EqD K H n x y true := fun j x y e1 e2 => by
  rw [e1] at e2
  cases e2
  obtain ⟨c, _, rfl⟩ := int_at e1
  exact EqD.refl rfl
def spStream (K : PySem.W.Frag) : Sp := fun vs H Q _ => ∃ (a : Addr) (ns : List Int), vs = [.ref a] ∧ SqL K H a (ns.map V.int) ∧ ns.length ≤ 63 ∧ ∀ (l : Addr) (d z : Int) (H' : Hp), H l = none → Same H H' → H' l = some (.lst [.int d, .int z]) → Q (.ref l) H'
def spTake : Sp := fun vs H Q _ => ∃ (st : Addr) (d z m : Int), vs = [.ref st, .int m] ∧ H st = some (.lst [.int d, .int z]) ∧ 0 < m ∧ m < 1073741824 ∧ ∀ v d' z' : Int, 0 ≤ v → v < m → Q (.int v) (upd H st (.lst [.int d', .int z']))
section
variable {P : Program} {w : World} {K : PySem.W.Frag} {mg : Str → Option Value} {base : Heap}
theorem scStream : FnScope ["_law_script", "_law_seed", "_law_cell", "_law_digits"] ["_law_script"] (defScope sStream) := ⟨rfl, rfl, rfl, by decide +kernel, rfl, by decide +kernel, by decide +kernel⟩
theorem ok_stream {f : Addr} {fd : FuncData} (F : Fun K "_law_stream" "_law_stream" sStream f fd) (N : Names mg) : FnOk P w K mg base CX0 1 f fd ["_law_script"] (spStream K) := by
  refine F.ok scStream (fun vs H Q E h => ?_) (fun cdv A outer s H vs Q E hr h => ?_)
  · obtain ⟨a, ns, e, _⟩ := h
    rw [e]
    rfl
  · obtain ⟨a, ns, e, hS, hn, k⟩ := h
    subst e
    refine ⟨_, pss_cons (ps_set (i := 1) scStream.nd rfl (Or.inl rfl) pe_int)
      (pss_cons (ps_for PassesOwn.never rfl (pi_list (pe_slice sl_list (pv 0) po_none (po_some pe_int))) (pg_name (i := 2) scStream.nd rfl (Or.inl rfl))
        (pss_one (ps_set (i := 1) scStream.nd rfl (Or.inl rfl) (pe_op op_mod (pe_op op_add (pe_op op_mul (pv 1) pe_int) (pv 2)) pe_int))))
      (pss_cons (ps_set (i := 3) scStream.nd rfl (Or.inl rfl) pe_int)
      (pss_cons (ps_if (pw_and (pt_cmpR op_gt (pe_callB call_len_seq (by rfl) N.len PySem.boot_len (pa_cons (pv 0) pa_nil)) pe_int (nomark _)) (pw_and1 (pt_cmpR op_eq (pe_op op_mod (pe_ix ix_list (pv 0) pe_int (fun _ _ => rfl)) pe_int) pe_int (nomark _)))).pt
        (pss_one (ps_set (i := 3) scStream.nd rfl (Or.inl rfl) (pe_callB call_abs (by rfl) N.abs PyProof.Rows.boot_abs (pa_cons (pe_ix ix_list (pv 0) pe_int (fun _ _ => rfl)) pa_nil)))) pss_nil)
      (pss_one (ps_ret (pe_lst (pa_cons (pv 3) (pa_cons (pv 1) pa_nil)))))))), ?_⟩
    refine ⟨_, rfl, _, rfl, a, _, rfl, hS, fun lc hlc => ?_⟩
    obtain ⟨us, ec, lu⟩ := cut_ints ns none (some 63)
    rw [ec]
    have s1 : Same H (upd H lc (.lst (us.map V.int))) := Same.put (Same.refl _) hlc
    have h1 : (upd H lc (.lst (us.map V.int))) lc = some (.lst (us.map V.int)) := upd_same
    generalize upd H lc (.lst (us.map V.int)) = H1 at *
    have hS1 := s1.seq hS
    refine ⟨lc, rfl, ⟨_, SqL.of h1⟩, for_list (K := K) (a := lc) (xs := us.map V.int) (fun i σ H9 => (∃ (z : Int) (u2 : Option V), σ = [some (.ref a), some (.int z), u2, none]) ∧ H9 = H1) ⟨⟨_, none, rfl⟩, rfl⟩ (fun i σ H9 _ h9 => by rw [h9.2]; exact SqL.of h1) ?_ ?_⟩
    · rintro i x σ H9 hx ⟨⟨z, u2, rfl⟩, rfl⟩
      obtain ⟨c, _, rfl⟩ := int_at hx
      exact ⟨_, rfl, _, _, rfl, rfl, .inr ⟨by decide, by decide⟩, _, rfl, _, _, rfl, rfl, _, _, rfl, rfl, (by show (0 : Int) < 2305843009213693951; decide), ⟨_, _, rfl⟩, rfl⟩
    · rintro σ H9 ⟨⟨z, u2, rfl⟩, rfl⟩
      have fin : ∀ (d : Int) (l : Addr), H9 l = none → Q (.ref l) (upd H9 l (.lst [.int d, .int z])) := fun d l hl => k l d z _ (same_none s1 hl) (Same.put s1 (same_none s1 hl)) upd_same
      refine ⟨_, rfl, a, _, rfl, .inl hS1, _, _, rfl, rfl, _, rfl, ite2 (fun c => ?_) (fun _ => iteF ?_)⟩
      · have hl : 1 < ns.length := by
          have z := of_decide_eq_true c
          rw [List.length_map] at z
          omega
        refine ⟨_, rfl, a, _, _, _, rfl, rfl, hS1, iat (j := 0) (by omega), _, _, rfl, rfl, (by show (0 : Int) < 2; decide), rfl, _, rfl, ite2 (fun _ => ?_) (fun _ => ?_)⟩
        · refine ⟨_, rfl, a, _, _, _, rfl, rfl, hS1, iat (j := 1) hl, _, rfl, ?_⟩
          exact ⟨_, rfl, _, rfl, (by show 2 ≤ sizeLine; decide), fun l hl => fin _ l hl⟩
        · exact ⟨_, rfl, _, rfl, (by show 2 ≤ sizeLine; decide), fun l hl => fin _ l hl⟩
      · exact ⟨_, rfl, _, rfl, (by show 2 ≤ sizeLine; decide), fun l hl => fin _ l hl⟩
theorem scTake : FnScope ["_law_stream_here", "_law_many", "_law_digit"] ["_law_stream_here", "_law_many"] (defScope sTake) := ⟨rfl, rfl, rfl, by decide +kernel, rfl, by decide +kernel, by decide +kernel⟩
theorem ok_take {f : Addr} {fd : FuncData} (F : Fun K "_law_take" "_law_take" sTake f fd) : FnOk P w K mg base CX0 1 f fd ["_law_stream_here", "_law_many"] spTake := by
  refine F.ok scTake (fun vs H Q E h => ?_) (fun cdv A outer s H vs Q E hr h => ?_)
  · obtain ⟨a, d, z, m, e, _⟩ := h
    rw [e]
    rfl
  · obtain ⟨st, d, z, m, e, hst, hm, hm2, k⟩ := h
    subst e
    refine ⟨_, pss_cons (ps_if (pt_cmpR op_gt (pe_ix ix_list (pv 0) pe_int (fun _ _ => rfl)) pe_int (nomark _))
        (pss_cons (ps_set (i := 2) scTake.nd rfl (Or.inl rfl) (pe_op op_mod (pe_ix ix_list (pv 0) pe_int (fun _ _ => rfl)) (pv 1)))
        (pss_cons (ps_asg (pe_op op_fdiv (pe_ix ix_list (pv 0) pe_int (fun _ _ => rfl)) (pv 1)) (pg_sub (pv 0) pe_int set_list))
        (pss_one (ps_ret (pv 2))))) pss_nil)
      (pss_cons (ps_asg (pe_op op_mod (pe_op op_add (pe_op op_mul (pe_ix ix_list (pv 0) pe_int (fun _ _ => rfl)) pe_int) pe_int) pe_int) (pg_sub (pv 0) pe_int set_list))
      (pss_one (ps_ret (pe_op op_mod (pe_op op_add (pe_op op_mod (pe_op op_mul (pe_ix ix_list (pv 0) pe_int (fun _ _ => rfl)) pe_int) pe_int) (pe_op op_fdivL (pe_ix ix_list (pv 0) pe_int (fun _ _ => rfl)) pe_int)) (pv 1))))), ?_⟩
    have a0 : ∀ x y : V, atI [x, y] 0 = some x := fun x y => rfl
    have a1 : ∀ x y : V, atI [x, y] 1 = some y := fun x y => rfl
    refine ⟨_, rfl, st, _, _, _, rfl, rfl, SqL.of hst, a0 _ _, _, _, rfl, rfl, _, rfl, ite2 (fun c => ?_) (fun c => ?_)⟩
    · refine ⟨_, rfl, st, _, _, _, rfl, rfl, SqL.of hst, a0 _ _, _, rfl, _, _, rfl, rfl, hm, ?_⟩
      refine ⟨_, rfl, st, _, _, _, rfl, rfl, SqL.of hst, a0 _ _, _, rfl, _, _, rfl, rfl, ⟨hm, hm2⟩, _, rfl, st, _, _, 0, rfl, rfl, hst, rfl, ?_⟩
      exact ⟨_, rfl, k _ _ _ (Int.emod_nonneg _ (by omega)) (Int.emod_lt_of_pos _ hm)⟩
    · refine ⟨_, rfl, st, _, _, _, rfl, rfl, SqL.of hst, a1 _ _, _, _, rfl, rfl, .inr ⟨by decide, by decide⟩, _, _, rfl, rfl, _, _, rfl, rfl, (by show (0 : Int) < 2305843009213693951; decide), _, rfl, st, _, _, 1, rfl, rfl, hst, rfl, ?_⟩
      have h2 : (upd H st (.lst ([V.int d, V.int z].set 1 (V.int ((z * 48271 + 1013904223) % 2305843009213693951))))) st = some (.lst [V.int d, V.int ((z * 48271 + 1013904223) % 2305843009213693951)]) := upd_same
      refine ⟨_, rfl, st, _, _, _, rfl, rfl, SqL.of h2, a1 _ _, _, _, rfl, rfl, .inr ⟨by decide, by decide⟩, _, _, rfl, rfl, (by show (0 : Int) < 2147483629; decide), _, rfl, st, _, _, _, rfl, rfl, SqL.of h2, a1 _ _, _, _, rfl, rfl, ⟨by decide, by decide +kernel⟩, _, _, rfl, rfl, _, rfl, _, _, rfl, rfl, hm, ?_⟩
      exact k _ _ _ (Int.emod_nonneg _ (by omega)) (Int.emod_lt_of_pos _ hm)
end
abbrev alpha : Str := "abcdefghijklmnopqrstuvwxyz"
theorem alpha_at {i : Int} (h0 : 0 ≤ i) (h1 : i < 26) : atI alpha.cps.toList i = some (97 + i.toNat) := by
  obtain ⟨k, rfl, hk⟩ := nat_of (z := i) (n := 26) h0 h1
  have := (by decide +kernel : ∀ k : Fin 26, alpha.cps.toList[k.val]? = some (97 + k.val)) ⟨k, hk⟩
  exact atI_nat this
theorem alpha_len : alpha.length = 26 := by decide +kernel
theorem len_le {α : Type} [BEq α] [LawfulBEq α] : ∀ {l1 l2 : List α}, l1.Nodup → (∀ x ∈ l1, x ∈ l2) → l1.length ≤ l2.length
  | [], _, _, _ => Nat.zero_le _
  | a :: l1, l2, nd, h => by
    rw [List.nodup_cons] at nd
    have ha := h a List.mem_cons_self
    have := len_le (l1 := l1) (l2 := l2.erase a) nd.2 fun x hx => (List.mem_erase_of_ne (fun e => nd.1 (by rw [← e]; exact hx))).mpr (h x (List.mem_cons_of_mem _ hx))
    rw [List.length_erase_of_mem ha] at this
    have : 0 < l2.length := List.length_pos_of_mem ha
    rw [List.length_cons]
    omega
def Tried (k : Nat) (ts : List Str) : Prop := ∀ (j : Nat) (x : Str), ts[j]? = some x → ∃ r : Str, x = ⟨#[97 + (k + 7 * j) % 26]⟩ ++ r
theorem first_ne {a b : Nat} {r r' : Str} (e : (⟨#[a]⟩ : Str) ++ r = ⟨#[b]⟩ ++ r') : a = b := by
  have q : [a] ++ r.cps.toList = [b] ++ r'.cps.toList := by
    have := congrArg (fun s : Str => s.cps.toList) e
    have z : ∀ (a : Nat) (r : Str), ((⟨#[a]⟩ : Str) ++ r).cps.toList = [a] ++ r.cps.toList := fun a r => by
      show (#[a] ++ r.cps).toList = _
      rw [Array.toList_append]
    rw [← z, ← z]
    exact this
  injection q
theorem tried_nd {k : Nat} {ts : List Str} (h : Tried k ts) (hl : ts.length ≤ 26) : ts.Nodup := by
  refine List.pairwise_iff_getElem.mpr fun i j hi hj hij e => ?_
  obtain ⟨r, e1⟩ := h i _ (List.getElem?_eq_getElem hi)
  obtain ⟨r', e2⟩ := h j _ (List.getElem?_eq_getElem hj)
  rw [e1, e2] at e
  have := first_ne e
  omega
theorem Tried.snoc {k : Nat} {ts : List Str} (h : Tried k ts) {x r : Str} (e : x = ⟨#[97 + (k + 7 * ts.length) % 26]⟩ ++ r) : Tried k (ts ++ [x]) := fun j y hy => by
  by_cases hj : j < ts.length
  · rw [List.getElem?_append_left hj] at hy
    exact h j y hy
  · rw [List.getElem?_append_right (by omega)] at hy
    have z : j - ts.length = 0 := by
      have := get_lt hy
      simp at this
      omega
    rw [z] at hy
    cases hy
    have : j = ts.length := by omega
    rw [this]
    exact ⟨r, e⟩
theorem one_ne (a : Nat) (r : Str) : (⟨#[a]⟩ : Str) ++ r ≠ "" := fun e => by
  have := congrArg (fun s : Str => s.cps.toList.length) e
  have z : ((⟨#[a]⟩ : Str) ++ r).cps.toList.length = 1 + r.cps.toList.length := by
    show (#[a] ++ r.cps).toList.length = _
    rw [Array.toList_append, List.length_append]
    rfl
  have z2 : ("" : Str).cps.toList.length = 0 := by decide +kernel
  rw [z, z2] at this
  omega
theorem str_app (x y z : Str) : (x ++ y) ++ z = x ++ (y ++ z) := by
  show (⟨(x.cps ++ y.cps) ++ z.cps⟩ : Str) = ⟨x.cps ++ (y.cps ++ z.cps)⟩
  rw [Array.append_assoc]
theorem inV_str {x : Str} {xs : List Str} : inV (.str x) (xs.map V.str) = decide (x ∈ xs) := by
  unfold inV
  rw [List.any_map]
  by_cases h : x ∈ xs
  · rw [decide_eq_true h, List.any_eq_true]
    exact ⟨x, h, by simp [eqV]⟩
  · rw [decide_eq_false h, List.any_eq_false]
    intro y hy
    simp only [Function.comp, eqV, beq_iff_eq]
    intro e
    exact h (by rw [← e]; exact hy)
theorem flat_strs (ss : List Str) : (ss.map V.str).all flatV = true := by
  rw [List.all_map]
  exact List.all_eq_true.mpr fun _ _ => rfl
def spLNames : Sp := fun vs H Q _ => ∃ (st : Addr) (d z : Int) (m : Nat), vs = [.ref st, .int m] ∧ H st = some (.lst [.int d, .int z]) ∧ m ≤ 10 ∧ ∀ (l : Addr) (nms : List Str) (d' z' : Int) (H' : Hp), H l = none → Kp st H H' → H' st = some (.lst [.int d', .int z']) → H' l = some (.lst (nms.map V.str)) → nms.length = m → nms.Nodup → Q (.ref l) H'
section
variable {P : Program} {w : World} {K : PySem.W.Frag} {mg : Str → Option Value} {base : Heap}
theorem scLNames : FnScope ["_law_stream_here", "_law_many", "_law_letters", "_law_names_here", "_law_k", "_law_name", "_law_j", "_law_turn", "_law_other"] ["_law_stream_here", "_law_many"] (defScope sLNames) := ⟨rfl, rfl, rfl, by decide +kernel, rfl, by decide +kernel, by decide +kernel⟩
set_option maxHeartbeats 8000000 in
theorem ok_lnames {f f1 : Addr} {fd d1 : FuncData} (F : Fun K "_law_names" "_law_names" sLNames f fd) (N : Names mg)
    (G1 : FnOk P w K mg base CX0 1 f1 d1 ["_law_stream_here", "_law_many"] spTake) (b1 : Binds K d1 ["_law_stream_here", "_law_many"] []) (m1 : mg "_law_take" = some (.ref f1)) (k1 : PySem.W.keepIn K (.ref f1) = true) :
    FnOk P w K mg base CX0 2 f fd ["_law_stream_here", "_law_many"] spLNames := by
  refine F.ok scLNames (fun vs H Q E h => ?_) (fun cdv A outer s H vs Q E hr h => ?_)
  · obtain ⟨st, d, z, m, e, _⟩ := h
    rw [e]
    rfl
  · obtain ⟨st, d, z, m, e, hst, hm, k⟩ := h
    subst e
    refine ⟨_, pss_cons (ps_set (i := 2) scLNames.nd rfl (Or.inl rfl) pe_str)
      (pss_cons (ps_set (i := 3) scLNames.nd rfl (Or.inl rfl) (pe_lst pa_nil))
      (pss_cons (ps_for PassesOwn.never rfl (pi_range1 rfl N.range (pa_cons (pv 1) pa_nil)) (pg_name (i := 4) scLNames.nd rfl (Or.inl rfl))
        (pss_cons (ps_set (i := 5) scLNames.nd rfl (Or.inl rfl) pe_str)
        (pss_cons (ps_for PassesOwn.never rfl (pi_range1 rfl N.range (pa_cons (pe_call G1 hr (by rfl) m1 k1 b1 .nil pass0 (pa_cons (pv 0) (pa_cons pe_int pa_nil))) pa_nil)) (pg_name (i := 6) scLNames.nd rfl (Or.inl rfl))
          (pss_one (ps_set (i := 5) scLNames.nd rfl (Or.inl rfl) (pe_op op_add_str (pv 5) (pe_ix ix_str (pv 2) (pe_call G1 hr (by rfl) m1 k1 b1 .nil pass0 (pa_cons (pv 0) (pa_cons pe_int pa_nil))) (fun _ _ => rfl))))))
        (pss_cons (ps_set (i := 7) scLNames.nd rfl (Or.inl rfl) (pv 4))
        (pss_cons (ps_while PassesOwn.never (pw_or (pt_cmpR (r := rIn K false) op_in_seq (pv 5) (pv 3) (by rfl)) (pw_or1 (pt_cmpR op_eq (pv 5) pe_str (nomark _)))).pt
          (pss_cons (ps_set (i := 8) scLNames.nd rfl (Or.inl rfl) (pe_ix ix_str (pv 2) (pe_op op_mod (pe_op op_add (pe_op op_fdiv (pv 7) pe_int) (pe_callB call_len_str (by rfl) N.len PySem.boot_len (pa_cons (pv 5) pa_nil))) pe_int) (fun _ _ => rfl)))
          (pss_cons (ps_set (i := 5) scLNames.nd rfl (Or.inl rfl) (pe_op op_add_str (pe_op op_add_str (pe_ix ix_str (pv 2) (pe_op op_mod (pv 7) pe_int) (fun _ _ => rfl)) (pv 8)) (pe_slice sl_str (pv 5) po_none (po_some pe_int))))
          (pss_one (ps_set (i := 7) scLNames.nd rfl (Or.inl rfl) (pe_op op_add (pv 7) pe_int))))))
        (pss_one (ps_expr (pe_bm PySem.F.plainAttrs_list PySem.F.slot_list_append PySem.F.type_list_append mt_append (pv 3) (pa_cons (pv 5) pa_nil)))))))))
      (pss_one (ps_ret (pv 3))))), ?_⟩
    refine ⟨smallE (by simp), fun l hl => ?_⟩
    have nst : l ≠ st := Ne.symm (ne_of_none hst hl)
    refine ⟨_, rfl, (m : Int), rfl, by omega, by omega, ?_⟩
    have en : ((m : Int)).toNat = m := by omega
    rw [en]
    refine for_range (n := m) (fun i σ H2 => ∃ (u4 u5 u6 u7 u8 : Option V) (nms : List Str) (d2 z2 : Int), σ = [some (.ref st), some (.int m), some (.str alpha), some (.ref l), u4, u5, u6, u7, u8] ∧ Kp st H H2 ∧ H2 st = some (.lst [.int d2, .int z2]) ∧ H2 l = some (.lst (nms.map V.str)) ∧ nms.length = i ∧ nms.Nodup) ⟨_, _, _, _, _, [], d, z, rfl, Kp.put (Kp.refl _) hl, by rw [upd_ne (Ne.symm nst)]; exact hst, upd_same, rfl, List.nodup_nil⟩ ?_ ?_
    · rintro i σ H2 hi ⟨u4, u5, u6, u7, u8, nms, d2, z2, rfl, kp2, hs2, hl2, hlen, hnd⟩
      have ei : (0 : Int) + (i : Int) = (i : Int) := Int.zero_add _
      refine ⟨_, rfl, st, d2, z2, 8, rfl, hs2, by decide, by decide, fun v0 d3 z3 v00 v01 => ?_⟩
      rw [ei]
      have hs3 : (upd H2 st (.lst [.int d3, .int z3])) st = some (.lst [.int d3, .int z3]) := upd_same
      have hl3 : (upd H2 st (.lst [.int d3, .int z3])) l = some (.lst (nms.map V.str)) := by rw [upd_ne nst]; exact hl2
      have kp3 : Kp st H (upd H2 st (.lst [.int d3, .int z3])) := kp2.trans Kp.store
      generalize upd H2 st (.lst [.int d3, .int z3]) = H3 at *
      refine ⟨v0, rfl, by omega, by omega, ?_⟩
      refine for_range (n := v0.toNat) (fun j σ H4 => ∃ (v6 : Option V) (nm : Str) (d4 z4 : Int), σ = [some (.ref st), some (.int m), some (.str alpha), some (.ref l), some (.int i), some (.str nm), v6, u7, u8] ∧ Kp st H H4 ∧ H4 st = some (.lst [.int d4, .int z4]) ∧ H4 l = some (.lst (nms.map V.str)) ∧ nm.length ≤ j) ⟨_, "", d3, z3, rfl, kp3, hs3, hl3, by decide +kernel⟩ ?_ ?_
      · rintro j σ H4 hj ⟨v6, nm, d4, z4, rfl, kp4, hs4, hl4, hnm⟩
        refine ⟨_, rfl, _, rfl, _, rfl, st, d4, z4, 26, rfl, hs4, by decide, by decide, fun v d5 z5 v50 v51 => ?_⟩
        refine ⟨alpha, _, _, rfl, rfl, smallE (by rw [alpha_len]; omega), alpha_at v50 v51, _, _, rfl, rfl, smallE (by show nm.length + 1 ≤ 100000; omega), ?_⟩
        exact ⟨_, _, d5, z5, rfl, kp4.trans Kp.store, upd_same, by rw [upd_ne nst]; exact hl4, by rw [Str.length_append]; show nm.length + 1 ≤ j + 1; omega⟩
      rintro σ H4 ⟨v6, nm, d4, z4, rfl, kp4, hs4, hl4, hnm⟩
      refine ⟨_, rfl, ?_⟩
      refine ⟨fun m' σ H5 => ∃ (nm : Str) (t : Nat) (ts : List Str) (v8 : Option V), H5 = H4 ∧ σ = [some (.ref st), some (.int m), some (.str alpha), some (.ref l), some (.int i), some (.str nm), v6, some (.int ((i + 7 * t : Nat) : Int)), v8] ∧ nm.length ≤ 7 + 2 * t ∧ t ≤ nms.length + 1 ∧ Tried i ts ∧ (∀ x ∈ ts, x ∈ nms) ∧ ((t = 0 ∧ ts = []) ∨ (t = ts.length + 1 ∧ ∃ r, nm = ⟨#[97 + (i + 7 * ts.length) % 26]⟩ ++ r)) ∧ m' = nms.length + 2 - t,
        ⟨nms.length + 2, nm, 0, [], _, rfl, rfl, by omega, by omega, (fun j x e => nomatch e), (fun x e => nomatch e), .inl ⟨rfl, rfl⟩, rfl⟩, ?_⟩
      rintro m' σ H5 ⟨nm, t, ts, v8, rfl, rfl, hnm, ht, htr, hts, hcase, rfl⟩
      -- once more
      have again : (nm ∈ nms ∨ nm = "") → ∃ N : St → Hp → Prop, (∀ σ' H', N σ' H' → ∃ m', m' < nms.length + 2 - t ∧ ∃ (nm : Str) (t : Nat) (ts : List Str) (v8 : Option V), H' = H5 ∧ σ' = [some (.ref st), some (.int m), some (.str alpha), some (.ref l), some (.int i), some (.str nm), v6, some (.int ((i + 7 * t : Nat) : Int)), v8] ∧ nm.length ≤ 7 + 2 * t ∧ t ≤ nms.length + 1 ∧ Tried i ts ∧ (∀ x ∈ ts, x ∈ nms) ∧ ((t = 0 ∧ ts = []) ∨ (t = ts.length + 1 ∧ ∃ r, nm = ⟨#[97 + (i + 7 * ts.length) % 26]⟩ ++ r)) ∧ m' = nms.length + 2 - t) ∧
          ∀ nm2 r : Str, nm2 = ⟨#[97 + (i + 7 * t) % 26]⟩ ++ r → nm2.length ≤ 2 + nm.length → ∀ v8, N [some (.ref st), some (.int m), some (.str alpha), some (.ref l), some (.int i), some (.str nm2), v6, some (.int ((i + 7 * (t + 1) : Nat) : Int)), v8] H5 := fun hin => by
        obtain ⟨ts', h1, h2, h3, h4⟩ : ∃ ts' : List Str, Tried i ts' ∧ (∀ x ∈ ts', x ∈ nms) ∧ ts'.length = t ∧ t ≤ nms.length := by
          rcases hcase with ⟨rfl, rfl⟩ | ⟨et, r, er⟩
          · exact ⟨[], htr, hts, rfl, Nat.zero_le _⟩
          · have hin' : nm ∈ nms := hin.resolve_right fun e => one_ne _ r (by rw [← er]; exact e)
            have hT := htr.snoc er
            have hS : ∀ x ∈ ts ++ [nm], x ∈ nms := fun x hx => by
              rcases List.mem_append.mp hx with q | q
              · exact hts x q
              · rw [List.mem_singleton.mp q]; exact hin'
            have hL : (ts ++ [nm]).length = t := by rw [List.length_append, et]; rfl
            refine ⟨ts ++ [nm], hT, hS, hL, ?_⟩
            rw [← hL]
            exact len_le (tried_nd hT (by rw [hL]; omega)) hS
        refine ⟨fun σ' H' => H' = H5 ∧ ∃ (nm2 r : Str) (v8 : Option V), nm2 = ⟨#[97 + (i + 7 * t) % 26]⟩ ++ r ∧ nm2.length ≤ 2 + nm.length ∧ σ' = [some (.ref st), some (.int m), some (.str alpha), some (.ref l), some (.int i), some (.str nm2), v6, some (.int ((i + 7 * (t + 1) : Nat) : Int)), v8], ?_, fun nm2 r e1 e2 v8 => ⟨rfl, nm2, r, v8, e1, e2, rfl⟩⟩
        rintro σ' H' ⟨rfl, nm2, r, v8, e1, e2, rfl⟩
        exact ⟨nms.length + 2 - (t + 1), by omega, nm2, t + 1, ts', v8, rfl, rfl, by omega, by omega, h1, h2, .inr ⟨by omega, r, by rw [h3]; exact e1⟩, rfl⟩
      refine ⟨_, rfl, _, rfl, l, _, rfl, .inl (SqL.of hl4), rfl, flat_strs nms, _, rfl, ?_⟩
      show if inV (.str nm) (nms.map V.str) = true then _ else _
      rw [inV_str]
      refine ite2 (fun h1 => iteT ?_) (fun h1 => ?_)
      · obtain ⟨N, hN, hgo⟩ := again (.inl (of_decide_eq_true h1))
        refine ⟨N, hN, ?_⟩
        refine ⟨_, rfl, _, rfl, _, _, rfl, rfl, ⟨by decide, by decide⟩, _, rfl, nm, rfl, smallE (by omega), _, _, rfl, rfl, _, _, rfl, rfl, (by show (0 : Int) < 26; decide), alpha, _, _, rfl, rfl, smallE (by rw [alpha_len]; omega), alpha_at (by omega) (by omega), ?_⟩
        refine ⟨_, rfl, _, rfl, _, _, rfl, rfl, (by show (0 : Int) < 26; decide), alpha, _, _, rfl, rfl, smallE (by rw [alpha_len]; omega), alpha_at (by omega) (by omega), _, rfl, _, _, rfl, rfl, smallE (by show 1 + 1 ≤ 100000; omega), _, rfl, _, rfl, nm, rfl, smallE (by omega), fun y hy => ?_⟩
        refine ⟨_, _, rfl, rfl, smallE (by show 2 + y.length ≤ 100000; omega), ?_⟩
        refine ⟨_, rfl, _, _, rfl, rfl, ?_⟩
        have et : ((i + 7 * t : Nat) : Int) + 7 = ((i + 7 * (t + 1) : Nat) : Int) := by omega
        have ea : (((i + 7 * t : Nat) : Int) % 26).toNat = (i + 7 * t) % 26 := by omega
        show N [_, _, _, _, _, _, _, some (V.int (((i + 7 * t : Nat) : Int) + 7)), _] H5
        rw [et]
        refine hgo _ (⟨#[97 + ((((i + 7 * t : Nat) : Int) / 26 + (nm.length : Int)) % 26).toNat]⟩ ++ y) ?_ (by rw [Str.length_append, Str.length_append]; show 1 + 1 + y.length ≤ 2 + nm.length; omega) _
        rw [str_app, ea]
      refine ⟨_, rfl, rfl, _, rfl, ite2 (fun h2 => ?_) (fun h2 => ?_)⟩
      · obtain ⟨N, hN, hgo⟩ := again (.inr (V.str.inj (of_decide_eq_true h2)))
        refine ⟨N, hN, ?_⟩
        refine ⟨_, rfl, _, rfl, _, _, rfl, rfl, ⟨by decide, by decide⟩, _, rfl, nm, rfl, smallE (by omega), _, _, rfl, rfl, _, _, rfl, rfl, (by show (0 : Int) < 26; decide), alpha, _, _, rfl, rfl, smallE (by rw [alpha_len]; omega), alpha_at (by omega) (by omega), ?_⟩
        refine ⟨_, rfl, _, rfl, _, _, rfl, rfl, (by show (0 : Int) < 26; decide), alpha, _, _, rfl, rfl, smallE (by rw [alpha_len]; omega), alpha_at (by omega) (by omega), _, rfl, _, _, rfl, rfl, smallE (by show 1 + 1 ≤ 100000; omega), _, rfl, _, rfl, nm, rfl, smallE (by omega), fun y hy => ?_⟩
        refine ⟨_, _, rfl, rfl, smallE (by show 2 + y.length ≤ 100000; omega), ?_⟩
        refine ⟨_, rfl, _, _, rfl, rfl, ?_⟩
        have et : ((i + 7 * t : Nat) : Int) + 7 = ((i + 7 * (t + 1) : Nat) : Int) := by omega
        have ea : (((i + 7 * t : Nat) : Int) % 26).toNat = (i + 7 * t) % 26 := by omega
        show N [_, _, _, _, _, _, _, some (V.int (((i + 7 * t : Nat) : Int) + 7)), _] H5
        rw [et]
        refine hgo _ (⟨#[97 + ((((i + 7 * t : Nat) : Int) / 26 + (nm.length : Int)) % 26).toNat]⟩ ++ y) ?_ (by rw [Str.length_append, Str.length_append]; show 1 + 1 + y.length ≤ 2 + nm.length; omega) _
        rw [str_app, ea]
      have hni : nm ∉ nms := fun z => h1 (decide_eq_true z)
      refine ⟨_, rfl, .inl ⟨rfl, _, SqL.of hl4⟩, _, rfl, l, _, _, rfl, rfl, hl4, small (by rw [List.length_map]; omega), ?_⟩
      refine ⟨_, _, _, _, _, nms ++ [nm], d4, z4, rfl, Kp.put kp4 hl, by rw [upd_ne (Ne.symm nst)]; exact hs4, by rw [upd_same, List.map_append]; rfl, by rw [List.length_append]; show nms.length + 1 = i + 1; omega, ?_⟩
      refine List.pairwise_append.mpr ⟨hnd, by simp, fun a ha b hb e => hni ?_⟩
      rw [← List.mem_singleton.mp hb, ← e]
      exact ha
    · rintro σ H2 ⟨u4, u5, u6, u7, u8, nms, d2, z2, rfl, kp2, hs2, hl2, hlen, hnd⟩
      exact ⟨_, rfl, k l nms d2 z2 H2 hl kp2 hs2 hl2 hlen hnd⟩
end
end B32
namespace B32
open PySem L2 S2
def spLAsks : Sp := fun vs H Q _ => ∃ (st ln : Addr) (d z top : Int) (m : Nat) (nms : List Str), vs = [.ref st, .int m, .ref ln, .int top] ∧ H st = some (.lst [.int d, .int z]) ∧ H ln = some (.lst (nms.map V.str)) ∧ 1 ≤ m ∧ m ≤ 12 ∧ 0 < top ∧ top ≤ 1000001 ∧ nms.length ≤ 10 ∧
  ∀ (l : Addr) (pa : List Addr) (asks : List Ask) (d' z' : Int) (H' : Hp), H l = none → Kp st H H' → H' st = some (.lst [.int d', .int z']) → H' l = some (.lst (pa.map V.ref)) → RowsOf H' pa (asks.map askV) → asks.map (·.nm) = nms → (∀ a ∈ asks, GoodAsk m a) → Q (.ref l) H'
theorem rows_kp {st : Addr} {H H' : Hp} {as : List Addr} {rows : List (List V)} {xs : List V} (h : RowsOf H as rows) (hs : H st = some (.lst xs)) (k : Kp st H H') : RowsOf H' as rows := ⟨h.1, fun i p r e1 e2 => k _ _ (ne_of (h.2 i p r e1 e2) hs (by intro z; cases z)) (h.2 i p r e1 e2)⟩
section
variable {P : Program} {w : World} {K : PySem.W.Frag} {mg : Str → Option Value} {base : Heap}
abbrev nAsks : List Str := ["_law_stream_here", "_law_many", "_law_names_here", "_law_top", "_law_asks_here", "_law_name", "_law_first", "_law_spanned"]
theorem scLAsks : FnScope nAsks ["_law_stream_here", "_law_many", "_law_names_here", "_law_top"] (defScope sLAsks) := ⟨rfl, rfl, rfl, by decide +kernel, rfl, by decide +kernel, by decide +kernel⟩
set_option maxHeartbeats 8000000 in
theorem ok_lasks {f f1 : Addr} {fd d1 : FuncData} (F : Fun K "_law_asks" "_law_asks" sLAsks f fd) (N : Names mg)
    (G1 : FnOk P w K mg base CX0 1 f1 d1 ["_law_stream_here", "_law_many"] spTake) (b1 : Binds K d1 ["_law_stream_here", "_law_many"] []) (m1 : mg "_law_take" = some (.ref f1)) (k1 : PySem.W.keepIn K (.ref f1) = true) :
    FnOk P w K mg base CX0 2 f fd ["_law_stream_here", "_law_many", "_law_names_here", "_law_top"] spLAsks := by
  refine F.ok scLAsks (fun vs H Q E h => ?_) (fun cdv A outer s H vs Q E hr h => ?_)
  · obtain ⟨st, ln, d, z, top, m, nms, e, _⟩ := h
    rw [e]
    rfl
  · obtain ⟨st, ln, d, z, top, m, nms, e, hst, hln, hm1, hm2, ht0, ht1, hn10, k⟩ := h
    subst e
    refine ⟨_, pss_cons (ps_set (i := 4) scLAsks.nd rfl (Or.inl rfl) (pe_lst pa_nil))
      (pss_cons (ps_for PassesOwn.never rfl (pi_list (pv 2)) (pg_name (i := 5) scLAsks.nd rfl (Or.inl rfl))
        (pss_cons (ps_set (i := 6) scLAsks.nd rfl (Or.inl rfl) (pe_call G1 hr (by rfl) m1 k1 b1 .nil pass0 (pa_cons (pv 0) (pa_cons (pv 1) pa_nil))))
        (pss_cons (ps_set (i := 7) scLAsks.nd rfl (Or.inl rfl) (pe_op op_add pe_int (pe_call G1 hr (by rfl) m1 k1 b1 .nil pass0 (pa_cons (pv 0) (pa_cons (pe_ix ix_list (pe_lst (pa_cons pe_int (pa_cons (pe_op op_sub (pv 1) (pv 6)) pa_nil))) (pe_call G1 hr (by rfl) m1 k1 b1 .nil pass0 (pa_cons (pv 0) (pa_cons pe_int pa_nil))) (fun _ _ => rfl)) pa_nil)))))
        (pss_one (ps_expr (pe_bm PySem.F.plainAttrs_list PySem.F.slot_list_append PySem.F.type_list_append mt_append (pv 4) (pa_cons (pe_tup (pa_cons (pv 5) (pa_cons (pv 6) (pa_cons (pv 7) (pa_cons (pe_call G1 hr (by rfl) m1 k1 b1 .nil pass0 (pa_cons (pv 0) (pa_cons (pv 3) pa_nil))) pa_nil))))) pa_nil)))))))
      (pss_one (ps_ret (pv 4)))), ?_⟩
    refine ⟨smallE (by simp), fun l hl => ?_⟩
    have nst : l ≠ st := Ne.symm (ne_of_none hst hl)
    have nln : ln ≠ st := ne_of hln hst (by
      intro z
      injection z with z
      cases nms with
      | nil => cases z
      | cons x r => injection z with z1 z2; cases z1)
    have nll : ln ≠ l := ne_of_none hln hl
    refine ⟨_, rfl, ln, rfl, ⟨_, SqL.of (Same.put (Same.refl _) hl _ _ hln)⟩, for_list (K := K) (a := ln) (xs := nms.map V.str) (fun i σ H9 => ∃ (u5 u6 u7 : Option V) (pa : List Addr) (asks : List Ask) (d9 z9 : Int), σ = [some (.ref st), some (.int m), some (.ref ln), some (.int top), some (.ref l), u5, u6, u7] ∧ Kp st H H9 ∧ H9 st = some (.lst [.int d9, .int z9]) ∧ H9 l = some (.lst (pa.map V.ref)) ∧ RowsOf H9 pa (asks.map askV) ∧ asks.map (·.nm) = nms.take i ∧ (∀ a ∈ asks, GoodAsk m a))
      ⟨_, _, _, [], [], d, z, rfl, Kp.put (Kp.refl _) hl, by rw [upd_ne (Ne.symm nst)]; exact hst, upd_same, RowsOf.nil, rfl, fun a ha => nomatch ha⟩ (fun i σ H9 _ ⟨_, _, _, _, _, _, _, _, z, _⟩ => SqL.of (z _ _ nln hln)) ?_ ?_⟩
    · rintro i x σ H9 hx ⟨u5, u6, u7, pa, asks, d9, z9, rfl, kp9, hs9, hl9, hR9, hnm, hgd⟩
      obtain ⟨nm, rfl, enm⟩ : ∃ nm, x = .str nm ∧ nms[i]? = some nm := by
        rw [List.getElem?_map] at hx
        cases e : nms[i]? with
        | none => rw [e] at hx; cases hx
        | some y => rw [e] at hx; exact ⟨y, (Option.some.inj hx).symm, rfl⟩
      have hi := get_lt enm
      have hal : pa.length = i := by
        have := congrArg List.length hnm
        rw [List.length_map, List.length_take] at this
        rw [hR9.1, List.length_map]
        omega
      refine ⟨_, rfl, _, rfl, st, d9, z9, m, rfl, hs9, by omega, by omega, fun v1 d1 z1 v10 v11 => ?_⟩
      have k1 : Kp st H9 (upd H9 st (.lst [.int d1, .int z1])) := Kp.store
      have hs1 : (upd H9 st (.lst [.int d1, .int z1])) st = some (.lst [.int d1, .int z1]) := upd_same
      generalize upd H9 st (.lst [.int d1, .int z1]) = H1 at *
      obtain ⟨fs, rfl, hfs⟩ := nat_of (n := m) v10 v11
      refine ⟨_, rfl, _, rfl, _, rfl, _, _, rfl, rfl, (by show 2 ≤ sizeLine; decide), fun L hL => ?_⟩
      have k2 : Kp st H1 (upd H1 L (.lst [V.int 1, V.int ((m : Int) - (fs : Int))])) := Kp.of (Same.put (Same.refl _) hL)
      have hs2 := Same.put (Same.refl H1) hL (o := .lst [V.int 1, V.int ((m : Int) - (fs : Int))]) _ _ hs1
      have hL2 : (upd H1 L (.lst [V.int 1, V.int ((m : Int) - (fs : Int))])) L = some (.lst [V.int 1, V.int ((m : Int) - (fs : Int))]) := upd_same
      have nL : L ≠ st := Ne.symm (ne_of_none hs1 hL)
      generalize upd H1 L (.lst [V.int 1, V.int ((m : Int) - (fs : Int))]) = H2 at *
      refine ⟨_, rfl, st, d1, z1, 2, rfl, hs2, by decide, by decide, fun v2 d2 z2 v20 v21 => ?_⟩
      have k3 : Kp st H2 (upd H2 st (.lst [.int d2, .int z2])) := Kp.store
      have hs3 : (upd H2 st (.lst [.int d2, .int z2])) st = some (.lst [.int d2, .int z2]) := upd_same
      have hL3 := k3 _ _ nL hL2
      generalize upd H2 st (.lst [.int d2, .int z2]) = H3 at *
      obtain ⟨j, rfl, hj⟩ := nat_of (n := 2) v20 v21
      obtain ⟨M, eM, hM0, hM1⟩ : ∃ M : Int, [V.int 1, V.int ((m : Int) - (fs : Int))][j]? = some (.int M) ∧ 1 ≤ M ∧ M ≤ (m : Int) - fs := by
        match j, hj with
        | 0, _ => exact ⟨1, rfl, by omega, by omega⟩
        | 1, _ => exact ⟨(m : Int) - fs, rfl, by omega, by omega⟩
      refine ⟨L, _, _, _, rfl, rfl, SqL.of hL3, atI_nat eM, st, d2, z2, M, rfl, hs3, by omega, by omega, fun v3 d3 z3 v30 v31 => ?_⟩
      have k4 : Kp st H3 (upd H3 st (.lst [.int d3, .int z3])) := Kp.store
      have hs4 : (upd H3 st (.lst [.int d3, .int z3])) st = some (.lst [.int d3, .int z3]) := upd_same
      generalize upd H3 st (.lst [.int d3, .int z3]) = H4 at *
      have k94 : Kp st H9 H4 := ((k1.trans k2).trans k3).trans k4
      refine ⟨_, _, rfl, rfl, ?_⟩
      obtain ⟨sp, esp, hsp1, hsp2⟩ : ∃ sp : Nat, 1 + v3 = (sp : Int) ∧ 1 ≤ sp ∧ fs + sp ≤ m := ⟨(1 + v3).toNat, by omega, by omega, by omega⟩
      dsimp only
      rw [esp]
      have hl4 := k94 _ _ nst hl9
      refine ⟨_, rfl, .inl ⟨rfl, _, SqL.of hl4⟩, _, rfl, _, rfl, _, rfl, _, rfl, _, rfl, st, d3, z3, top, rfl, hs4, by omega, by omega, fun v4 d5 z5 v40 v41 => ?_⟩
      have k5 : Kp st H4 (upd H4 st (.lst [.int d5, .int z5])) := Kp.store
      have hs5 : (upd H4 st (.lst [.int d5, .int z5])) st = some (.lst [.int d5, .int z5]) := upd_same
      generalize upd H4 st (.lst [.int d5, .int z5]) = H5 at *
      refine ⟨(by show 4 ≤ sizeLine; decide), fun t ht => ?_⟩
      have s6 : Same H5 (upd H5 t (.tup [V.str nm, V.int (fs : Int), V.int (sp : Int), V.int v4])) := Same.put (Same.refl _) ht
      have ht6 : (upd H5 t (.tup [V.str nm, V.int (fs : Int), V.int (sp : Int), V.int v4])) t = some (.tup (askV ⟨nm, fs, sp, v4⟩)) := upd_same
      generalize upd H5 t (.tup [V.str nm, V.int (fs : Int), V.int (sp : Int), V.int v4]) = H6 at *
      have k96 : Kp st H9 H6 := (k94.trans k5).trans (Kp.of s6)
      have hl6 := k96 _ _ nst hl9
      have hs6 := s6 _ _ hs5
      refine ⟨l, _, _, rfl, rfl, hl6, small (by rw [List.length_map]; omega), ?_⟩
      refine ⟨_, _, _, pa ++ [t], asks ++ [⟨nm, fs, sp, v4⟩], d5, z5, rfl, Kp.put (kp9.trans k96) hl, by rw [upd_ne (Ne.symm nst)]; exact hs6, by rw [upd_same, List.map_append]; rfl, ?_, ?_, fun a ha => ?_⟩
      · rw [List.map_append]
        have := RowsOf.snoc (rows_kp hR9 hs9 k96) (Same.refl _) ht6
        exact rowsK this fun b xs e => by rw [upd_ne (ne_of e hl6 (by intro z; cases z))]; exact e
      · rw [List.map_append, hnm, List.take_add_one, enm]
        rfl
      · rcases List.mem_append.mp ha with q | q
        · exact hgd a q
        · rw [List.mem_singleton.mp q]
          exact ⟨hsp1, hsp2, v40, by show v4 ≤ 1000000; omega⟩
    · rintro σ H9 ⟨u5, u6, u7, pa, asks, d9, z9, rfl, kp9, hs9, hl9, hR9, hnm, hgd⟩
      rw [List.length_map, List.take_length] at hnm
      exact ⟨_, rfl, k l pa asks d9 z9 H9 hl kp9 hs9 hl9 hR9 hnm hgd⟩
end
theorem nm_inj : ∀ {as : List Ask}, (as.map (·.nm)).Nodup → ∀ a ∈ as, ∀ b ∈ as, a.nm = b.nm → a = b
  | [], _, a, ha, _, _, _ => nomatch ha
  | c :: as, nd, a, ha, b, hb, e => by
    rw [List.map_cons, List.nodup_cons] at nd
    rcases List.mem_cons.mp ha with z | z <;> rcases List.mem_cons.mp hb with y | y
    · rw [z, y]
    · exact absurd (by rw [← z, e]; exact List.mem_map_of_mem (f := (·.nm)) y) nd.1
    · exact absurd (by rw [← y, ← e]; exact List.mem_map_of_mem (f := (·.nm)) z) nd.1
    · exact nm_inj nd.2 a z b y e
theorem eqRow {K : PySem.W.Frag} {H : Hp} {n : Nat} {r : List V} (hr : r.all flatV = true) : ∀ (j : Nat) (x y : V), r[j]? = some x → r[j]? = some y → EqD K H n x y true := fun j x y e1 e2 => by
  rw [e1] at e2
  cases e2
  exact EqD.refl (List.all_eq_true.mp hr x (List.mem_of_getElem? e1))
theorem eqRows {K : PySem.W.Frag} {H : Hp} {n : Nat} {as bs : List Addr} {rows : List (List V)} (hA : RowsOf H as rows) (hB : RowsOf H bs rows) (hf : ∀ r ∈ rows, r.all flatV = true) :
    ∀ (j : Nat) (x y : V), (as.map V.ref)[j]? = some x → (bs.map V.ref)[j]? = some y → EqD K H (n + 1) x y true := fun j x y e1 e2 => by
  obtain ⟨p, r, rfl, _, er, hp⟩ := hA.get e1
  obtain ⟨q, r2, rfl, _, er2, hq⟩ := hB.get e2
  rw [er] at er2
  cases er2
  exact EqD.tupT (SqT.of hp) (SqT.of hq) rfl (eqRow (hf r (List.mem_of_getElem? er)))
theorem eqRefs {K : PySem.W.Frag} {H : Hp} {n : Nat} {xs : List V} (h : ∀ x ∈ xs, ∃ p, x = V.ref p) : ∀ (j : Nat) (x y : V), xs[j]? = some x → xs[j]? = some y → EqD K H n x y true := fun j x y e1 e2 => by
  rw [e1] at e2
  cases e2
  obtain ⟨p, rfl⟩ := h x (List.mem_of_getElem? e1)
  exact .same
theorem flat_rz {rz : List Rz} : ∀ r ∈ rz.map rzV, r.all flatV = true := fun r hr => by
  obtain ⟨p, _, rfl⟩ := List.mem_map.mp hr
  rfl
theorem rows_len {H : Hp} {as bs : List Addr} {rows : List (List V)} (hA : RowsOf H as rows) (hB : RowsOf H bs rows) : (as.map V.ref).length = (bs.map V.ref).length := by rw [List.length_map, List.length_map, hA.1, hB.1]
theorem eqFound {K : PySem.W.Frag} {H : Hp} {ln lr ln' lr' : Addr} {xs ys : List V} {ns : List Int} {ra ra' : List Addr} {rz : List Rz} (h1 : SqL K H ln (ns.map V.int)) (h2 : SqL K H ln' (ns.map V.int)) (h3 : SqL K H lr (ra.map V.ref)) (h4 : SqL K H lr' (ra'.map V.ref)) (h5 : RowsOf H ra (rz.map rzV)) (h6 : RowsOf H ra' (rz.map rzV)) :
    ∀ (j : Nat) (x y : V), [V.ref ln, V.ref lr][j]? = some x → [V.ref ln', V.ref lr'][j]? = some y → EqD K H 8 x y true := fun j x y e1 e2 => by
  match j, e1, e2 with
  | 0, e1, e2 =>
    cases e1
    cases e2
    exact EqD.lstT (n := 7) h1 h2 rfl eqInts
  | 1, e1, e2 =>
    cases e1
    cases e2
    exact EqD.lstT (n := 7) h3 h4 (rows_len h5 h6) (eqRows h5 h6 flat_rz)
  | j + 2, e1, _ => cases e1
theorem rows_asks {H : Hp} {pa : List Addr} {asks : List Ask} (h : RowsOf H pa (asks.map askV)) : (pa.map V.ref).map (askAt H) = asks ∧ ∀ x ∈ pa.map V.ref, IsAsk H x ∧ askAt H x ∈ asks := by
  have hl := h.1
  rw [List.length_map] at hl
  have one : ∀ (i : Nat) (hi : i < pa.length), H pa[i] = some (.tup (askV (asks[i]'(by omega)))) := fun i hi => h.2 i _ _ (List.getElem?_eq_getElem hi) (by rw [List.getElem?_map, List.getElem?_eq_getElem (show i < asks.length by omega)]; rfl)
  refine ⟨?_, fun x hx => ?_⟩
  · apply List.ext_getElem?
    intro i
    rw [List.getElem?_map, List.getElem?_map]
    by_cases hi : i < pa.length
    · rw [List.getElem?_eq_getElem hi, List.getElem?_eq_getElem (show i < asks.length by omega)]
      show some (askAt H (.ref pa[i])) = _
      rw [askAt_of (one i hi)]
    · rw [List.getElem?_eq_none (by omega), List.getElem?_eq_none (by omega)]
      rfl
  · obtain ⟨p, hp, rfl⟩ := List.mem_map.mp hx
    obtain ⟨i, hi, rfl⟩ := List.mem_iff_getElem.mp hp
    exact ⟨IsAsk.of (one i hi), by rw [askAt_of (one i hi)]; exact List.getElem_mem _⟩
theorem perm_uniqueM {α : Type} {le : α → α → Prop} : ∀ {l1 l2 : List α}, (∀ a ∈ l1, ∀ b ∈ l1, le a b → le b a → a = b) → l1.Perm l2 → l1.Pairwise le → l2.Pairwise le → l1 = l2
  | [], l2, _, p, _, _ => (List.nil_perm.mp p).symm
  | a :: t1, l2, anti, p, h1, h2 => by
    cases l2 with
    | nil => exact absurd (List.perm_nil.mp p) (by simp)
    | cons b t2 =>
      rw [List.pairwise_cons] at h1 h2
      have e : a = b := by
        rcases List.mem_cons.mp (p.mem_iff.mp (List.mem_cons_self (a := a) (l := t1))) with e | e
        · exact e
        · have hb := p.mem_iff.mpr (List.mem_cons_self (a := b) (l := t2))
          rcases List.mem_cons.mp hb with z | z
          · exact z.symm
          · exact anti a List.mem_cons_self b hb (h1.1 b z) (h2.1 a e)
      subst e
      rw [perm_uniqueM (fun x hx y hy => anti x (List.mem_cons_of_mem _ hx) y (List.mem_cons_of_mem _ hy)) ((List.perm_cons a).mp p) h1.2 h2.2]
theorem two_atI {x y v : Int} (h0 : 0 ≤ v) (h1 : v < 2) : ∃ M : Int, atI [V.int x, V.int y] v = some (.int M) ∧ (M = x ∨ M = y) := by
  obtain ⟨j, rfl, hj⟩ := nat_of (n := 2) h0 h1
  match j, hj with
  | 0, _ => exact ⟨x, rfl, .inl rfl⟩
  | 1, _ => exact ⟨y, rfl, .inr rfl⟩
theorem raisedS_len (g : Int) (fl : List Int) (asks order : List Ask) : (raisedS g fl asks order).1.length = fl.length := by
  unfold raisedS
  have : ∀ (o : List Ask) (st : List Int × List Rz), (o.foldl (step2 g) st).1.length = st.1.length := by
    intro o
    induction o with
    | nil => intro st; rfl
    | cons a o ih => intro st; rw [List.foldl_cons, ih]; show (spread _ _ _ st.1 _).length = _; rw [spread_len]
  rw [this, step1_len]
def spLaw (K : PySem.W.Frag) (T : Addr) : Sp := fun vs H Q _ => ∃ (a : Addr) (ns : List Int) (ps : Array Value), vs = [.ref a] ∧ SqL K H a (ns.map V.int) ∧ ns.length ≤ 63 ∧ H T = some (.tbl ps) ∧ TabOk H lamPos lamQual ps ∧ ∀ H', Q (.bl true) H'
theorem sum_dealt_to (R : Int) {n : Nat} (hn : 0 < n) : ∀ k : Nat, ((List.range k).map (dealtAt R n)).sum = (k : Int) * (R / n) + (if (k : Int) ≤ R % n then (k : Int) else R % n)
  | 0 => by
    have := Int.emod_nonneg R (show (n : Int) ≠ 0 by omega)
    rw [if_pos (by omega)]
    simp
  | k + 1 => by
    have m0 := Int.emod_nonneg R (show (n : Int) ≠ 0 by omega)
    rw [List.range_succ, List.map_append, List.sum_append, sum_dealt_to R hn k]
    have e : (((k + 1 : Nat) : Int)) * (R / n) = (k : Int) * (R / n) + R / n := by rw [Int.natCast_add, Int.add_mul]; simp
    rw [e]
    show _ + (dealtAt R n k + 0) = _
    unfold dealtAt
    split <;> split <;> split <;> omega
theorem sum_dealt (R : Int) {n : Nat} (hn : 0 < n) : ((List.range n).map (dealtAt R n)).sum = R := by
  rw [sum_dealt_to R hn n]
  have m1 := Int.emod_lt_of_pos R (show (0 : Int) < n by omega)
  rw [if_neg (by omega)]
  exact Int.mul_ediv_add_emod R n
theorem dealt_down (R : Int) (n : Nat) {i j : Nat} (h : i ≤ j) : dealtAt R n j ≤ dealtAt R n i := by
  unfold dealtAt
  split <;> split <;> omega
theorem dealt_near (R : Int) (n i j : Nat) : dealtAt R n i - dealtAt R n j < 2 := by
  unfold dealtAt
  split <;> split <;> omega
def posIdx (R : Int) (n : Nat) : List Nat := (List.range n).filter fun k => decide (0 < dealtAt R n k)
theorem posIdx_nd (R : Int) (n : Nat) : (posIdx R n).Nodup := List.Pairwise.filter _ List.nodup_range
theorem posIdx_mem {R : Int} {n k : Nat} : k ∈ posIdx R n ↔ k < n ∧ 0 < dealtAt R n k := by
  unfold posIdx
  rw [List.mem_filter, List.mem_range, decide_eq_true_eq]
theorem rzOf_pos (R : Int) (nm : Str) (f n : Nat) : rzOf R nm f n n = (posIdx R n).map fun k => (nm, f + k, dealtAt R n k) := rfl
def cellsK (R : Int) (n : Nat) (ks : List Nat) : List Int := (List.range n).map fun i => if i ∈ ks then dealtAt R n i else 0
theorem cellsK_len (R : Int) (n : Nat) (ks : List Nat) : (cellsK R n ks).length = n := by unfold cellsK; rw [List.length_map, List.length_range]
theorem cellsK_at {R : Int} {n : Nat} {ks : List Nat} {i : Nat} (h : i < n) : (cellsK R n ks)[i]? = some (if i ∈ ks then dealtAt R n i else 0) := by
  unfold cellsK
  rw [List.getElem?_map, List.getElem?_range h]
  rfl
theorem cellsK_nil (R : Int) (n : Nat) : cellsK R n [] = List.replicate n 0 := by
  apply List.ext_getElem?
  intro i
  by_cases h : i < n
  · rw [cellsK_at h, if_neg (by simp), List.getElem?_replicate, if_pos h]
  · rw [List.getElem?_eq_none (by rw [cellsK_len]; omega), List.getElem?_eq_none (by rw [List.length_replicate]; omega)]
theorem cellsK_snoc {R : Int} {n : Nat} {ks : List Nat} {i : Nat} (hi : i < n) : cellsK R n (ks ++ [i]) = (cellsK R n ks).set i (dealtAt R n i) := by
  apply List.ext_getElem?
  intro j
  by_cases h : j < n
  · rw [cellsK_at h, List.getElem?_set]
    by_cases e : i = j
    · subst e
      rw [if_pos (by simp), if_pos rfl, if_pos (by rw [cellsK_len]; exact hi)]
    · rw [if_neg e, cellsK_at h]
      congr 1
      by_cases q : j ∈ ks
      · rw [if_pos q, if_pos (by simp [q])]
      · rw [if_neg q, if_neg (by simp [q]; omega)]
  · rw [List.getElem?_eq_none (by rw [cellsK_len]; omega), List.getElem?_eq_none (by rw [List.length_set, cellsK_len]; omega)]
theorem cellsK_all {R : Int} (hR : 0 ≤ R) (n : Nat) : cellsK R n (posIdx R n) = (List.range n).map (dealtAt R n) := by
  unfold cellsK
  refine List.map_congr_left fun i hi => ?_
  have hi' := List.mem_range.mp hi
  by_cases q : i ∈ posIdx R n
  · rw [if_pos q]
  · rw [if_neg q]
    have := dealtAt_nn hR n i
    have : ¬ 0 < dealtAt R n i := fun z => q (posIdx_mem.mpr ⟨hi', z⟩)
    omega
def numsK (R : Int) (f n : Nat) (ns : List Int) (ks : List Nat) : List Int := (List.range ns.length).map fun j => ns.getD j 0 + if f ≤ j ∧ j - f ∈ ks then dealtAt R n (j - f) else 0
theorem numsK_len (R : Int) (f n : Nat) (ns : List Int) (ks : List Nat) : (numsK R f n ns ks).length = ns.length := by unfold numsK; rw [List.length_map, List.length_range]
theorem numsK_at {R : Int} {f n : Nat} {ns : List Int} {ks : List Nat} {j : Nat} (h : j < ns.length) : (numsK R f n ns ks)[j]? = some (ns.getD j 0 + if f ≤ j ∧ j - f ∈ ks then dealtAt R n (j - f) else 0) := by
  unfold numsK
  rw [List.getElem?_map, List.getElem?_range h]
  rfl
theorem numsK_nil (R : Int) (f n : Nat) (ns : List Int) : numsK R f n ns [] = ns := by
  apply List.ext_getElem?
  intro j
  by_cases h : j < ns.length
  · rw [numsK_at h, if_neg (by simp), List.getElem?_eq_getElem h]
    simp [List.getD, h]
  · rw [List.getElem?_eq_none (by rw [numsK_len]; omega), List.getElem?_eq_none (by omega)]
theorem numsK_getD {R : Int} {f n : Nat} {ns : List Int} {ks : List Nat} {j : Nat} (h : j < ns.length) : (numsK R f n ns ks).getD j 0 = ns.getD j 0 + if f ≤ j ∧ j - f ∈ ks then dealtAt R n (j - f) else 0 := by
  rw [List.getD_eq_getElem?_getD (l := numsK R f n ns ks), numsK_at h]
  rfl
theorem numsK_snoc {R : Int} {f n : Nat} {ns : List Int} {ks : List Nat} {i : Nat} (hk : i ∉ ks) (hi : f + i < ns.length) : numsK R f n ns (ks ++ [i]) = (numsK R f n ns ks).set (f + i) ((numsK R f n ns ks).getD (f + i) 0 + dealtAt R n i) := by
  apply List.ext_getElem?
  intro j
  by_cases h : j < ns.length
  · rw [numsK_at h, List.getElem?_set]
    by_cases e : f + i = j
    · subst e
      rw [if_pos ⟨Nat.le_add_right _ _, by rw [Nat.add_sub_cancel_left]; simp⟩, if_pos rfl, if_pos (by rw [numsK_len]; exact hi), numsK_getD hi, Nat.add_sub_cancel_left, if_neg (fun z => hk z.2)]
      congr 1
      omega
    · rw [if_neg e, numsK_at h]
      congr 2
      by_cases q : f ≤ j ∧ j - f ∈ ks
      · rw [if_pos q, if_pos ⟨q.1, by simp [q.2]⟩]
      · rw [if_neg q, if_neg (fun z => q ⟨z.1, by
          have := z.2
          simp at this
          rcases this with t | t
          · exact t
          · omega⟩)]
  · rw [List.getElem?_eq_none (by rw [numsK_len]; omega), List.getElem?_eq_none (by rw [List.length_set, numsK_len]; omega)]
theorem spread_at (R : Int) (f n : Nat) (ns : List Int) (hf : f + n ≤ ns.length) : ∀ (i : Nat), i ≤ n → spread R f n ns i = numsK R f n ns (List.range i)
  | 0, _ => (numsK_nil R f n ns).symm
  | i + 1, h => by
    rw [spread_succ, spread_at R f n ns hf i (by omega), List.range_succ, numsK_snoc (by simp) (by omega)]
theorem numsK_all {R : Int} (hR : 0 ≤ R) {f n : Nat} {ns : List Int} (hf : f + n ≤ ns.length) : numsK R f n ns (posIdx R n) = spread R f n ns n := by
  rw [spread_at R f n ns hf n (Nat.le_refl _)]
  unfold numsK
  refine List.map_congr_left fun j hj => ?_
  congr 1
  by_cases q : f ≤ j ∧ j - f ∈ posIdx R n
  · rw [if_pos q, if_pos ⟨q.1, List.mem_range.mpr (posIdx_mem.mp q.2).1⟩]
  · rw [if_neg q]
    by_cases q2 : f ≤ j ∧ j - f ∈ List.range n
    · rw [if_pos q2]
      have := dealtAt_nn hR n (j - f)
      have : ¬ 0 < dealtAt R n (j - f) := fun z => q ⟨q2.1, posIdx_mem.mpr ⟨List.mem_range.mp q2.2, z⟩⟩
      omega
    · rw [if_neg q2]
theorem fold_append (g : Int) (order : List Ask) : ∀ st : List Int × List Rz, ∃ more, (order.foldl (step2 g) st).2 = st.2 ++ more ∧ ∀ r ∈ more, ∃ a ∈ order, r.1 = a.nm := by
  induction order with
  | nil => intro st; exact ⟨[], (List.append_nil _).symm, fun r h => nomatch h⟩
  | cons a order ih =>
    intro st
    obtain ⟨more, e, h⟩ := ih (step2 g st a)
    refine ⟨rzOf (roomOf g st.1 a) a.nm a.fst a.sp a.sp ++ more, ?_, fun r hr => ?_⟩
    · rw [List.foldl_cons, e]
      show (st.2 ++ _) ++ more = _
      rw [List.append_assoc]
    · rcases List.mem_append.mp hr with q | q
      · rw [rzOf_pos] at q
        obtain ⟨k, _, rfl⟩ := List.mem_map.mp q
        exact ⟨a, List.mem_cons_self, rfl⟩
      · obtain ⟨b, hb, e2⟩ := h r q
        exact ⟨b, List.mem_cons_of_mem _ hb, e2⟩
theorem filter_none {l : List Rz} {nm : Str} (h : ∀ r ∈ l, r.1 ≠ nm) : l.filter (fun r => decide (r.1 = nm)) = [] := by
  rw [List.filter_eq_nil_iff]
  intro r hr
  simpa using h r hr
theorem told_one {g : Int} {fl : List Int} {asks order : List Ask} (nd : (order.map (·.nm)).Nodup) {i : Nat} {a : Ask} (hi : order[i]? = some a) :
    (raisedS g fl asks order).2.filter (fun r => decide (r.1 = a.nm)) = rzOf (roomOf g (raisedS g fl asks (order.take i)).1 a) a.nm a.fst a.sp a.sp := by
  have hl : i < order.length := (List.getElem?_eq_some_iff.mp hi).1
  have ea : order[i] = a := (List.getElem?_eq_some_iff.mp hi).2
  have eo : order = order.take i ++ a :: order.drop (i + 1) := by
    rw [← ea, List.getElem_cons_drop, List.take_append_drop]
  have nd' : ((order.take i).map (·.nm) ++ a.nm :: (order.drop (i + 1)).map (·.nm)).Nodup := by
    rw [← List.map_cons, ← List.map_append, ← eo]
    exact nd
  obtain ⟨n1, n2, n3⟩ := List.pairwise_append.mp nd'
  rw [List.pairwise_cons] at n2
  have e1 : raisedS g fl asks order = (order.drop (i + 1)).foldl (step2 g) (step2 g (raisedS g fl asks (order.take i)) a) := by
    unfold raisedS
    conv => lhs; rw [eo]
    rw [List.foldl_append, List.foldl_cons]
  obtain ⟨more, e2, hm⟩ := fold_append g (order.drop (i + 1)) (step2 g (raisedS g fl asks (order.take i)) a)
  obtain ⟨pre, e3, hp⟩ := fold_append g (order.take i) (step1 fl asks, [])
  have e3' : (raisedS g fl asks (order.take i)).2 = pre := e3
  rw [e1, e2]
  show (((raisedS g fl asks (order.take i)).2 ++ rzOf (roomOf g (raisedS g fl asks (order.take i)).1 a) a.nm a.fst a.sp a.sp) ++ more).filter _ = _
  rw [List.filter_append, List.filter_append, e3', filter_none (l := pre) fun r hr e => by
      obtain ⟨b, hb, e4⟩ := hp r hr
      exact n3 b.nm (List.mem_map_of_mem (f := (·.nm)) hb) a.nm List.mem_cons_self (by rw [← e4, e]), filter_none (l := more) fun r hr e => by
      obtain ⟨b, hb, e4⟩ := hm r hr
      exact n2.1 b.nm (List.mem_map_of_mem (f := (·.nm)) hb) (by rw [← e4, e])]
  rw [List.nil_append, List.append_nil, List.filter_eq_self]
  intro r hr
  rw [rzOf_pos] at hr
  obtain ⟨k, _, rfl⟩ := List.mem_map.mp hr
  simp
def keyR (spf : Str → Int) (r : Rz) : DV.Nest := ((spf r.1, r.1), (r.2.1 : Int))
theorem raises_up {g : Int} {spf : Str → Int} : ∀ {order : List Ask} {st : List Int × List Rz}, (∀ a ∈ order, spf a.nm = a.sp) → order.Pairwise (fun x y => DV.lexLt (keyA x) (keyA y) = true) → st.2.Pairwise (fun r r' => DV.nestLt (keyR spf r) (keyR spf r') = true) →
    (∀ r ∈ st.2, ∀ a ∈ order, DV.lexLt (spf r.1, r.1) (keyA a) = true) → (order.foldl (step2 g) st).2.Pairwise (fun r r' => DV.nestLt (keyR spf r) (keyR spf r') = true)
  | [], _, _, _, h, _ => h
  | a :: order, st, hs, ho, h, hb => by
    rw [List.pairwise_cons] at ho
    have ka : (spf a.nm, a.nm) = keyA a := by rw [hs a List.mem_cons_self]; rfl
    refine raises_up (order := order) (st := step2 g st a) (fun b hb => hs b (List.mem_cons_of_mem _ hb)) ho.2 ?_ ?_
    · show (st.2 ++ rzOf _ a.nm a.fst a.sp a.sp).Pairwise _
      rw [rzOf_pos]
      refine List.pairwise_append.mpr ⟨h, ?_, fun r hr r' hr' => ?_⟩
      · rw [List.pairwise_map]
        have : (posIdx (roomOf g st.1 a) a.sp).Pairwise (· < ·) := List.Pairwise.filter _ List.pairwise_lt_range
        refine this.imp fun {x y} hxy => ?_
        unfold DV.nestLt keyR
        rw [if_pos rfl]
        exact decide_eq_true (by show ((a.fst + x : Nat) : Int) < ((a.fst + y : Nat) : Int); omega)
      · obtain ⟨k, _, rfl⟩ := List.mem_map.mp hr'
        have q := hb r hr a List.mem_cons_self
        unfold DV.nestLt keyR
        dsimp only
        rw [ka]
        rw [if_neg (fun z => by rw [z, DV.lexIrr] at q; cases q)]
        exact q
    · intro r hr b hb'
      have hr' : r ∈ st.2 ++ rzOf (roomOf g st.1 a) a.nm a.fst a.sp a.sp := hr
      rcases List.mem_append.mp hr' with q | q
      · exact hb r q b (List.mem_cons_of_mem _ hb')
      · rw [rzOf_pos] at q
        obtain ⟨k, _, rfl⟩ := List.mem_map.mp q
        dsimp only
        rw [ka]
        exact ho.1 b hb'
def LeN (ns ms : List Int) : Prop := ns.length = ms.length ∧ ∀ j, ns.getD j 0 ≤ ms.getD j 0
theorem LeN.refl (ns : List Int) : LeN ns ns := ⟨rfl, fun _ => Int.le_refl _⟩
theorem LeN.trans {a b c : List Int} (h1 : LeN a b) (h2 : LeN b c) : LeN a c := ⟨h1.1.trans h2.1, fun j => Int.le_trans (h1.2 j) (h2.2 j)⟩
def sliceSum (ns : List Int) (f n : Nat) : Int := ((ns.drop f).take n).sum
theorem slice_succ {ns : List Int} {f n : Nat} (h : f + n < ns.length) : sliceSum ns f (n + 1) = sliceSum ns f n + ns.getD (f + n) 0 := by
  unfold sliceSum
  rw [List.take_add_one, List.sum_append, List.getElem?_drop, List.getElem?_eq_getElem h]
  simp [List.getD, h]
theorem slice_le {ns ms : List Int} (h : LeN ns ms) (f : Nat) : ∀ n, f + n ≤ ns.length → sliceSum ns f n ≤ sliceSum ms f n
  | 0, _ => by unfold sliceSum; simp
  | n + 1, hl => by
    have h1 := h.1
    have := slice_le h f n (by omega)
    have := h.2 (f + n)
    rw [slice_succ (by omega), slice_succ (by omega)]
    omega
theorem spread_getD {R : Int} {f n : Nat} {ns : List Int} (hf : f + n ≤ ns.length) (j : Nat) (hj : j < ns.length) : (spread R f n ns n).getD j 0 = ns.getD j 0 + if f ≤ j ∧ j - f ∈ List.range n then dealtAt R n (j - f) else 0 := by
  rw [spread_at R f n ns hf n (Nat.le_refl _), numsK_getD hj]
theorem spread_le {R : Int} (hR : 0 ≤ R) {f n : Nat} {ns : List Int} (hf : f + n ≤ ns.length) : LeN ns (spread R f n ns n) := by
  refine ⟨(spread_len R f n ns n).symm, fun j => ?_⟩
  by_cases hj : j < ns.length
  · rw [spread_getD hf j hj]
    have := dealtAt_nn hR n (j - f)
    split <;> omega
  · rw [List.getD_eq_getElem?_getD, List.getD_eq_getElem?_getD, List.getElem?_eq_none (by omega), List.getElem?_eq_none (by rw [spread_len]; omega)]
    exact Int.le_refl _
theorem spread_slice {R : Int} {f n : Nat} {ns : List Int} (hf : f + n ≤ ns.length) : ∀ k, k ≤ n → sliceSum (spread R f n ns n) f k = sliceSum ns f k + ((List.range k).map (dealtAt R n)).sum
  | 0, _ => by unfold sliceSum; simp
  | k + 1, h => by
    have hl := spread_len R f n ns n
    rw [slice_succ (by omega), slice_succ (by omega), spread_slice hf k (by omega), spread_getD hf (f + k) (by omega), Nat.add_sub_cancel_left, if_pos ⟨Nat.le_add_right _ _, List.mem_range.mpr (by omega)⟩, List.range_succ, List.map_append, List.sum_append]
    simp only [List.map_cons, List.map_nil, List.sum_cons, List.sum_nil]
    omega
def Has (g : Int) (ns : List Int) (a : Ask) : Prop := a.am ≤ sliceSum ns a.fst a.sp + g * (a.sp - 1)
theorem has_lack {g : Int} {ns : List Int} {a : Ask} : Has g ns a ↔ ¬ 0 < lackOf g ns a := by
  unfold Has lackOf sliceSum
  omega
theorem Has.le {g : Int} {ns ms : List Int} {a : Ask} (h : Has g ns a) (l : LeN ns ms) (hf : a.fst + a.sp ≤ ns.length) : Has g ms a := by
  have := slice_le l a.fst a.sp hf
  unfold Has at *
  omega
theorem step2_le {g : Int} {st : List Int × List Rz} {a : Ask} (hf : a.fst + a.sp ≤ st.1.length) : LeN st.1 (step2 g st a).1 := by
  refine spread_le ?_ hf
  unfold roomOf
  split <;> omega
theorem step2_has {g : Int} {st : List Int × List Rz} {a : Ask} (hf : a.fst + a.sp ≤ st.1.length) (h1 : 1 ≤ a.sp) : Has g (step2 g st a).1 a := by
  by_cases c : 0 < lackOf g st.1 a
  · rw [step2_some c]
    unfold Has
    dsimp only
    rw [spread_slice hf a.sp (Nat.le_refl _), sum_dealt _ (by omega)]
    unfold lackOf sliceSum
    omega
  · rw [step2_none c]
    exact has_lack.mpr c
theorem fold_has {g : Int} {m : Nat} : ∀ {order : List Ask} {st : List Int × List Rz}, st.1.length = m → (∀ a ∈ order, 1 ≤ a.sp ∧ a.fst + a.sp ≤ m) → LeN st.1 (order.foldl (step2 g) st).1 ∧ ∀ a ∈ order, Has g (order.foldl (step2 g) st).1 a
  | [], st, _, _ => ⟨LeN.refl _, fun a h => nomatch h⟩
  | b :: order, st, hl, h => by
    obtain ⟨b1, b2⟩ := h b List.mem_cons_self
    have l1 := step2_le (g := g) (st := st) (a := b) (by omega)
    have hl2 : (step2 g st b).1.length = m := by rw [← l1.1]; exact hl
    obtain ⟨i1, i2⟩ := fold_has (g := g) (order := order) (st := step2 g st b) hl2 fun a ha => h a (List.mem_cons_of_mem _ ha)
    refine ⟨l1.trans i1, fun a ha => ?_⟩
    rcases List.mem_cons.mp ha with e | e
    · rw [e]
      exact (step2_has (by omega) b1).le i1 (by rw [hl2]; omega)
    · exact i2 a e
theorem getD_set {ns : List Int} {i : Nat} {v : Int} (j : Nat) (h : i < ns.length) : (ns.set i v).getD j 0 = if i = j then v else ns.getD j 0 := by
  rw [List.getD_eq_getElem?_getD, List.getElem?_set]
  by_cases e : i = j
  · rw [if_pos e, if_pos e, if_pos h]; rfl
  · rw [if_neg e, if_neg e]; rfl
theorem single_le {ns : List Int} {a : Ask} (hf : a.fst < ns.length) : LeN ns (single ns a) := by
  refine ⟨(single_len ns a).symm, fun j => ?_⟩
  unfold single
  split
  · rw [getD_set j hf]
    split
    · rename_i e
      rw [← e]
      split <;> omega
    · exact Int.le_refl _
  · exact Int.le_refl _
theorem single_has {ns : List Int} {a : Ask} (hf : a.fst < ns.length) (h1 : a.sp = 1) : a.am ≤ (single ns a).getD a.fst 0 := by
  unfold single
  rw [if_pos h1, getD_set _ hf, if_pos rfl]
  split <;> omega
theorem step1_has {m : Nat} : ∀ {as : List Ask} {ns : List Int}, ns.length = m → (∀ a ∈ as, a.fst < m) → LeN ns (step1 ns as) ∧ ∀ a ∈ as, a.sp = 1 → a.am ≤ (step1 ns as).getD a.fst 0
  | [], ns, _, _ => ⟨LeN.refl _, fun a h => nomatch h⟩
  | b :: as, ns, hl, h => by
    have hb := h b List.mem_cons_self
    have l1 := single_le (ns := ns) (a := b) (by omega)
    obtain ⟨i1, i2⟩ := step1_has (as := as) (ns := single ns b) (by rw [single_len]; exact hl) fun a ha => h a (List.mem_cons_of_mem _ ha)
    refine ⟨l1.trans i1, fun a ha e => ?_⟩
    rcases List.mem_cons.mp ha with z | z
    · rw [z] at e ⊢
      exact Int.le_trans (single_has (by omega) e) (i1.2 b.fst)
    · exact i2 a z e
theorem slice_one {ns : List Int} {f : Nat} (h : f < ns.length) : sliceSum ns f 1 = ns.getD f 0 := by
  have := slice_succ (ns := ns) (f := f) (n := 0) (by omega)
  rw [this]
  unfold sliceSum
  simp
theorem all_has {g : Int} {m : Nat} {fl : List Int} {asks order : List Ask} (hl : fl.length = m) (h : ∀ a ∈ asks, 1 ≤ a.sp ∧ a.fst + a.sp ≤ m) (hp : order.Perm (asks.filter fun a => decide (1 < a.sp))) : ∀ a ∈ asks, Has g (raisedS g fl asks order).1 a := by
  intro a ha
  obtain ⟨a1, a2⟩ := h a ha
  obtain ⟨s1, s2⟩ := step1_has (as := asks) hl fun b hb => by have := h b hb; omega
  have hl2 : (step1 fl asks).length = m := by rw [step1_len]; exact hl
  obtain ⟨f1, f2⟩ := fold_has (g := g) (order := order) (st := (step1 fl asks, [])) hl2 fun b hb => h b (List.mem_filter.mp (hp.mem_iff.mp hb)).1
  by_cases c : 1 < a.sp
  · exact f2 a (hp.mem_iff.mpr (List.mem_filter.mpr ⟨ha, decide_eq_true c⟩))
  · have e1 : a.sp = 1 := by omega
    have : Has g (step1 fl asks) a := by
      have := s2 a ha e1
      unfold Has
      rw [e1, slice_one (by omega)]
      simp
      exact this
    exact this.le f1 (by show a.fst + a.sp ≤ (step1 fl asks).length; omega)
theorem again_same {g : Int} {m : Nat} {num : List Int} {asks order : List Ask} (hl : num.length = m) (h : ∀ a ∈ asks, 1 ≤ a.sp ∧ a.fst + a.sp ≤ m) (hh : ∀ a ∈ asks, Has g num a) (hp : order.Perm (asks.filter fun a => decide (1 < a.sp))) : raisedS g num asks order = (num, []) := by
  have e1 : ∀ as : List Ask, (∀ a ∈ as, a ∈ asks) → step1 num as = num := by
    intro as
    induction as with
    | nil => intro _; rfl
    | cons a as ih =>
      intro hs
      show step1 (single num a) as = num
      have ha := hs a List.mem_cons_self
      have e : single num a = num := by
        unfold single
        split
        · rename_i e1
          have q := hh a ha
          obtain ⟨_, a2⟩ := h a ha
          unfold Has at q
          rw [e1, slice_one (by omega)] at q
          have z : g * (((1 : Nat) : Int) - 1) = 0 := by simp
          rw [z] at q
          rw [if_neg (by omega)]
          apply List.ext_getElem?
          intro j
          rw [List.getElem?_set]
          by_cases z : a.fst = j
          · subst z
            rw [if_pos rfl, if_pos (by omega), List.getElem?_eq_getElem (by omega)]
            simp [List.getD, show a.fst < num.length by omega]
          · rw [if_neg z]
        · rfl
      rw [e]
      exact ih fun b hb => hs b (List.mem_cons_of_mem _ hb)
  have e2 : ∀ o : List Ask, (∀ a ∈ o, a ∈ asks) → o.foldl (step2 g) (num, []) = (num, []) := by
    intro o
    induction o with
    | nil => intro _; rfl
    | cons a o ih =>
      intro hs
      rw [List.foldl_cons, step2_none (has_lack.mp (hh a (hs a List.mem_cons_self)))]
      exact ih fun b hb => hs b (List.mem_cons_of_mem _ hb)
  unfold raisedS
  rw [e1 asks fun a h => h, e2 order fun a ha => (List.mem_filter.mp (hp.mem_iff.mp ha)).1]
end B32
namespace B32
open PySem L2 S2
abbrev gThree (K : PySem.W.Frag) : TG := gTup K 3 (gCons (gName 0) (gCons (gName 1) (gCons (gName 2) gNil)))
theorem pg_threeK {X : Cx} {K : PySem.W.Frag} (hK : X.K = K) {x y z : Str} {px py pz pt : Pos} {kk : Nat} (hc : X.calm = true) (hN : X.N.Nodup) (h0 : X.N[0]? = some x) (h1 : X.N[1]? = some y) (h2 : X.N[2]? = some z) (hx : X.env.scope.names.lookup x = some .local) (hy : X.env.scope.names.lookup y = some .local) (hz : X.env.scope.names.lookup z = some .local)
    (ha : (assignEach [.Name x px, .Name y py, .Name z pz] X.env).map (·.2) = [assign (.Name x px) X.env, assign (.Name y py) X.env, assign (.Name z pz) X.env] := by rfl) (hb : (assignEach [.Name y py, .Name z pz] X.env).map (·.2) = [assign (.Name y py) X.env, assign (.Name z pz) X.env] := by rfl) (hd : (assignEach [.Name z pz] X.env).map (·.2) = [assign (.Name z pz) X.env] := by rfl)
    (hn : (assignEach [.Name x px, .Name y py, .Name z pz] X.env).length = 3 := by rfl) (hst : (assignEach [.Name x px, .Name y py, .Name z pz] X.env).findIdx? (·.1) = none := by rfl) : PG X (.Tuple [.Name x px, .Name y py, .Name z pz] kk pt) (gThree K) := by
  subst hK
  exact pg_tup hc (pgs_cons (pg_name hN h0 (.inl hx) (.inr hx)) (pgs_cons (pg_name hN h1 (.inl hy) (.inr hy)) (pgs_cons (pg_name hN h2 (.inl hz) (.inr hz)) pgs_nil (by rw [hd]; rfl)) (by rw [hb, hd])) (by rw [ha, hb])) hn hst
theorem comp_rz {K : PySem.W.Frag} {a : Addr} {as : List Addr} {rz : List Rz} {tt : TT} {te : TE} {σ : St} {H : Hp} {Q : VK} (Pv : Addr → Nat → List V → Hp → Prop) (hn : rz.length < sizeLine) (h0 : ∀ D, H D = none → Pv D 0 [] (upd H D (.lst [])))
    (hs : ∀ D i l H', Pv D i l H' → SqL K H' a (as.map V.ref) ∧ RowsOf H' as (rz.map rzV)) (hl : ∀ D i l H', Pv D i l H' → l.length ≤ i)
    (he : ∀ (D : Addr) (i : Nat) (r : Rz) (l : List V) (H' : Hp) (Q1 : Bool → Hp → Prop), rz[i]? = some r → Pv D i l H' → (∀ b H2, (b = false → Pv D (i + 1) l H2) → (b = true → ∀ Q' : VK, (∀ y H3, H3 D = some (.lst l) → Pv D (i + 1) (l ++ [y]) (upd H3 D (.lst (l ++ [y]))) → Q' y H3) → te (some (.str r.1) :: some (.int r.2.1) :: some (.int r.2.2) :: σ) H2 Q') → Q1 b H2) → tt (some (.str r.1) :: some (.int r.2.1) :: some (.int r.2.2) :: σ) H' Q1)
    (hd : ∀ D l H', H D = none → Pv D rz.length l H' → Q (.ref D) H') : CompGoN (Itl K a) H 3 σ (gThree K) tt te Q := by
  intro D hD
  refine ⟨fun i m H' => m = rz.length - i ∧ i ≤ rz.length ∧ ∃ l, Pv D i l H', ⟨rz.length, by omega, Nat.zero_le _, [], h0 D hD⟩, ?_⟩
  rintro i m H' ⟨rfl, hi, l, hp⟩
  obtain ⟨q, hR⟩ := hs D i l H' hp
  have hlen : as.length = rz.length := by rw [hR.1, List.length_map]
  by_cases hlt : i < rz.length
  · refine .inr ⟨⟨as.map V.ref, .ref (as[i]'(by omega)), q, by simp [show i < as.length by omega]⟩, fun x H2 ρ lρ y => ?_⟩
    obtain ⟨e, y⟩ := y
    subst e
    have hx := y _ q
    have er : rz[i]? = some rz[i] := List.getElem?_eq_getElem hlt
    have ex : x = .ref (as[i]'(by omega)) := by
      rw [List.getElem?_map, List.getElem?_eq_getElem (show i < as.length by omega)] at hx
      exact (Option.some.inj hx).symm
    subst ex
    have hp0 : H2 (as[i]'(by omega)) = some (.tup (rzV rz[i])) := hR.2 i _ _ (List.getElem?_eq_getElem (by omega)) (by rw [List.getElem?_map, er]; rfl)
    match ρ, lρ with
    | [r0, r1, r2], _ =>
      refine ⟨_, _, rfl, SqT.of hp0, rfl, _, _, rfl, _, _, rfl, _, _, rfl, rfl, ⟨[some (.str rz[i].1), some (.int rz[i].2.1), some (.int rz[i].2.2)], rfl, rfl⟩, ?_⟩
      refine he D i rz[i] l H2 _ er hp fun c H3 hf ht => ?_
      cases c with
      | false =>
        refine iteF ?_
        exact ⟨rz.length - (i + 1), by omega, rfl, hlt, l, hf rfl⟩
      | true =>
        refine iteT (ht rfl _ fun v H4 z1 z2 => ?_)
        have hl2 := hl D i l H2 hp
        exact ⟨l, z1, Nat.lt_of_le_of_lt hl2 (by omega), rz.length - (i + 1), by omega, rfl, hlt, l ++ [v], z2⟩
  · have e : i = rz.length := by omega
    subst e
    exact .inl ⟨⟨_, q, by rw [List.length_map, hlen]; exact Nat.le_refl _⟩, hd D l H' hD hp⟩
def twoV (r : Rz) : List V := [.int r.2.1, .int r.2.2]
def spTold : Sp := fun vs H Q _ => ∃ (lr : Addr) (nm : Str) (ra : List Addr) (rz : List Rz), vs = [.ref lr, .str nm] ∧ H lr = some (.lst (ra.map V.ref)) ∧ RowsOf H ra (rz.map rzV) ∧ ra.length ≤ 1000 ∧
  ∀ (l : Addr) (pb : List Addr) (H' : Hp), H l = none → Same H H' → H' l = some (.lst (pb.map V.ref)) → RowsOf H' pb ((rz.filter fun r => decide (r.1 = nm)).map twoV) → Q (.ref l) H'
def spRight (K : PySem.W.Frag) : Sp := fun vs H Q _ => ∃ (ln p lm : Addr) (g : Int) (a : Ask) (ns : List Int) (pb : List Addr), vs = [.int g, .ref ln, .ref p, .ref lm] ∧ H ln = some (.lst (ns.map V.int)) ∧ H p = some (.tup (askV a)) ∧ H lm = some (.lst (pb.map V.ref)) ∧ RowsOf H pb ((rzOf (roomOf g ns a) a.nm a.fst a.sp a.sp).map twoV) ∧ 0 ≤ g ∧ g ≤ 1000 ∧ 1 ≤ a.sp ∧ a.fst + a.sp ≤ ns.length ∧ ns.length ≤ 12 ∧
  ∀ (H' : Hp), (∀ b u, b ≠ ln → H b = some u → H' b = some u) → H' ln = some (.lst ((spread (roomOf g ns a) a.fst a.sp ns a.sp).map V.int)) → Q (.bl true) H'
section
variable {P : Program} {w : World} {K : PySem.W.Frag} {mg : Str → Option Value} {base : Heap}
abbrev nTold : List Str := ["_law_told_here", "_law_number", "_law_cells", "_law_raises", "_law_name"]
theorem ndTold : nTold.Nodup := by decide +kernel
theorem scTold : FnScope ["_law_raises", "_law_name"] ["_law_raises", "_law_name"] (defScope sLTold) := ⟨rfl, rfl, rfl, by decide +kernel, rfl, by decide +kernel, by decide +kernel⟩
set_option maxHeartbeats 8000000 in
theorem ok_told {f : Addr} {fd : FuncData} (F : Fun K "_law_told" "_law_told" sLTold f fd) : FnOk P w K mg base CX0 1 f fd ["_law_raises", "_law_name"] spTold := by
  refine F.ok scTold (fun vs H Q E h => ?_) (fun cdv A outer s H vs Q E hr h => ?_)
  · obtain ⟨lr, nm, ra, rz, e, _⟩ := h
    rw [e]
    rfl
  · obtain ⟨lr, nm, ra, rz, e, hlr, hR, hra, k⟩ := h
    subst e
    refine ⟨_, pss_one (ps_ret (pe_compN (k := 3) (N' := nTold) (compScN_mk (fs := defScope sLTold) (N := ["_law_raises", "_law_name"]) rfl rfl (by decide +kernel)) rfl (pi_list (pv 0)) (fun _ _ _ _ _ => pg_threeK (K := K) rfl rfl ndTold rfl rfl rfl rfl rfl rfl)
      (fun _ _ _ _ _ => pts_one (pt_cmpR op_eq (pv 0) (pv 4) (nomark _))) (fun _ _ _ _ _ => pe_tup (pa_cons (pv 1) (pa_cons (pv 2) pa_nil))))), ?_⟩
    have hlz : ra.length = rz.length := by rw [hR.1, List.length_map]
    refine ⟨_, rfl, lr, rfl, ⟨_, SqL.of hlr⟩, ?_⟩
    refine comp_rz (K := K) (as := ra) (rz := rz) (fun D i l H' => ∃ pb : List Addr, l = pb.map V.ref ∧ pb.length ≤ i ∧ H D = none ∧ H' D = some (.lst l) ∧ Same H H' ∧ RowsOf H' pb (((rz.take i).filter fun r => decide (r.1 = nm)).map twoV)) (small (by omega))
      (fun D hD => ⟨[], rfl, Nat.le_refl _, hD, upd_same, Same.put (Same.refl _) hD, RowsOf.nil⟩) (fun D i l H' ⟨_, _, _, _, _, z, _⟩ => ⟨SqL.of (z _ _ hlr), hR.same z⟩) (fun D i l H' ⟨pb, e1, e2, _⟩ => by rw [e1, List.length_map]; exact e2) ?_ ?_
    · rintro D i r l H' Q1 er ⟨pb, rfl, hpb, hD0, hD, s', hR'⟩ hq
      have etk : (rz.take (i + 1)).filter (fun r => decide (r.1 = nm)) = (rz.take i).filter (fun r => decide (r.1 = nm)) ++ (if r.1 = nm then [r] else []) := by
        rw [List.take_add_one, er, List.filter_append]
        congr 1
        by_cases c : r.1 = nm
        · rw [if_pos c]; exact List.filter_cons_of_pos (p := fun r : Rz => decide (r.1 = nm)) (decide_eq_true c)
        · rw [if_neg c]; exact List.filter_cons_of_neg (p := fun r : Rz => decide (r.1 = nm)) (by simpa using c)
      refine ⟨_, rfl, _, rfl, rfl, _, rfl, ?_⟩
      refine hq _ _ (fun hb => ⟨pb, rfl, by omega, hD0, hD, s', ?_⟩) (fun hb Q' hq' => ?_)
      · rw [etk, if_neg (fun z => by have := of_decide_eq_false hb; exact this (by rw [z])), List.append_nil]
        exact hR'
      · refine ⟨_, rfl, _, rfl, (by show 2 ≤ sizeLine; decide), fun t ht => ?_⟩
        have s2 : Same H' (upd H' t (.tup [V.int (r.2.1 : Int), V.int r.2.2])) := Same.put (Same.refl _) ht
        have ht2 : (upd H' t (.tup [V.int (r.2.1 : Int), V.int r.2.2])) t = some (.tup (twoV r)) := upd_same
        have hDt := s2 _ _ hD
        refine hq' _ _ hDt ⟨pb ++ [t], by rw [List.map_append]; rfl, by rw [List.length_append]; simp only [List.length_singleton]; omega, hD0, upd_same, fun b u e => ?_, ?_⟩
        · rw [upd_ne (ne_of_none e hD0)]
          exact s2 _ _ (s' _ _ e)
        · rw [etk, if_pos (V.str.inj (of_decide_eq_true hb)), List.map_append]
          exact rowsK (RowsOf.snoc hR' s2 ht2) fun b xs e => by rw [upd_ne (ne_of e hDt (by intro z; cases z))]; exact e
    · rintro D l H' hD0 ⟨pb, rfl, _, _, hD, s', hR'⟩
      rw [List.take_length] at hR'
      exact k D pb H' hD0 s' hD hR'
abbrev nRt : List Str := ["_law_gap", "_law_numbers", "_law_ask", "_law_mine", "_law_name", "_law_first", "_law_spanned", "_law_amount", "_law_lack", "_law_cells", "_law_number", "_law_more"]
theorem scRight : FnScope nRt ["_law_gap", "_law_numbers", "_law_ask", "_law_mine"] (defScope sLRight) := ⟨rfl, rfl, rfl, by decide +kernel, rfl, by decide +kernel, by decide +kernel⟩
set_option maxHeartbeats 16000000 in
theorem ok_right {f : Addr} {fd : FuncData} (F : Fun K "_law_ask_right" "_law_ask_right" sLRight f fd) (N : Names mg) : FnOk P w K mg base CX0 1 f fd ["_law_gap", "_law_numbers", "_law_ask", "_law_mine"] (spRight K) := by
  refine F.ok scRight (fun vs H Q E h => ?_) (fun cdv A outer s H vs Q E hr h => ?_)
  · obtain ⟨ln, p, lm, g, a, ns, pb, e, _⟩ := h
    rw [e]
    rfl
  · obtain ⟨ln, p, lm, g, a, ns, pb, e, hn, hp, hm, hR, hg0, hg1, h1, h2, h12, k⟩ := h
    subst e
    have hu : (A.deeper (PyProof.Rows.envOfC "_law_ask_right" (defScope sLRight) s.heap.objs.size f cdv)).units + 20 < cLine := by have := hr.units; omega
    have hu0 : (A.deeper (PyProof.Rows.envOfC "_law_ask_right" (defScope sLRight) s.heap.objs.size f cdv)).units < cLine := by have := hr.units; omega
    refine ⟨_, pss_cons (ps_asg (pv 2) (pg_tup rfl (pgs_cons (pg_name (i := 4) scRight.nd rfl (Or.inl rfl)) (pgs_cons (pg_name (i := 5) scRight.nd rfl (Or.inl rfl)) (pgs_cons (pg_name (i := 6) scRight.nd rfl (Or.inl rfl)) (pgs_cons (pg_name (i := 7) scRight.nd rfl (Or.inl rfl)) pgs_nil))))))
      (pss_cons (ps_set (i := 8) scRight.nd rfl (Or.inl rfl) (pe_op op_sub (pe_op op_sub (pv 7) (pe_callB (call_sumL rfl) (by rfl) N.sum PyProof.Rows.boot_sum (pa_cons (pe_slice sl_list (pv 1) (po_some (pv 5)) (po_some (pe_op op_add (pv 5) (pv 6)))) pa_nil))) (pe_op op_mul (pv 0) (pe_op op_sub (pv 6) pe_int))))
      (pss_cons (ps_if (pt_cmpR op_le (pv 8) pe_int (nomark _)) (pss_one (ps_ret (pe_cmpR (op_eqN hu0) (pv 3) (pe_lst pa_nil) (nomark _)))) pss_nil)
      (pss_cons (ps_set (i := 9) scRight.nd rfl (Or.inl rfl) (pe_op op_rep (pe_lst (pa_cons pe_int pa_nil)) (pv 6)))
      (pss_cons (ps_for PassesOwn.never rfl (pi_list (pv 3)) (pg_tup rfl (pgs_cons (pg_name (i := 10) scRight.nd rfl (Or.inl rfl)) (pgs_cons (pg_name (i := 11) scRight.nd rfl (Or.inl rfl)) pgs_nil)))
        (pss_cons (ps_if (pw_or (pt_not (pt_chain op_le op_lt (pv 5) (pv 10) (pe_op op_add (pv 5) (pv 6)))) (pw_or (pt_cmpR op_lt (pv 11) pe_int (nomark _)) (pw_or1 (pt_cmpR op_ne (pe_ix ix_list (pv 9) (pe_op op_sub (pv 10) (pv 5)) (fun _ _ => rfl)) pe_int (nomark _))))).pt (pss_one (ps_ret pe_bl)) pss_nil)
        (pss_cons (ps_asg (pv 11) (pg_sub (pv 9) (pe_op op_sub (pv 10) (pv 5)) set_list))
        (pss_one (ps_asg (pe_op op_add (pe_ix ix_list (pv 1) (pv 10) (fun _ _ => rfl)) (pv 11)) (pg_sub (pv 1) (pv 10) set_list))))))
      (pss_one (ps_ret (pe_and (pe_cmpR op_eq (pe_callB (call_sumL rfl) (by rfl) N.sum PyProof.Rows.boot_sum (pa_cons (pv 9) pa_nil)) (pv 8) (nomark _)) (pe_and (pe_cmpR (op_eqDeep hu) (pv 9) (pe_sortRev (by rfl) N.sorted (pa_cons (pv 9) pa_nil) (pk_cons pe_bl pk_nil)) (nomark _)) (pe_one (pe_cmpR op_lt (pe_op op_sub (pe_ix ix_list (pv 9) pe_int (fun _ _ => rfl)) (pe_ix ix_list (pv 9) (pe_op op_sub (pv 6) pe_int) (fun _ _ => rfl))) pe_int (nomark _))))))))))), ?_⟩
    refine ⟨_, rfl, p, _, rfl, SqT.of hp, rfl, _, _, rfl, _, _, rfl, _, _, rfl, _, _, rfl, rfl, ?_⟩
    -- what it lacks
    refine ⟨_, rfl, _, rfl, _, rfl, _, rfl, _, rfl, _, rfl, _, _, rfl, rfl, _, rfl, ln, _, rfl, SqL.of hn, fun lc hlc => ?_⟩
    have ecut : cutV (ns.map V.int) (some (a.fst : Int)) (some ((a.fst : Int) + (a.sp : Int))) = ((ns.drop a.fst).take a.sp).map V.int := by
      rw [show ((a.fst : Int) + (a.sp : Int)) = ((a.fst + a.sp : Nat) : Int) by omega, cells_cut]
      unfold cellsOf
      rw [Nat.min_eq_left (by omega), Nat.min_eq_left (by omega), Nat.add_sub_cancel_left]
    rw [ecut]
    have sA : Same H (upd H lc (.lst (((ns.drop a.fst).take a.sp).map V.int))) := Same.put (Same.refl _) hlc
    have hcA : (upd H lc (.lst (((ns.drop a.fst).take a.sp).map V.int))) lc = some (.lst (((ns.drop a.fst).take a.sp).map V.int)) := upd_same
    generalize upd H lc (.lst (((ns.drop a.fst).take a.sp).map V.int)) = HA at *
    refine ⟨lc, _, rfl, SqL.of hcA, _, _, rfl, rfl, _, rfl, _, rfl, _, _, rfl, rfl, _, _, rfl, rfl, .inl ⟨by omega, by omega⟩, _, _, rfl, rfl, ?_⟩
    have elk : a.am - ((ns.drop a.fst).take a.sp).sum - g * ((a.sp : Int) - 1) = lackOf g ns a := rfl
    dsimp only
    rw [elk]
    refine ⟨_, rfl, _, _, rfl, rfl, _, rfl, ite2 (fun hc => ?_) (fun hc => ?_)⟩
    · have hc' : lackOf g ns a ≤ 0 := of_decide_eq_true hc
      have er : roomOf g ns a = 0 := by unfold roomOf; rw [if_neg (by omega)]
      rw [er] at hR k
      rw [rzOf_zero] at hR
      rw [spread_zero] at k
      have epb : pb = [] := List.eq_nil_of_length_eq_zero hR.1
      subst epb
      refine ⟨_, rfl, smallE (by simp), fun le hle => ?_⟩
      have sB : Same H (upd HA le (.lst [])) := Same.put sA (same_none sA hle)
      exact ⟨lm, le, [], rfl, rfl, SqL.of (sB _ _ hm), SqL.of upd_same, k _ (fun b u _ e => sB _ _ e) (sB _ _ hn)⟩
    · have hc' : 0 < lackOf g ns a := by
        have : ¬ lackOf g ns a ≤ 0 := fun z => hc (decide_eq_true z)
        omega
      have er : roomOf g ns a = lackOf g ns a := by unfold roomOf; rw [if_pos hc']
      rw [er] at hR k
      generalize lackOf g ns a = R at *
      rw [rzOf_pos, List.map_map] at hR
      have hpl : pb.length = (posIdx R a.sp).length := by rw [hR.1, List.length_map]
      have hpn : (posIdx R a.sp).length ≤ 12 := by
        unfold posIdx
        exact Nat.le_trans (List.length_filter_le _ _) (by rw [List.length_range]; omega)
      -- the cells
      refine ⟨(by show 1 ≤ sizeLine; decide), fun lz hlz => ?_⟩
      have sB : Same H (upd HA lz (.lst [V.int 0])) := Same.put sA (same_none sA hlz)
      have hzB : (upd HA lz (.lst [V.int 0])) lz = some (.lst [V.int 0]) := upd_same
      generalize upd HA lz (.lst [V.int 0]) = HB at *
      refine ⟨_, rfl, lz, _, _, rfl, rfl, hzB, by omega, by omega, smallE (by simp; omega), fun lcs hlcs => ?_⟩
      have ecs : (List.replicate ((a.sp : Int)).toNat [V.int 0]).flatten = (cellsK R a.sp []).map V.int := by
        rw [cellsK_nil, List.map_replicate, Int.toNat_natCast]
        simp
      rw [ecs]
      have sC : Same H (upd HB lcs (.lst ((cellsK R a.sp []).map V.int))) := Same.put sB (same_none sB hlcs)
      have hcC : (upd HB lcs (.lst ((cellsK R a.sp []).map V.int))) lcs = some (.lst ((cellsK R a.sp []).map V.int)) := upd_same
      have nlc : lcs ≠ ln := Ne.symm (ne_of_none (sB _ _ hn) hlcs)
      have nlm : lm ≠ lcs := ne_of_none (sB _ _ hm) hlcs
      have nmn : lm ≠ ln := fun z => by
        rw [z, hn] at hm
        have hm' := Option.some.inj hm
        injection hm' with e
        cases pb with
        | nil =>
          rw [List.map_nil] at e
          have : ns.length = 0 := by have := congrArg List.length e; simpa using this
          omega
        | cons q r =>
          cases ns with
          | nil => cases e
          | cons y r2 => injection e with e1 e2; cases e1
      generalize upd HB lcs (.lst ((cellsK R a.sp []).map V.int)) = HC at *
      refine ⟨_, rfl, lm, rfl, ⟨_, SqL.of (sC _ _ hm)⟩, for_list (K := K) (a := lm) (xs := pb.map V.ref) (fun j σ H' => ∃ (v10 v11 : Option V), σ = [some (.int g), some (.ref ln), some (.ref p), some (.ref lm), some (.str a.nm), some (.int a.fst), some (.int a.sp), some (.int a.am), some (.int R), some (.ref lcs), v10, v11] ∧ (∀ b u, b ≠ ln → b ≠ lcs → HC b = some u → H' b = some u) ∧
          H' ln = some (.lst ((numsK R a.fst a.sp ns ((posIdx R a.sp).take j)).map V.int)) ∧ H' lcs = some (.lst ((cellsK R a.sp ((posIdx R a.sp).take j)).map V.int)))
        ⟨_, _, rfl, fun _ _ _ _ e => e, by rw [List.take_zero, numsK_nil]; exact sC _ _ hn, hcC⟩ (fun j σ H' _ ⟨_, _, _, z, _⟩ => SqL.of (z _ _ nmn nlm (sC _ _ hm))) ?_ ?_⟩
      · rintro j x σ H' hx ⟨v10, v11, rfl, kk, hn', hc2⟩
        obtain ⟨q, r0, rfl, eq, er0, hq⟩ := hR.get hx
        have hj : j < (posIdx R a.sp).length := by have := get_lt eq; omega
        have ei : (posIdx R a.sp)[j]? = some (posIdx R a.sp)[j] := List.getElem?_eq_getElem hj
        generalize (posIdx R a.sp)[j] = i at *
        obtain ⟨hi1, hi2⟩ := posIdx_mem.mp (List.mem_of_getElem? ei)
        rw [List.getElem?_map, ei] at er0
        cases er0
        have hq' : H' q = some (.tup [V.int ((a.fst + i : Nat) : Int), V.int (dealtAt R a.sp i)]) := kk _ _ (ne_of hq hn (by intro z; cases z)) (ne_of_none (sB _ _ hq) hlcs) (sC _ _ hq)
        have hni : i ∉ (posIdx R a.sp).take j := by
          intro hz
          obtain ⟨i', hi', e'⟩ := List.mem_iff_getElem.mp hz
          rw [List.length_take] at hi'
          rw [List.getElem_take] at e'
          have ej : (posIdx R a.sp)[j] = i := (List.getElem?_eq_some_iff.mp ei).2
          exact (List.pairwise_iff_getElem.mp (posIdx_nd R a.sp)) i' j (by omega) hj (by omega) (by rw [e', ej])
        have etk : (posIdx R a.sp).take (j + 1) = (posIdx R a.sp).take j ++ [i] := by rw [List.take_add_one, ei]; rfl
        rw [etk]
        generalize (posIdx R a.sp).take j = ks at *
        refine ⟨q, _, rfl, SqT.of hq', rfl, _, _, rfl, _, _, rfl, rfl, ?_⟩
        have eix : ((a.fst + i : Nat) : Int) - (a.fst : Int) = (i : Int) := by omega
        refine ⟨_, rfl, _, rfl, _, _, rfl, rfl, _, rfl, iteB (decide_eq_true (by show (a.fst : Int) ≤ ((a.fst + i : Nat) : Int); omega)) ⟨_, rfl, _, rfl, _, _, rfl, rfl, _, _, rfl, rfl, _, rfl, iteC (by rw [decide_eq_true (show ((a.fst + i : Nat) : Int) < (a.fst : Int) + (a.sp : Int) by omega)]; rfl) ?_⟩⟩
        refine ⟨_, rfl, _, _, rfl, rfl, _, rfl, iteC (decide_eq_false (by show ¬ dealtAt R a.sp i < 1; omega)) ?_⟩
        have hcat : atI ((cellsK R a.sp ks).map V.int) (((a.fst + i : Nat) : Int) - (a.fst : Int)) = some (.int 0) := by
          rw [eix]
          refine atI_nat ?_
          rw [List.getElem?_map, cellsK_at hi1, if_neg hni]
          rfl
        refine ⟨_, rfl, _, rfl, _, rfl, _, _, rfl, rfl, lcs, _, _, _, rfl, rfl, SqL.of hc2, hcat, rfl, _, rfl, iteNS rfl ?_⟩
        -- told and put on
        refine ⟨_, rfl, _, rfl, _, rfl, _, rfl, _, _, rfl, rfl, lcs, _, _, i, rfl, rfl, hc2, (by rw [eix]; exact ixN_nat (by rw [List.length_map, cellsK_len]; exact hi1)), ?_⟩
        rw [← List.map_set, ← cellsK_snoc hi1]
        have hc3 : (upd H' lcs (.lst ((cellsK R a.sp (ks ++ [i])).map V.int))) lcs = some (.lst ((cellsK R a.sp (ks ++ [i])).map V.int)) := upd_same
        have hn3 : (upd H' lcs (.lst ((cellsK R a.sp (ks ++ [i])).map V.int))) ln = some (.lst ((numsK R a.fst a.sp ns ks).map V.int)) := by rw [upd_ne (Ne.symm nlc)]; exact hn'
        have k3 : ∀ b u, b ≠ lcs → H' b = some u → (upd H' lcs (.lst ((cellsK R a.sp (ks ++ [i])).map V.int))) b = some u := fun b u hb e => by rw [upd_ne hb]; exact e
        generalize upd H' lcs (.lst ((cellsK R a.sp (ks ++ [i])).map V.int)) = H3 at *
        refine ⟨_, rfl, _, rfl, ln, _, _, _, rfl, rfl, SqL.of hn3, iat' (by rw [numsK_len]; omega), _, rfl, _, _, rfl, rfl, _, rfl, _, rfl, ln, _, _, a.fst + i, rfl, rfl, hn3, ixN_nat (by rw [List.length_map, numsK_len]; omega), ?_⟩
        rw [← List.map_set, ← numsK_snoc hni (by omega)]
        exact (show ∃ (v10 v11 : Option V), _ from ⟨_, _, rfl, fun b u h1 h2 e => by rw [upd_ne h1]; exact k3 b u h2 (kk b u h1 h2 e), upd_same, by rw [upd_ne nlc]; exact hc3⟩)
      · rintro σ H' ⟨v10, v11, rfl, kk, hn', hc2⟩
        rw [List.length_map, hpl, List.take_length] at hn' hc2
        rw [numsK_all (Int.le_of_lt hc') h2] at hn'
        rw [cellsK_all (Int.le_of_lt hc')] at hc2
        generalize hcl : (List.range a.sp).map (dealtAt R a.sp) = cl at *
        have hll : cl.length = a.sp := by rw [← hcl, List.length_map, List.length_range]
        have hsum : cl.sum = R := by rw [← hcl]; exact sum_dealt R (by omega)
        have hat : ∀ i, i < a.sp → cl.getD i 0 = dealtAt R a.sp i := fun i hi => by rw [← hcl]; simp [List.getD, hi]
        refine ⟨_, rfl, lcs, cl, rfl, SqL.of hc2, _, rfl, rfl, _, rfl, iteB (decide_eq_true (by rw [hsum])) ?_⟩
        refine ⟨_, rfl, _, rfl, lcs, cl, rfl, rfl, SqL.of hc2, by omega, fun lo out hlo hperm hord => ?_⟩
        have hord' : out.Pairwise (· ≥ ·) := hord
        have ecl : out = cl := by
          refine perm_unique (le := fun x y : Int => x ≥ y) (fun x y h1 h2 => by omega) hperm hord' ?_
          rw [← hcl, List.pairwise_map]
          exact List.pairwise_lt_range.imp fun {x y} h => dealt_down R a.sp (Nat.le_of_lt h)
        subst ecl
        have s4 : Same H' (upd H' lo (.lst (out.map V.int))) := Same.put (Same.refl _) hlo
        have ho4 : (upd H' lo (.lst (out.map V.int))) lo = some (.lst (out.map V.int)) := upd_same
        generalize upd H' lo (.lst (out.map V.int)) = H4 at *
        refine ⟨lcs, lo, _, _, fun _ => true, rfl, rfl, .inl ⟨SqL.of (s4 _ _ hc2), SqL.of ho4⟩, rfl, eqInts, _, rfl, ?_⟩
        rw [all_true_range]
        refine iteT ?_
        refine ⟨_, rfl, lcs, _, _, _, rfl, rfl, SqL.of (s4 _ _ hc2), iat' (j := 0) (by omega), _, rfl, _, rfl, _, _, rfl, rfl, lcs, _, _, _, rfl, rfl, SqL.of (s4 _ _ hc2), (by rw [show ((a.sp : Int) - 1) = ((a.sp - 1 : Nat) : Int) by omega]; exact iat' (by omega)), _, _, rfl, rfl, _, _, rfl, rfl, ?_⟩
        rw [hat 0 (by omega), hat (a.sp - 1) (by omega)]
        dsimp only
        rw [decide_eq_true (dealt_near R a.sp 0 (a.sp - 1))]
        exact k _ (fun b u h1 e => s4 _ _ (kk b u h1 (fun z => by rw [z] at e; rw [sB _ _ e] at hlcs; cases hlcs) (sC _ _ e))) (s4 _ _ hn')
end
end B32
namespace B32
open PySem L2 S2
def pairA (a : Ask) : List V := [.int a.sp, .str a.nm]
def kvO (asks : List Ask) (qs : List Addr) : List (Key × V) := List.zipWith (fun a q => ((Sum.inr a.nm : Key), V.ref q)) asks qs
theorem kvO_none : ∀ {asks : List Ask} {qs : List Addr} {nm : Str}, nm ∉ asks.map (·.nm) → valV (kvO asks qs) (.inr nm) = none
  | [], _, _, _ => by unfold kvO; rw [List.zipWith_nil_left]; rfl
  | _ :: _, [], _, _ => by unfold kvO; rw [List.zipWith_nil_right]; rfl
  | a :: asks, q :: qs, nm, h => by
    rw [List.map_cons, List.mem_cons, not_or] at h
    show valV ((Sum.inr a.nm, V.ref q) :: kvO asks qs) (.inr nm) = _
    rw [valV_neg (fun z => h.1 (Sum.inr.inj z).symm)]
    exact kvO_none h.2
theorem kvO_val : ∀ {asks : List Ask} {qs : List Addr} {j : Nat} {a : Ask} {q : Addr}, (asks.map (·.nm)).Nodup → asks[j]? = some a → qs[j]? = some q → valV (kvO asks qs) (.inr a.nm) = some (.ref q)
  | [], _, _, _, _, _, h, _ => by cases h
  | _ :: _, [], _, _, _, _, _, h => by cases h
  | b :: asks, p :: qs, 0, a, q, nd, h1, h2 => by
    cases h1
    cases h2
    exact valV_pos rfl
  | b :: asks, p :: qs, j + 1, a, q, nd, h1, h2 => by
    rw [List.map_cons, List.nodup_cons] at nd
    have h1' : asks[j]? = some a := by simpa using h1
    have h2' : qs[j]? = some q := by simpa using h2
    show valV ((Sum.inr b.nm, V.ref p) :: kvO asks qs) (.inr a.nm) = _
    rw [valV_neg (fun z => nd.1 (by rw [Sum.inr.inj z]; exact List.mem_map_of_mem (f := (·.nm)) (List.mem_of_getElem? h1')))]
    exact kvO_val nd.2 h1' h2'
theorem kvO_snoc {asks : List Ask} {qs : List Addr} {a : Ask} {q : Addr} (h : asks.length = qs.length) : kvO (asks ++ [a]) (qs ++ [q]) = kvO asks qs ++ [(Sum.inr a.nm, V.ref q)] := by
  unfold kvO
  rw [List.zipWith_append h]
  rfl
def nestOf (H : Hp) (v : V) : DV.Nest := match v with
  | .ref p => (match H p with
    | some (.tup [.ref q, .int n]) => (match H q with
      | some (.tup [.int s, .str m]) => ((s, m), n)
      | _ => ((0, ""), 0))
    | _ => ((0, ""), 0))
  | _ => ((0, ""), 0)
theorem nestOf_of {H : Hp} {p q : Addr} {s n : Int} {m : Str} (h1 : H p = some (.tup (nV q n))) (h2 : H q = some (.tup [.int s, .str m])) : nestOf H (.ref p) = ((s, m), n) := by
  unfold nestOf
  simp only [h1, nV, h2]
def spInOrder : Sp := fun vs H Q _ => ∃ (lr la : Addr) (ra pa : List Addr) (rz : List Rz) (asks : List Ask) (spf : Str → Int), vs = [.ref lr, .ref la] ∧ H lr = some (.lst (ra.map V.ref)) ∧ RowsOf H ra (rz.map rzV) ∧ ra.length ≤ 1000 ∧ H la = some (.lst (pa.map V.ref)) ∧ RowsOf H pa (asks.map askV) ∧ (asks.map (·.nm)).Nodup ∧ asks.length ≤ 10 ∧
  (∀ a ∈ asks, spf a.nm = a.sp) ∧ (∀ r ∈ rz, ∃ a ∈ asks, a.nm = r.1 ∧ 1 < a.sp) ∧ rz.Pairwise (fun r r' => DV.nestLt (keyR spf r) (keyR spf r') = true) ∧ ∀ (H' : Hp), Same H H' → Q (.bl true) H'
section
variable {P : Program} {w : World} {K : PySem.W.Frag} {mg : Str → Option Value} {base : Heap}
abbrev nO : List Str := ["_law_raises", "_law_asks_here", "_law_order", "_law_name", "_law_first", "_law_spanned", "_law_amount", "_law_keys"]
abbrev nOC : List Str := ["_law_name", "_law_number", "_law_cells", "_law_raises", "_law_asks_here", "_law_order", "0", "_law_first", "_law_spanned", "_law_amount", "_law_keys"]
theorem ndOC : nOC.Nodup := by decide +kernel
theorem scOrd : FnScope nO ["_law_raises", "_law_asks_here"] (defScope sLOrder) := ⟨rfl, rfl, rfl, by decide +kernel, rfl, by decide +kernel, by decide +kernel⟩
set_option maxHeartbeats 16000000 in
theorem ok_inorder {f : Addr} {fd : FuncData} (F : Fun K "_law_in_order" "_law_in_order" sLOrder f fd) (N : Names mg) : FnOk P w K mg base CX0 1 f fd ["_law_raises", "_law_asks_here"] spInOrder := by
  refine F.ok scOrd (fun vs H Q E h => ?_) (fun cdv A outer s H vs Q E hr h => ?_)
  · obtain ⟨lr, la, ra, pa, rz, asks, spf, e, _⟩ := h
    rw [e]
    rfl
  · obtain ⟨lr, la, ra, pa, rz, asks, spf, e, hlr, hR, hra, hla, hA, hnd, hal, hspf, hrz, hpw, k⟩ := h
    subst e
    have hu : (A.deeper (PyProof.Rows.envOfC "_law_in_order" (defScope sLOrder) s.heap.objs.size f cdv)).units + 20 < cLine := by have := hr.units; omega
    have hu1 : (A.deeper (PyProof.Rows.envOfC "_law_in_order" (defScope sLOrder) s.heap.objs.size f cdv)).units + 1 < cLine := by have := hr.units; omega
    have hu2 : (A.deeper (PyProof.Rows.envOfC "_law_in_order" (defScope sLOrder) s.heap.objs.size f cdv)).units + 2 < cLine := by have := hr.units; omega
    refine ⟨_, pss_cons (ps_set (i := 2) scOrd.nd rfl (Or.inr rfl) pe_dnewK)
      (pss_cons (ps_for PassesOwn.never rfl (pi_list (pv 1)) (pg_tup rfl (pgs_cons (pg_name (i := 3) scOrd.nd rfl (Or.inl rfl)) (pgs_cons (pg_name (i := 4) scOrd.nd rfl (Or.inl rfl)) (pgs_cons (pg_name (i := 5) scOrd.nd rfl (Or.inl rfl)) (pgs_cons (pg_name (i := 6) scOrd.nd rfl (Or.inl rfl)) pgs_nil)))))
        (pss_one (ps_dput hu1 (pv 2) (pv 3) (pe_tup (pa_cons (pv 5) (pa_cons (pv 3) pa_nil))) rfl)))
      (pss_cons (ps_if (pt_not (pt_val (pe_callB (call_allL rfl) (by rfl) N.all PyProof.Rows.boot_all (pa_cons (pe_compN (k := 3) (N' := nOC) (compScN_mk (fs := defScope sLOrder) (N := nO) rfl rfl (by decide +kernel)) rfl (pi_list (pv 0)) (fun _ _ _ _ _ => pg_threeK (K := K) rfl rfl ndOC rfl rfl rfl rfl rfl rfl) (fun _ _ _ _ _ => pts_nil)
          (fun _ _ _ _ _ => pe_and (pe_cmp (pc_din hu1 (pv 0) (pv 5))) (pe_one (pe_cmpR op_gt (pe_ix (r := rIxT K) ix_tup (pe_dget hu1 (pv 5) (pv 0) (fun _ _ => rfl)) pe_int (fun _ _ => rfl)) pe_int (nomark _))))) pa_nil)))) (pss_one (ps_ret pe_bl)) pss_nil)
      (pss_cons (ps_setCompN (i := 7) (k := 3) (N' := nOC) (compScN_mk (fs := defScope sLOrder) (N := nO) rfl rfl (by decide +kernel)) rfl scOrd.nd rfl (Or.inl rfl) (pi_list (pv 0)) (fun _ _ _ _ _ => pg_threeK (K := K) rfl rfl ndOC rfl rfl rfl rfl rfl rfl) (fun _ _ _ _ _ => pts_nil)
          (fun _ _ _ _ _ => pe_tup (pa_cons (pe_dget hu1 (pv 5) (pv 0) (fun _ _ => rfl)) (pa_cons (pv 1) pa_nil))) rfl)
      (pss_one (ps_ret (pe_cmpR (op_eqDeep hu) (pv 7) (pe_callB (call_sortUp hu2) (by rfl) N.sorted PyProof.Rows.boot_sorted (pa_cons (pv 7) pa_nil)) (nomark _))))))), ?_⟩
    have hal2 : pa.length = asks.length := by rw [hA.1, List.length_map]
    have hrl : ra.length = rz.length := by rw [hR.1, List.length_map]
    -- the order
    intro od hod
    have s1 : Same H (upd H od (.dK [])) := Same.put (Same.refl _) hod
    have h1 : (upd H od (.dK [])) od = some (.dK []) := upd_same
    generalize upd H od (.dK []) = H1 at *
    refine ⟨_, rfl, la, rfl, ⟨_, SqL.of (s1 _ _ hla)⟩, for_list (K := K) (a := la) (xs := pa.map V.ref) (fun i σ H9 => ∃ (u3 u4 u5 u6 : Option V) (qs : List Addr), σ = [some (.ref lr), some (.ref la), some (.ref od), u3, u4, u5, u6, none] ∧ (∀ b u, b ≠ od → H1 b = some u → H9 b = some u) ∧ qs.length = i ∧ H9 od = some (.dK (kvO (asks.take i) qs)) ∧ RowsOf H9 qs ((asks.take i).map pairA))
      ⟨none, none, none, none, [], rfl, fun _ _ _ e => e, rfl, h1, RowsOf.nil⟩ (fun i σ H9 _ ⟨_, _, _, _, _, _, z, _⟩ => SqL.of (z _ _ (ne_of_none hla hod) (s1 _ _ hla))) ?_ ?_⟩
    · rintro i x σ H9 hx ⟨u3, u4, u5, u6, qs, rfl, k9, hql, h9d, hR9⟩
      obtain ⟨p, r0, rfl, ep, er, hp⟩ := hA.get hx
      have hi : i < asks.length := by have := get_lt ep; omega
      have ea : asks[i]? = some asks[i] := List.getElem?_eq_getElem hi
      generalize hai : asks[i] = a at *
      rw [List.getElem?_map, ea] at er
      cases er
      have hp9 : H9 p = some (.tup [.str a.nm, .int (a.fst : Int), .int (a.sp : Int), .int a.am]) := k9 _ _ (ne_of_none hp hod) (s1 _ _ hp)
      have etk : asks.take (i + 1) = asks.take i ++ [a] := by rw [List.take_add_one, ea]; rfl
      have hnew : a.nm ∉ (asks.take i).map (·.nm) := by
        have : (asks.take (i + 1)).map (·.nm) |>.Nodup := (List.Sublist.map _ (List.take_sublist _ _)).nodup hnd
        rw [etk, List.map_append] at this
        intro z
        exact (List.pairwise_append.mp this).2.2 _ z _ (by simp) rfl
      refine ⟨p, _, rfl, SqT.of hp9, rfl, _, _, rfl, _, _, rfl, _, _, rfl, _, _, rfl, rfl, ?_⟩
      refine ⟨_, rfl, _, rfl, (by show 2 ≤ sizeLine; decide), fun t ht => ?_⟩
      have s2 : Same H9 (upd H9 t (.tup [V.int (a.sp : Int), V.str a.nm])) := Same.put (Same.refl _) ht
      have ht2 : (upd H9 t (.tup [V.int (a.sp : Int), V.str a.nm])) t = some (.tup (pairA a)) := upd_same
      generalize upd H9 t (.tup [V.int (a.sp : Int), V.str a.nm]) = Ht at *
      have hdt := s2 _ _ h9d
      refine ⟨_, rfl, _, rfl, od, _, rfl, DPut.k (k := .inr a.nm) hdt (by unfold kvO; rw [List.length_zipWith, sizeLine_eq]; omega), ?_⟩
      rw [putK_new _ (kvO_none hnew), etk, ← kvO_snoc (by rw [List.length_take, hql]; omega)]
      refine (show ∃ (u3 u4 u5 u6 : Option V) (qs : List Addr), _ from ⟨_, _, _, _, qs ++ [t], rfl, fun b u hb e => by rw [upd_ne hb]; exact s2 _ _ (k9 b u hb e), by rw [List.length_append, hql]; rfl, upd_same, ?_⟩)
      rw [List.map_append]
      exact rowsK (RowsOf.snoc hR9 s2 ht2) fun b xs e => by rw [upd_ne (ne_of e hdt (by intro z; cases z))]; exact e
    rintro σ H2 ⟨u3, u4, u5, u6, qs, rfl, k2, hql, h2d, hR2⟩
    rw [List.length_map] at hql h2d hR2
    rw [hal2, List.take_length] at h2d hR2
    rw [hal2] at hql
    have s02 : Same H H2 := fun b u e => k2 b u (ne_of_none e hod) (s1 _ _ e)
    -- where each name's tuple stands
    obtain ⟨qf, hqf⟩ : ∃ qf : Str → Addr, ∀ a ∈ asks, valV (kvO asks qs) (.inr a.nm) = some (.ref (qf a.nm)) ∧ H2 (qf a.nm) = some (.tup (pairA a)) := by
      refine ⟨fun nm => match valV (kvO asks qs) (.inr nm) with
        | some (.ref q) => q
        | _ => 0, fun a ha => ?_⟩
      obtain ⟨j, hj, ej⟩ := List.mem_iff_getElem.mp ha
      have ea : asks[j]? = some a := by rw [List.getElem?_eq_getElem hj, ej]
      have eq : qs[j]? = some (qs[j]'(by omega)) := List.getElem?_eq_getElem _
      have ev := kvO_val hnd ea eq
      have hq := hR2.2 j _ _ eq (by rw [List.getElem?_map, ea]; rfl)
      simp only [ev]
      exact ⟨trivial, hq⟩
    have one : ∀ r ∈ rz, ∃ a ∈ asks, a.nm = r.1 ∧ 1 < a.sp ∧ valV (kvO asks qs) (.inr r.1) = some (.ref (qf r.1)) ∧ H2 (qf r.1) = some (.tup [.int (a.sp : Int), .str r.1]) := fun r hr => by
      obtain ⟨a, ha, en, hs⟩ := hrz r hr
      obtain ⟨q1, q2⟩ := hqf a ha
      rw [en] at q1 q2
      refine ⟨a, ha, en, hs, q1, ?_⟩
      rw [q2]
      unfold pairA
      rw [en]
    have dget : ∀ (H' : Hp), Same H2 H' → ∀ r ∈ rz, DGet H' od (.str r.1) (some (.ref (qf r.1))) := fun H' s' r hr => by
      obtain ⟨a, _, _, _, q1, _⟩ := one r hr
      rw [← q1]
      exact DGet.k (k := .inr r.1) (s' _ _ h2d)
    -- all are asks of several
    refine ⟨_, rfl, lr, rfl, ⟨_, SqL.of (s02 _ _ hlr)⟩, ?_⟩
    refine comp_rz (K := K) (as := ra) (rz := rz) (fun D i l H' => H2 D = none ∧ l = ((List.range i).map fun _ => true).map V.bl ∧ H' = upd H2 D (.lst l)) (small (by omega)) (fun D hD => ⟨hD, rfl, rfl⟩)
      (fun D i l H' ⟨hD, _, e⟩ => by rw [e]; exact ⟨SqL.of (Same.put s02 (same_none s02 hD) _ _ hlr), hR.same (Same.put s02 (same_none s02 hD))⟩) (fun D i l H' ⟨_, e, _⟩ => by rw [e, List.length_map, List.length_map, List.length_range]; exact Nat.le_refl _) ?_ ?_
    · rintro D i r l H' Q1 er ⟨hD, rfl, rfl⟩ hq
      have hr := List.mem_of_getElem? er
      obtain ⟨a, ha, en, hs, q1, q2⟩ := one r hr
      have sD : Same H2 (upd H2 D (.lst (((List.range i).map fun _ => true).map V.bl))) := Same.put (Same.refl _) hD
      refine hq true _ (fun z => by cases z) (fun _ Q' hq' => ?_)
      refine ⟨_, rfl, _, rfl, od, some (.ref (qf r.1)), rfl, dget _ sD r hr, _, rfl, iteT ?_⟩
      refine ⟨_, rfl, _, rfl, od, _, rfl, dget _ sD r hr, qf r.1, _, _, _, rfl, rfl, SqT.of (sD _ _ q2), atI_nat (j := 0) rfl, _, _, rfl, rfl, ?_⟩
      dsimp only
      rw [decide_eq_true (show (1 : Int) < (a.sp : Int) by omega)]
      refine hq' _ _ upd_same ⟨hD, ?_, by rw [upd_upd]⟩
      rw [List.range_succ, List.map_append, List.map_append]
      rfl
    rintro D l H3 hD0 ⟨hD, rfl, rfl⟩
    have eal : ((List.range rz.length).map fun _ => true).all id = true := by rw [List.all_map]; exact List.all_eq_true.mpr fun _ _ => rfl
    refine ⟨D, _, rfl, SqL.of upd_same, _, rfl, ?_⟩
    rw [eal]
    refine iteF ?_
    have s3 : Same H2 (upd H2 D (.lst (((List.range rz.length).map fun _ => true).map V.bl))) := Same.put (Same.refl _) hD
    generalize upd H2 D (.lst (((List.range rz.length).map fun _ => true).map V.bl)) = H3 at *
    have s03 : Same H H3 := s02.trans s3
    -- the keys
    refine ⟨_, rfl, lr, rfl, ⟨_, SqL.of (s03 _ _ hlr)⟩, ?_⟩
    refine comp_rz (K := K) (as := ra) (rz := rz) (fun D i l H' => ∃ ka : List Addr, l = ka.map V.ref ∧ ka.length = i ∧ H3 D = none ∧ H' D = some (.lst l) ∧ Same H3 H' ∧ RowsOf H' ka ((rz.take i).map fun r => nV (qf r.1) (r.2.1 : Int))) (small (by omega)) (fun D hD => ⟨[], rfl, rfl, hD, upd_same, Same.put (Same.refl _) hD, RowsOf.nil⟩)
      (fun D i l H' ⟨_, _, _, _, _, z, _⟩ => ⟨SqL.of (z _ _ (s03 _ _ hlr)), hR.same (s03.trans z)⟩) (fun D i l H' ⟨ka, e1, e2, _⟩ => by rw [e1, List.length_map, e2]; exact Nat.le_refl _) ?_ ?_
    · rintro D i r l H' Q1 er ⟨ka, rfl, hka, hD0', hD', s', hR'⟩ hq
      have hr := List.mem_of_getElem? er
      have etk : rz.take (i + 1) = rz.take i ++ [r] := by rw [List.take_add_one, er]; rfl
      refine hq true H' (fun z => by cases z) (fun _ Q' hq' => ?_)
      refine ⟨_, rfl, _, rfl, od, _, rfl, dget _ (s3.trans s') r hr, _, rfl, (by show 2 ≤ sizeLine; decide), fun t ht => ?_⟩
      have s2 : Same H' (upd H' t (.tup [V.ref (qf r.1), V.int (r.2.1 : Int)])) := Same.put (Same.refl _) ht
      have ht2 : (upd H' t (.tup [V.ref (qf r.1), V.int (r.2.1 : Int)])) t = some (.tup (nV (qf r.1) (r.2.1 : Int))) := upd_same
      have hDt := s2 _ _ hD'
      refine hq' _ _ hDt ⟨ka ++ [t], by rw [List.map_append]; rfl, by rw [List.length_append, hka]; rfl, hD0', upd_same, fun b u e => ?_, ?_⟩
      · rw [upd_ne (ne_of_none e hD0')]
        exact s2 _ _ (s' _ _ e)
      · rw [etk, List.map_append]
        exact rowsK (RowsOf.snoc hR' s2 ht2) fun b xs e => by rw [upd_ne (ne_of e hDt (by intro z; cases z))]; exact e
    rintro lk l H4 _ ⟨ka, rfl, hka, hD0', h4, s4, hR4⟩
    rw [List.take_length] at hR4
    have s04 : Same H H4 := s03.trans s4
    have s24 : Same H2 H4 := s3.trans s4
    have kat : ∀ (j : Nat) (hj : j < ka.length), H4 ka[j] = some (.tup (nV (qf (rz[j]'(by omega)).1) ((rz[j]'(by omega)).2.1 : Int))) ∧ nestOf H4 (.ref ka[j]) = keyR spf (rz[j]'(by omega)) ∧ H4 (qf (rz[j]'(by omega)).1) = some (.tup (tIS (keyR spf (rz[j]'(by omega))).1)) := fun j hj => by
      have hr : rz[j]'(by omega) ∈ rz := List.getElem_mem _
      obtain ⟨a, ha, en, hs, q1, q2⟩ := one _ hr
      have h1 := hR4.2 j _ _ (List.getElem?_eq_getElem hj) (by rw [List.getElem?_map, List.getElem?_eq_getElem (show j < rz.length by omega)]; rfl)
      have h2 := s24 _ _ q2
      have es : spf (rz[j]'(by omega)).1 = (a.sp : Int) := by rw [← en]; exact hspf a ha
      refine ⟨h1, ?_, ?_⟩
      · rw [nestOf_of h1 h2]
        unfold keyR
        rw [es]
      · rw [h2]
        unfold tIS keyR
        rw [es]
    refine ⟨_, rfl, _, rfl, lk, ka.map V.ref, nestOf H4, rfl, SqL.of h4, by rw [List.length_map]; omega, fun y hy => ?_, ?_, fun lo hlo => ?_⟩
    · obtain ⟨p, hp, rfl⟩ := List.mem_map.mp hy
      obtain ⟨j, hj, rfl⟩ := List.mem_iff_getElem.mp hp
      obtain ⟨a1, a2, a3⟩ := kat j hj
      refine ⟨ka[j], qf (rz[j]'(by omega)).1, rfl, ?_, ?_⟩
      · rw [a2]; exact a1
      · rw [a2]; exact a3
    · rw [List.pairwise_map]
      refine List.pairwise_iff_getElem.mpr fun i j hi hj hij => ?_
      rw [(kat i hi).2.1, (kat j hj).2.1]
      have := (List.pairwise_iff_getElem.mp hpw) i j (by omega) (by omega) hij
      cases e : DV.nestLt (keyR spf (rz[j]'(by omega))) (keyR spf (rz[i]'(by omega))) with
      | false => rfl
      | true =>
        have z := DV.nestTr this e
        rw [DV.nestIrr] at z
        cases z
    · have s5 : Same H4 (upd H4 lo (.lst (ka.map V.ref))) := Same.put (Same.refl _) hlo
      refine ⟨lk, lo, _, _, fun _ => true, rfl, rfl, .inl ⟨SqL.of (s5 _ _ h4), SqL.of upd_same⟩, rfl, eqRefs (fun x hx => by obtain ⟨p, _, rfl⟩ := List.mem_map.mp hx; exact ⟨p, rfl⟩), ?_⟩
      rw [all_true_range]
      exact k _ (s04.trans s5)
end
end B32
namespace B32
open PySem L2 S2
theorem compN_ofT {J : It} {H1 : Hp} {σ : St} {tt : TT} {te : TE} {Q : VK} (h : CompGo J H1 σ tt te Q) : CompGoN J H1 1 σ (gName 0) tt te Q := by
  intro D hD
  obtain ⟨W, w0, turn⟩ := h D hD
  refine ⟨W, w0, fun i m H hw => ?_⟩
  rcases turn i m H hw with q | ⟨go, step⟩
  · exact .inl q
  · refine .inr ⟨go, fun x H' ρ lρ y => ?_⟩
    match ρ, lρ with
    | [r0], _ => exact ⟨⟨[some x], rfl, rfl⟩, step x H' y⟩
def spOf (asks : List Ask) (nm : Str) : Int := ((asks.find? fun a => decide (a.nm = nm)).map fun a => (a.sp : Int)).getD 0
theorem spOf_of : ∀ {asks : List Ask}, (asks.map (·.nm)).Nodup → ∀ a ∈ asks, spOf asks a.nm = a.sp
  | [], _, a, h => nomatch h
  | b :: asks, nd, a, h => by
    rw [List.map_cons, List.nodup_cons] at nd
    unfold spOf
    rcases List.mem_cons.mp h with e | e
    · rw [e, List.find?_cons_of_pos (by simp)]
      rfl
    · rw [List.find?_cons_of_neg (by
        intro z
        exact nd.1 (by rw [of_decide_eq_true z]; exact List.mem_map_of_mem (f := (·.nm)) e))]
      exact spOf_of nd.2 a e
theorem rz_len {g : Int} : ∀ {order : List Ask} {st : List Int × List Rz}, (∀ a ∈ order, a.sp ≤ 12) → (order.foldl (step2 g) st).2.length ≤ st.2.length + 12 * order.length
  | [], st, _ => Nat.le_refl _
  | a :: order, st, h => by
    have := rz_len (g := g) (order := order) (st := step2 g st a) fun b hb => h b (List.mem_cons_of_mem _ hb)
    have h1 := h a List.mem_cons_self
    have h2 : (step2 g st a).2.length ≤ st.2.length + 12 := by
      show (st.2 ++ rzOf _ a.nm a.fst a.sp a.sp).length ≤ _
      have := rzOf_len (roomOf g st.1 a) a.nm a.fst a.sp a.sp
      rw [List.length_append]
      omega
    rw [List.foldl_cons, List.length_cons]
    omega
theorem fold_nn {g : Int} : ∀ {order : List Ask} {st : List Int × List Rz}, (∀ z ∈ st.1, 0 ≤ z) → ∀ z ∈ (order.foldl (step2 g) st).1, 0 ≤ z
  | [], st, h => h
  | a :: order, st, h => fold_nn (order := order) (st := step2 g st a) (spread_nn (by unfold roomOf; split <;> omega) h _)
theorem order_up {order : List Ask} (nd : (order.map (·.nm)).Nodup) (h : order.Pairwise (fun x y => DV.lexLt (keyA y) (keyA x) = false)) : order.Pairwise (fun x y => DV.lexLt (keyA x) (keyA y) = true) := by
  have nd' : order.Pairwise (fun x y => x.nm ≠ y.nm) := List.pairwise_map.mp nd
  refine (h.and nd').imp fun {x y} hh => ?_
  cases e : DV.lexLt (keyA x) (keyA y) with
  | true => rfl
  | false => exact absurd (congrArg Prod.snd (DV.lexAnti e hh.1)) hh.2
def pairOf (H : Hp) (v : V) : Int × Str := match v with
  | .ref p => (match H p with
    | some (.tup [.int n, .str m]) => (n, m)
    | _ => (0, ""))
  | _ => (0, "")
theorem pairOf_of {H : Hp} {p : Addr} {q : Int × Str} (h : H p = some (.tup (tIS q))) : pairOf H (.ref p) = q := by
  unfold pairOf
  simp only [h, tIS]
theorem pairs_order {H : Hp} {out : List V} {qa : List Addr} {asks order : List Ask} (hR : RowsOf H qa ((asks.filter fun a => decide (1 < a.sp)).map fun a => tIS (keyA a))) (hp : out.Perm (qa.map V.ref)) (hs : out.Pairwise (fun x y => DV.lexLt (pairOf H y) (pairOf H x) = false))
    (hord : order.Perm (asks.filter fun a => decide (1 < a.sp))) (hsrt : order.Pairwise (fun x y => DV.lexLt (keyA y) (keyA x) = false)) : out.length = order.length ∧ ∀ (i : Nat) (x : V), out[i]? = some x → ∃ p a, x = .ref p ∧ order[i]? = some a ∧ H p = some (.tup (tIS (keyA a))) := by
  generalize asks.filter (fun a => decide (1 < a.sp)) = as2 at *
  have one : ∀ (i : Nat) (x : V), (qa.map V.ref)[i]? = some x → ∃ p a, x = .ref p ∧ as2[i]? = some a ∧ H p = some (.tup (tIS (keyA a))) ∧ pairOf H x = keyA a := fun i x e => by
    obtain ⟨p, r, rfl, _, er, hp⟩ := hR.get e
    rw [List.getElem?_map] at er
    cases e2 : as2[i]? with
    | none => rw [e2] at er; cases er
    | some a =>
      rw [e2] at er
      cases er
      exact ⟨p, a, rfl, rfl, hp, pairOf_of hp⟩
  have hl : qa.length = as2.length := by rw [hR.1, List.length_map]
  have e1 : (qa.map V.ref).map (pairOf H) = as2.map keyA := by
    apply List.ext_getElem?
    intro i
    rw [List.getElem?_map, List.getElem?_map (f := keyA)]
    cases e : (qa.map V.ref)[i]? with
    | none =>
      rw [List.getElem?_eq_none_iff, List.length_map] at e
      rw [List.getElem?_eq_none (by omega)]
      rfl
    | some x =>
      obtain ⟨p, a, _, ea, _, eq⟩ := one i x e
      rw [ea]
      show some (pairOf H x) = some (keyA a)
      rw [eq]
  have p1 : (out.map (pairOf H)).Perm (order.map keyA) := by
    have := hp.map (pairOf H)
    rw [e1] at this
    exact this.trans (hord.map keyA).symm
  have e2 : out.map (pairOf H) = order.map keyA := perm_uniqueM (le := fun x y => DV.lexLt y x = false) (fun a _ b _ h1 h2 => DV.lexAnti h2 h1) p1 (List.pairwise_map.mpr hs) (List.pairwise_map.mpr hsrt)
  have hlo : out.length = order.length := by
    have := congrArg List.length e2
    rw [List.length_map, List.length_map] at this
    exact this
  refine ⟨hlo, fun i x hx => ?_⟩
  obtain ⟨j, hj⟩ := List.getElem?_of_mem (hp.mem_iff.mp (List.mem_of_getElem? hx))
  obtain ⟨p, a, rfl, _, hpp, eq⟩ := one j x hj
  have e3 := congrArg (fun l => l[i]?) e2
  rw [List.getElem?_map, List.getElem?_map, hx] at e3
  cases e4 : order[i]? with
  | none => rw [e4] at e3; cases e3
  | some b =>
    rw [e4] at e3
    have e5 : pairOf H (.ref p) = keyA b := Option.some.inj e3
    exact ⟨p, b, rfl, rfl, by rw [hpp, ← eq, e5]⟩
theorem tk_succ {α : Type} {l : List α} {i : Nat} {x : α} (h : l[i]? = some x) : l.take (i + 1) = l.take i ++ [x] := by rw [List.take_add_one, h]; rfl
theorem not_before {as : List Ask} (nd : (as.map (·.nm)).Nodup) {i : Nat} {a : Ask} (h : as[i]? = some a) : a ∉ as.take i := fun z => by
  have : (as.take (i + 1)).map (·.nm) |>.Nodup := (List.Sublist.map _ (List.take_sublist _ _)).nodup nd
  rw [tk_succ h, List.map_append] at this
  exact (List.pairwise_append.mp this).2.2 _ (List.mem_map_of_mem (f := (·.nm)) z) _ (by simp) rfl
theorem ask_at {H : Hp} {pa : List Addr} {asks : List Ask} (h : RowsOf H pa (asks.map askV)) {i : Nat} {x : V} (e : (pa.map V.ref)[i]? = some x) : ∃ p a, x = .ref p ∧ asks[i]? = some a ∧ H p = some (.tup [.str a.nm, .int (a.fst : Int), .int (a.sp : Int), .int a.am]) := by
  obtain ⟨p, r, rfl, _, er, hp⟩ := h.get e
  rw [List.getElem?_map] at er
  cases e2 : asks[i]? with
  | none => rw [e2] at er; cases er
  | some a =>
    rw [e2] at er
    cases er
    exact ⟨p, a, rfl, rfl, hp⟩
theorem raisedS_snoc {g : Int} {fl : List Int} {asks order : List Ask} {i : Nat} {a : Ask} (h : order[i]? = some a) : raisedS g fl asks (order.take (i + 1)) = step2 g (raisedS g fl asks (order.take i)) a := by
  rw [tk_succ h]
  unfold raisedS
  rw [List.foldl_append]
  rfl
section
variable {P : Program} {w : World} {K : PySem.W.Frag} {mg : Str → Option Value} {base : Heap}
abbrev nLaw : List Str := ["_law_script", "_law_stream_here", "_law_many", "_law_top", "_law_floor", "_law_gap", "_law_asks_here", "_law_found", "_law_raises", "_law_numbers", "_law_name", "_law_first", "_law_spanned", "_law_amount", "_law_ask"]
abbrev nLC : List Str := ["_law_ask", "_law_script", "_law_stream_here", "_law_many", "_law_top", "_law_floor", "_law_gap", "_law_asks_here", "_law_found", "_law_raises", "_law_numbers", "_law_name", "_law_first", "_law_spanned", "_law_amount", "0"]
theorem ndLC : nLC.Nodup := by decide +kernel
theorem scLaw : FnScope nLaw ["_law_script"] (defScope sLaw) := ⟨rfl, rfl, rfl, by decide +kernel, rfl, by decide +kernel, by decide +kernel⟩
set_option maxHeartbeats 16000000 in
theorem ok_law {f f1 f2 f3 f4 f5 f6 f7 f8 T : Addr} {fd d1 d2 d3 d4 d5 d6 d7 d8 : FuncData} (F : Fun K "law" "law" sLaw f fd) (N : Names mg)
    (G1 : FnOk P w K mg base CX0 1 f1 d1 ["_law_script"] (spStream K)) (b1 : Binds K d1 ["_law_script"] []) (m1 : mg "_law_stream" = some (.ref f1)) (k1 : PySem.W.keepIn K (.ref f1) = true)
    (G2 : FnOk P w K mg base CX0 1 f2 d2 ["_law_stream_here", "_law_many"] spTake) (b2 : Binds K d2 ["_law_stream_here", "_law_many"] []) (m2 : mg "_law_take" = some (.ref f2)) (k2 : PySem.W.keepIn K (.ref f2) = true)
    (G3 : FnOk P w K mg base CX0 2 f3 d3 ["_law_stream_here", "_law_many"] spLNames) (b3 : Binds K d3 ["_law_stream_here", "_law_many"] []) (m3 : mg "_law_names" = some (.ref f3)) (k3 : PySem.W.keepIn K (.ref f3) = true)
    (G4 : FnOk P w K mg base CX0 2 f4 d4 ["_law_stream_here", "_law_many", "_law_names_here", "_law_top"] spLAsks) (b4 : Binds K d4 ["_law_stream_here", "_law_many", "_law_names_here", "_law_top"] []) (m4 : mg "_law_asks" = some (.ref f4)) (k4 : PySem.W.keepIn K (.ref f4) = true)
    (G5 : FnOk P w K mg base CX0 4 f5 d5 ["many", "gap", "floor", "asks"] (spTracks K T)) (b5 : Binds K d5 ["many", "gap", "floor", "asks"] []) (m5 : mg "raise_tracks" = some (.ref f5)) (k5 : PySem.W.keepIn K (.ref f5) = true)
    (G6 : FnOk P w K mg base CX0 1 f6 d6 ["_law_gap", "_law_numbers", "_law_ask", "_law_mine"] (spRight K)) (b6 : Binds K d6 ["_law_gap", "_law_numbers", "_law_ask", "_law_mine"] []) (m6 : mg "_law_ask_right" = some (.ref f6)) (k6 : PySem.W.keepIn K (.ref f6) = true)
    (G7 : FnOk P w K mg base CX0 1 f7 d7 ["_law_raises", "_law_asks_here"] spInOrder) (b7 : Binds K d7 ["_law_raises", "_law_asks_here"] []) (m7 : mg "_law_in_order" = some (.ref f7)) (k7 : PySem.W.keepIn K (.ref f7) = true)
    (G8 : FnOk P w K mg base CX0 1 f8 d8 ["_law_raises", "_law_name"] spTold) (b8 : Binds K d8 ["_law_raises", "_law_name"] []) (m8 : mg "_law_told" = some (.ref f8)) (k8 : PySem.W.keepIn K (.ref f8) = true) :
    FnOk P w K mg base CX0 5 f fd ["_law_script"] (spLaw K T) := by
  refine F.ok scLaw (fun vs H Q E h => ?_) (fun cdv A outer s H vs Q E hr h => ?_)
  · obtain ⟨a, ns, ps, e, _⟩ := h
    rw [e]
    rfl
  · obtain ⟨a, ns, ps, e, hS, hn, hT, hTk, k⟩ := h
    subst e
    have hr1 := hr.mono (j := 1) (by decide)
    have hr2 := hr.mono (j := 2) (by decide)
    have hu : (A.deeper (PyProof.Rows.envOfC "law" (defScope sLaw) s.heap.objs.size f cdv)).units + 20 < cLine := by have := hr.units; omega
    refine ⟨_, pss_cons (ps_set (i := 1) scLaw.nd rfl (Or.inr rfl) (pe_call G1 hr1 (by rfl) m1 k1 b1 .nil pass0 (pa_cons (pv 0) pa_nil)))
      (pss_cons (ps_set (i := 2) scLaw.nd rfl (Or.inl rfl) (pe_op op_add pe_int (pe_call G2 hr1 (by rfl) m2 k2 b2 .nil pass0 (pa_cons (pv 1) (pa_cons pe_int pa_nil)))))
      (pss_cons (ps_set (i := 3) scLaw.nd rfl (Or.inr rfl) (pe_ix ix_list (pe_lst (pa_cons pe_int (pa_cons (pe_op op_add (pe_op op_pow pe_int pe_int) pe_int) pa_nil))) (pe_call G2 hr1 (by rfl) m2 k2 b2 .nil pass0 (pa_cons (pv 1) (pa_cons pe_int pa_nil))) (fun _ _ => rfl)))
      (pss_cons (ps_setComp (i := 4) (compSc_mk (fs := defScope sLaw) (N := nLaw) rfl rfl (by decide +kernel)) rfl scLaw.nd rfl (Or.inl rfl) (pi_range1 (by rfl) N.range (pa_cons (pv 2) pa_nil)) (fun _ _ _ _ _ => pts_nil)
          (fun _ _ _ _ _ => pe_call G2 hr1 (by rfl) m2 k2 b2 .nil pass0 (pa_cons (pv 2) (pa_cons (pe_ix (r := rIxL K) ix_list (pe_lst (pa_cons pe_int (pa_cons (pv 4) pa_nil))) (pe_call G2 hr1 (by rfl) m2 k2 b2 .nil pass0 (pa_cons (pv 2) (pa_cons pe_int pa_nil))) (fun _ _ => rfl)) pa_nil))) rfl)
      (pss_cons (ps_set (i := 5) scLaw.nd rfl (Or.inl rfl) (pe_call G2 hr1 (by rfl) m2 k2 b2 .nil pass0 (pa_cons (pv 1) (pa_cons (pe_ix ix_list (pe_lst (pa_cons pe_int (pa_cons pe_int pa_nil))) (pe_call G2 hr1 (by rfl) m2 k2 b2 .nil pass0 (pa_cons (pv 1) (pa_cons pe_int pa_nil))) (fun _ _ => rfl)) pa_nil))))
      (pss_cons (ps_set (i := 6) scLaw.nd rfl (Or.inl rfl) (pe_call G4 hr2 (by rfl) m4 k4 b4 .nil pass0 (pa_cons (pv 1) (pa_cons (pv 2) (pa_cons (pe_call G3 hr2 (by rfl) m3 k3 b3 .nil pass0 (pa_cons (pv 1) (pa_cons (pe_call G2 hr1 (by rfl) m2 k2 b2 .nil pass0 (pa_cons (pv 1) (pa_cons pe_int pa_nil))) pa_nil))) (pa_cons (pv 3) pa_nil))))))
      (pss_cons (ps_asg (pe_call G5 hr (by rfl) m5 k5 b5 .nil pass0 (pa_cons (pv 2) (pa_cons (pv 5) (pa_cons (pv 4) (pa_cons (pv 6) pa_nil))))) (pg_tup rfl (pgs_cons (pg_name (i := 7) scLaw.nd rfl (Or.inl rfl)) (pgs_cons (pg_name (i := 8) scLaw.nd rfl (Or.inl rfl)) pgs_nil))))
      (pss_cons (ps_set (i := 9) scLaw.nd rfl (Or.inl rfl) (pe_callTy call_list_of (by rfl) N.list PyProof.Rows.boot_list (pa_cons (pv 4) pa_nil)))
      (pss_cons (ps_for PassesOwn.never rfl (pi_list (pv 6)) (pg_tup rfl (pgs_cons (pg_name (i := 10) scLaw.nd rfl (Or.inl rfl)) (pgs_cons (pg_name (i := 11) scLaw.nd rfl (Or.inl rfl)) (pgs_cons (pg_name (i := 12) scLaw.nd rfl (Or.inl rfl)) (pgs_cons (pg_name (i := 13) scLaw.nd rfl (Or.inl rfl)) pgs_nil)))))
        (pss_one (ps_if (pt_cmpR op_eq (pv 12) pe_int (nomark _)) (pss_one (ps_asg (pe_callB (call_max2 rfl) (by rfl) N.max PyProof.Rows.boot_max (pa_cons (pe_ix ix_list (pv 9) (pv 11) (fun _ _ => rfl)) (pa_cons (pv 13) pa_nil))) (pg_sub (pv 9) (pv 11) set_list))) pss_nil)))
      (pss_cons (ps_if (pt_not (pt_val (pe_call G7 hr1 (by rfl) m7 k7 b7 .nil pass0 (pa_cons (pv 8) (pa_cons (pv 6) pa_nil))))) (pss_one (ps_ret pe_bl)) pss_nil)
      (pss_cons (ps_for PassesOwn.never rfl (pi_list (pe_callB call_sort2 (by rfl) N.sorted PyProof.Rows.boot_sorted (pa_cons (pe_compN (k := 1) (N' := nLC) (compScN_mk (fs := defScope sLaw) (N := nLaw) rfl rfl (by decide +kernel)) rfl (pi_list (pv 6)) (fun _ _ _ _ _ => pg_name (i := 0) ndLC rfl (Or.inl rfl)) (fun _ _ _ _ _ => pts_one (pt_cmpR op_gt (pe_ix (r := rIxT K) ix_tup (pv 0) pe_int (fun _ _ => rfl)) pe_int (nomark _)))
            (fun _ _ _ _ _ => pe_tup (pa_cons (pe_ix (r := rIxT K) ix_tup (pv 0) pe_int (fun _ _ => rfl)) (pa_cons (pe_ix (r := rIxT K) ix_tup (pv 0) pe_int (fun _ _ => rfl)) pa_nil)))) pa_nil))) (pg_tup rfl (pgs_cons (pg_name (i := 12) scLaw.nd rfl (Or.inl rfl)) (pgs_cons (pg_name (i := 10) scLaw.nd rfl (Or.inl rfl)) pgs_nil)))
        (pss_one (ps_for PassesOwn.never rfl (pi_list (pv 6)) (pg_name (i := 14) scLaw.nd rfl (Or.inl rfl))
          (pss_one (ps_if (pw_and (pt_cmpR op_eq (pe_ix ix_tup (pv 14) pe_int (fun _ _ => rfl)) (pv 10) (nomark _)) (pw_and1 (pt_not (pt_val (pe_call G6 hr1 (by rfl) m6 k6 b6 .nil pass0 (pa_cons (pv 5) (pa_cons (pv 9) (pa_cons (pv 14) (pa_cons (pe_call G8 hr1 (by rfl) m8 k8 b8 .nil pass0 (pa_cons (pv 8) (pa_cons (pv 10) pa_nil))) pa_nil))))))))).pt (pss_one (ps_ret pe_bl)) pss_nil)))))
      (pss_cons (ps_for PassesOwn.never rfl (pi_list (pv 6)) (pg_tup rfl (pgs_cons (pg_name (i := 10) scLaw.nd rfl (Or.inl rfl)) (pgs_cons (pg_name (i := 11) scLaw.nd rfl (Or.inl rfl)) (pgs_cons (pg_name (i := 12) scLaw.nd rfl (Or.inl rfl)) (pgs_cons (pg_name (i := 13) scLaw.nd rfl (Or.inl rfl)) pgs_nil)))))
        (pss_one (ps_if (pt_cmpR op_lt (pe_op op_add (pe_callB (call_sumL rfl) (by rfl) N.sum PyProof.Rows.boot_sum (pa_cons (pe_slice sl_list (pv 7) (po_some (pv 11)) (po_some (pe_op op_add (pv 11) (pv 12)))) pa_nil)) (pe_op op_mul (pv 5) (pe_op op_sub (pv 12) pe_int))) (pv 13) (nomark _)) (pss_one (ps_ret pe_bl)) pss_nil)))
      (pss_one (ps_ret (pe_and (pe_cmpR (op_eqDeep hu) (pv 7) (pv 9) (nomark _)) (pe_one (pe_cmpR (op_eqDeep hu) (pe_call G5 hr (by rfl) m5 k5 b5 .nil pass0 (pa_cons (pv 2) (pa_cons (pv 5) (pa_cons (pv 7) (pa_cons (pv 6) pa_nil))))) (pe_tup (pa_cons (pv 7) (pa_cons (pe_lst pa_nil) pa_nil))) (nomark _))))))))))))))))), ?_⟩
    -- the stream, how many
    refine ⟨_, rfl, a, ns, rfl, hS, hn, fun st d0 z0 H1 hst0 s1 hst1 => ?_⟩
    have nTs : T ≠ st := ne_of_none hT hst0
    have kp1 : Kp st H H1 := Kp.of s1
    refine ⟨_, rfl, st, _, _, 12, rfl, hst1, by decide, by decide, fun v1 d1 z1 v10 v11 => ?_⟩
    have hst2 : (upd H1 st (.lst [.int d1, .int z1])) st = some (.lst [.int d1, .int z1]) := upd_same
    have kp2 : Kp st H (upd H1 st (.lst [.int d1, .int z1])) := kp1.trans Kp.store
    generalize upd H1 st (.lst [.int d1, .int z1]) = H2 at *
    refine ⟨_, _, rfl, rfl, ?_⟩
    obtain ⟨m, em, hm1, hm2⟩ : ∃ m : Nat, 1 + v1 = (m : Int) ∧ 1 ≤ m ∧ m ≤ 12 := ⟨(1 + v1).toNat, by omega, by omega, by omega⟩
    dsimp only
    rw [em]
    -- the greatest
    refine ⟨_, _, rfl, rfl, ⟨by decide, by decide, by decide⟩, _, _, rfl, rfl, (by show 2 ≤ sizeLine; decide), fun L1 hL1 => ?_⟩
    have s3 : Same H2 (upd H2 L1 (.lst [V.int 61, V.int (10 ^ Int.toNat 6 + 1)])) := Same.put (Same.refl _) hL1
    have hL13 : (upd H2 L1 (.lst [V.int 61, V.int (10 ^ Int.toNat 6 + 1)])) L1 = some (.lst [V.int 61, V.int (10 ^ Int.toNat 6 + 1)]) := upd_same
    have nL1 : L1 ≠ st := Ne.symm (ne_of_none hst2 hL1)
    generalize upd H2 L1 (.lst [V.int 61, V.int (10 ^ Int.toNat 6 + 1)]) = H3 at *
    have hst3 := s3 _ _ hst2
    have kp3 : Kp st H H3 := kp2.trans (Kp.of s3)
    refine ⟨_, rfl, st, _, _, 2, rfl, hst3, by decide, by decide, fun v2 d2 z2 v20 v21 => ?_⟩
    have hst4 : (upd H3 st (.lst [.int d2, .int z2])) st = some (.lst [.int d2, .int z2]) := upd_same
    have kp4 : Kp st H (upd H3 st (.lst [.int d2, .int z2])) := kp3.trans Kp.store
    have hL14 : (upd H3 st (.lst [.int d2, .int z2])) L1 = some (.lst [V.int 61, V.int (10 ^ Int.toNat 6 + 1)]) := by rw [upd_ne nL1]; exact hL13
    generalize upd H3 st (.lst [.int d2, .int z2]) = H4 at *
    obtain ⟨top, etop, htop⟩ := two_atI (x := 61) (y := 10 ^ Int.toNat 6 + 1) v20 v21
    have ht01 : 0 < top ∧ top ≤ 1000001 := by
      rcases htop with e | e <;> rw [e] <;> decide
    refine ⟨L1, _, _, _, rfl, rfl, SqL.of hL14, etop, ?_⟩
    -- the floor
    refine ⟨_, rfl, (m : Int), rfl, by omega, by omega, ?_⟩
    have en : ((m : Int)).toNat = m := by omega
    rw [en]
    refine comp_rangeG (n := m) (fun D i l H' => ∃ (vs : List Int) (d z : Int), l = vs.map V.int ∧ vs.length = i ∧ H' st = some (.lst [.int d, .int z]) ∧ H' D = some (.lst l) ∧ D ≠ st ∧ H4 D = none ∧ Kp st H4 H' ∧ (∀ v ∈ vs, 0 ≤ v)) (small (by omega))
      (fun D hD => ⟨[], d2, z2, rfl, rfl, Same.put (Same.refl _) hD _ _ hst4, upd_same, Ne.symm (ne_of_none hst4 hD), hD, Kp.of (Same.put (Same.refl _) hD), fun v hv => nomatch hv⟩) (fun D i l H' ⟨vs, _, _, e1, e2, _⟩ => by rw [e1, List.length_map, e2]; exact Nat.le_refl _) ?_ ?_
    · rintro D i l H' Q1 hi ⟨vs, d, z, rfl, e2, hs', hD', nD, hD4, kk, hv⟩ hq
      refine hq true H' (fun z => by cases z) (fun _ Q' hq' => ?_)
      refine ⟨_, rfl, _, rfl, (by show 2 ≤ sizeLine; decide), fun L hL => ?_⟩
      have sA : Same H' (upd H' L (.lst [V.int 9, V.int top])) := Same.put (Same.refl _) hL
      have hLA : (upd H' L (.lst [V.int 9, V.int top])) L = some (.lst [V.int 9, V.int top]) := upd_same
      have nL : L ≠ st := Ne.symm (ne_of_none hs' hL)
      generalize upd H' L (.lst [V.int 9, V.int top]) = HA at *
      refine ⟨_, rfl, st, d, z, 2, rfl, sA _ _ hs', by decide, by decide, fun v3 d3 z3 v30 v31 => ?_⟩
      have hsB : (upd HA st (.lst [.int d3, .int z3])) st = some (.lst [.int d3, .int z3]) := upd_same
      have kB : Kp st H' (upd HA st (.lst [.int d3, .int z3])) := (Kp.of sA).trans Kp.store
      have hLB : (upd HA st (.lst [.int d3, .int z3])) L = some (.lst [V.int 9, V.int top]) := by rw [upd_ne nL]; exact hLA
      generalize upd HA st (.lst [.int d3, .int z3]) = HB at *
      obtain ⟨M, eM, hM⟩ := two_atI (x := 9) (y := top) v30 v31
      have hM01 : 0 < M ∧ M ≤ 1000001 := by
        rcases hM with e | e <;> rw [e]
        · decide
        · exact ht01
      refine ⟨L, _, _, _, rfl, rfl, SqL.of hLB, eM, st, d3, z3, M, rfl, hsB, hM01.1, by omega, fun v4 d4 z4 v40 v41 => ?_⟩
      have kC : Kp st H' (upd HB st (.lst [.int d4, .int z4])) := kB.trans Kp.store
      have hsC : (upd HB st (.lst [.int d4, .int z4])) st = some (.lst [.int d4, .int z4]) := upd_same
      generalize upd HB st (.lst [.int d4, .int z4]) = HC at *
      have hDC := kC _ _ nD hD'
      refine hq' _ _ hDC ⟨vs ++ [v4], d4, z4, by rw [List.map_append]; rfl, by rw [List.length_append, e2]; rfl, by rw [upd_ne (Ne.symm nD)]; exact hsC, upd_same, nD, hD4, Kp.put (kk.trans kC) hD4, fun v hv' => ?_⟩
      rcases List.mem_append.mp hv' with q | q
      · exact hv v q
      · rw [List.mem_singleton.mp q]; exact v40
    rintro lf l H5 ⟨fl, d5, z5, rfl, efl, hst5, hf5, nfs, _, k45, hnn⟩
    have kp5 : Kp st H H5 := kp4.trans k45
    -- the gap
    refine ⟨_, rfl, (by show 2 ≤ sizeLine; decide), fun L2 hL2 => ?_⟩
    have s6 : Same H5 (upd H5 L2 (.lst [V.int 5, V.int 1001])) := Same.put (Same.refl _) hL2
    have hL26 : (upd H5 L2 (.lst [V.int 5, V.int 1001])) L2 = some (.lst [V.int 5, V.int 1001]) := upd_same
    have nL2 : L2 ≠ st := Ne.symm (ne_of_none hst5 hL2)
    generalize upd H5 L2 (.lst [V.int 5, V.int 1001]) = H6 at *
    refine ⟨_, rfl, st, _, _, 2, rfl, s6 _ _ hst5, by decide, by decide, fun v5 d6 z6 v50 v51 => ?_⟩
    have hst7 : (upd H6 st (.lst [.int d6, .int z6])) st = some (.lst [.int d6, .int z6]) := upd_same
    have k57 : Kp st H5 (upd H6 st (.lst [.int d6, .int z6])) := (Kp.of s6).trans Kp.store
    have hL27 : (upd H6 st (.lst [.int d6, .int z6])) L2 = some (.lst [V.int 5, V.int 1001]) := by rw [upd_ne nL2]; exact hL26
    generalize upd H6 st (.lst [.int d6, .int z6]) = H7 at *
    obtain ⟨M, eM, hM⟩ := two_atI (x := 5) (y := 1001) v50 v51
    have hM01 : 0 < M ∧ M ≤ 1001 := by
      rcases hM with e | e <;> rw [e] <;> decide
    refine ⟨L2, _, _, _, rfl, rfl, SqL.of hL27, eM, st, d6, z6, M, rfl, hst7, hM01.1, by omega, fun g d7 z7 g0 g1 => ?_⟩
    have hst8 : (upd H7 st (.lst [.int d7, .int z7])) st = some (.lst [.int d7, .int z7]) := upd_same
    have k58 : Kp st H5 (upd H7 st (.lst [.int d7, .int z7])) := k57.trans Kp.store
    generalize upd H7 st (.lst [.int d7, .int z7]) = H8 at *
    -- names, asks
    refine ⟨_, rfl, _, rfl, _, rfl, _, rfl, st, d7, z7, 11, rfl, hst8, by decide, by decide, fun v6 d8 z8 v60 v61 => ?_⟩
    have hst9 : (upd H8 st (.lst [.int d8, .int z8])) st = some (.lst [.int d8, .int z8]) := upd_same
    have k59 : Kp st H5 (upd H8 st (.lst [.int d8, .int z8])) := k58.trans Kp.store
    generalize upd H8 st (.lst [.int d8, .int z8]) = H9 at *
    obtain ⟨mm, rfl, hmm⟩ := nat_of (n := 11) v60 v61
    refine ⟨st, d8, z8, mm, rfl, hst9, by omega, fun lnm nms d9 z9 H10 hlnm kp10 hst10 hnm10 hnml hnd => ?_⟩
    refine ⟨_, rfl, st, lnm, d9, z9, top, m, nms, rfl, hst10, hnm10, hm1, hm2, ht01.1, ht01.2, by omega, fun la pa asks d10 z10 H11 hla kp11 hst11 hla11 hR11 hnms hgood => ?_⟩
    have k511 : Kp st H5 H11 := (k59.trans kp10).trans kp11
    have hf11 := k511 _ _ nfs hf5
    have kp0 : Kp st H H11 := kp5.trans k511
    have hT11 := kp0 _ _ nTs hT
    have hTk11 : TabOk H11 lamPos lamQual ps := tab_keep hTk fun c e => kp0 _ _ (ne_of_none e hst0) e
    have hndA : (asks.map (·.nm)).Nodup := by rw [hnms]; exact hnd
    have hal : asks.length ≤ 10 := by
      have := congrArg List.length hnms
      rw [List.length_map] at this
      omega
    have hpl : pa.length ≤ 10 := by rw [hR11.1, List.length_map]; exact hal
    obtain ⟨ea11, ia11⟩ := rows_asks hR11
    -- found
    refine ⟨_, rfl, _, rfl, _, rfl, _, rfl, lf, la, m, g, fl, pa.map V.ref, ps, rfl, SqL.of hf11, efl, hm2, g0, by omega, hnn, SqL.of hla11, fun x hx => ⟨(ia11 x hx).1, hgood _ (ia11 x hx).2⟩, by rw [List.length_map]; exact hpl, hT11, hTk11, fun t ln lr ra H12 ps12 order ht hln hlr k12 hT12 hTk12 hord hsrt ht12 hn12 hr12 hR12 => ?_⟩
    rw [ea11] at hord hn12 hR12
    have kT : ∀ {b : Addr} {o : HO}, (∀ q, o ≠ .tbl q) → H11 b = some o → H12 b = some o := fun ne e => k12 _ _ (ne_of e hT11 (ne _)) e
    have hf12 := kT (by intro q z; cases z) hf11
    have ha12 := kT (by intro q z; cases z) hla11
    have hRA12 : RowsOf H12 pa (asks.map askV) := rowsK hR11 fun b xs e => kT (by intro q z; cases z) e
    have hosub : ∀ b ∈ order, b ∈ asks ∧ 1 < b.sp := fun b hb => by
      have := List.mem_filter.mp (hord.mem_iff.mp hb)
      exact ⟨this.1, of_decide_eq_true this.2⟩
    have hond : (order.map (·.nm)).Nodup := (hord.map (·.nm)).nodup_iff.mpr ((List.Sublist.map _ List.filter_sublist).nodup hndA)
    have hol : order.length ≤ 10 := by
      have := hord.length_eq
      have h2 := List.length_filter_le (fun a : Ask => decide (1 < a.sp)) asks
      omega
    have hgm : ∀ b ∈ asks, 1 ≤ b.sp ∧ b.fst + b.sp ≤ m := fun b hb => ⟨(hgood b hb).1, (hgood b hb).2.1⟩
    have hall := all_has (g := g) efl hgm hord
    have hrl : ra.length ≤ 120 := by
      have h1 := rz_len (g := g) (order := order) (st := (step1 fl asks, [])) fun b hb => by have := hgm b (hosub b hb).1; omega
      have h2 := hR12.1
      rw [List.length_map] at h2
      unfold raisedS at h2
      simp only [List.length_nil] at h1
      omega
    have hpal : pa.length = asks.length := by rw [hR11.1, List.length_map]
    refine ⟨t, _, rfl, SqT.of ht12, rfl, _, _, rfl, _, _, rfl, rfl, ?_⟩
    -- numbers
    refine ⟨_, rfl, lf, _, rfl, .inl (SqL.of hf12), fun lu hlu => ?_⟩
    have s13 : Same H12 (upd H12 lu (.lst (fl.map V.int))) := Same.put (Same.refl _) hlu
    have hu13 : (upd H12 lu (.lst (fl.map V.int))) lu = some (.lst (fl.map V.int)) := upd_same
    generalize upd H12 lu (.lst (fl.map V.int)) = H13 at *
    refine ⟨_, rfl, la, rfl, ⟨_, SqL.of (s13 _ _ ha12)⟩, for_list (K := K) (a := la) (xs := pa.map V.ref) (fun i σ H9 => ∃ (u10 u11 u12 u13 : Option V), σ = [some (.ref a), some (.ref st), some (.int m), some (.int top), some (.ref lf), some (.int g), some (.ref la), some (.ref ln), some (.ref lr), some (.ref lu), u10, u11, u12, u13, none] ∧ (∀ b u, b ≠ lu → H13 b = some u → H9 b = some u) ∧ H9 lu = some (.lst ((step1 fl (asks.take i)).map V.int)))
      ⟨none, none, none, none, rfl, fun _ _ _ e => e, hu13⟩ (fun i σ H9 _ ⟨_, _, _, _, _, z, _⟩ => SqL.of (z _ _ (ne_of_none ha12 hlu) (s13 _ _ ha12))) ?_ ?_⟩
    · rintro i x σ H9 hx ⟨u10, u11, u12, u13, rfl, k9, h9n⟩
      obtain ⟨p, b, rfl, eb, hp⟩ := ask_at hRA12 hx
      obtain ⟨q1, q2⟩ := hgm b (List.mem_of_getElem? eb)
      have hp9 := k9 _ _ (ne_of_none hp hlu) (s13 _ _ hp)
      have est : step1 fl (asks.take (i + 1)) = single (step1 fl (asks.take i)) b := by rw [tk_succ eb]; unfold step1; rw [List.foldl_append]; rfl
      have hlen : (step1 fl (asks.take i)).length = m := by rw [step1_len]; exact efl
      rw [est]
      generalize step1 fl (asks.take i) = ns at *
      refine ⟨p, _, rfl, SqT.of hp9, rfl, _, _, rfl, _, _, rfl, _, _, rfl, _, _, rfl, rfl, ?_⟩
      refine ⟨_, rfl, rfl, _, rfl, ite2 (fun hc => ?_) (fun hc => ?_)⟩
      · have h1 : b.sp = 1 := by
          have := V.int.inj (of_decide_eq_true hc)
          omega
        refine ⟨_, rfl, _, rfl, lu, _, _, _, rfl, rfl, SqL.of h9n, iat' (by omega), _, rfl, _, _, rfl, _, rfl, _, rfl, lu, _, _, b.fst, rfl, rfl, h9n, ixN_nat (by rw [List.length_map]; omega), ?_⟩
        refine ⟨_, _, _, _, rfl, fun c u hb e => by rw [upd_ne hb]; exact k9 c u hb e, ?_⟩
        rw [upd_same]
        unfold single
        rw [if_pos h1, List.map_set]
      · have h1 : ¬ b.sp = 1 := fun z => hc (decide_eq_true (by rw [z]; rfl))
        refine ⟨_, _, _, _, rfl, k9, ?_⟩
        unfold single
        rw [if_neg h1]
        exact h9n
    rintro σ H14 ⟨u10, u11, u12, u13, rfl, k14, hu14⟩
    rw [List.length_map, hpal, List.take_length] at hu14
    have s1214 : Same H12 H14 := fun b u e => k14 b u (ne_of_none e hlu) (s13 _ _ e)
    -- the raises are in order
    have hrzm : ∀ r ∈ (raisedS g fl asks order).2, ∃ b ∈ asks, b.nm = r.1 ∧ 1 < b.sp := fun r hr => by
      obtain ⟨more, e, h⟩ := fold_append g order (step1 fl asks, [])
      unfold raisedS at hr
      rw [e] at hr
      obtain ⟨b, hb, e2⟩ := h r hr
      exact ⟨b, (hosub b hb).1, e2.symm, (hosub b hb).2⟩
    have hpw : (raisedS g fl asks order).2.Pairwise (fun r r' => DV.nestLt (keyR (spOf asks) r) (keyR (spOf asks) r') = true) :=
      raises_up (order := order) (st := (step1 fl asks, [])) (fun b hb => spOf_of hndA b (hosub b hb).1) (order_up hond hsrt) .nil (fun r hr => nomatch hr)
    refine ⟨_, rfl, _, rfl, lr, la, ra, pa, (raisedS g fl asks order).2, asks, spOf asks, rfl, s1214 _ _ hr12, hR12.same s1214, by omega, s1214 _ _ ha12, hRA12.same s1214, hndA, hal, spOf_of hndA, hrzm, hpw, fun H15 s15 => ⟨_, rfl, iteF ?_⟩⟩
    have s1215 : Same H12 H15 := s1214.trans s15
    have hu15 := s15 _ _ hu14
    -- those of several, in order
    refine ⟨_, rfl, la, rfl, ⟨_, SqL.of (s1215 _ _ ha12)⟩, compN_ofT ?_⟩
    refine comp_listF (K := K) (a := la) (xs := pa.map V.ref) (fun D i l H' => ∃ qa : List Addr, l = qa.map V.ref ∧ qa.length ≤ i ∧ H15 D = none ∧ H' D = some (.lst l) ∧ Same H15 H' ∧ RowsOf H' qa (((asks.take i).filter fun a : Ask => decide (1 < a.sp)).map fun a : Ask => tIS (keyA a))) (small (by rw [List.length_map]; omega)) (fun D hD => ⟨[], rfl, Nat.le_refl _, hD, upd_same, Same.put (Same.refl _) hD, RowsOf.nil⟩)
      (fun D i l H' ⟨_, _, _, _, _, z, _⟩ => SqL.of (z _ _ (s1215 _ _ ha12))) (fun D i l H' ⟨qa, e1, e2, _⟩ => by rw [e1, List.length_map]; exact e2) ?_ ?_
    · rintro D i x l H' Q1 hx ⟨qa, rfl, hqa, hD3, hD, s', hR⟩ hq
      obtain ⟨p, b, rfl, eb, hp⟩ := ask_at hRA12 hx
      have etk : (asks.take (i + 1)).filter (fun a => decide (1 < a.sp)) = (asks.take i).filter (fun a => decide (1 < a.sp)) ++ (if 1 < b.sp then [b] else []) := by
        rw [tk_succ eb, List.filter_append]
        congr 1
        by_cases c : 1 < b.sp
        · rw [if_pos c]; exact List.filter_cons_of_pos (p := fun a : Ask => decide (1 < a.sp)) (decide_eq_true c)
        · rw [if_neg c]; exact List.filter_cons_of_neg (p := fun a : Ask => decide (1 < a.sp)) (by simpa using c)
      have hp3 := s' _ _ (s1215 _ _ hp)
      refine ⟨_, rfl, p, _, _, _, rfl, rfl, SqT.of hp3, atI_nat (j := 2) rfl, _, _, rfl, rfl, _, rfl, ?_⟩
      refine hq _ _ (fun hb => ⟨qa, rfl, by omega, hD3, hD, s', ?_⟩) (fun hb Q' hq' => ?_)
      · rw [etk, if_neg (fun z => by have := of_decide_eq_false hb; omega), List.append_nil]
        exact hR
      · refine ⟨_, rfl, p, _, _, _, rfl, rfl, SqT.of hp3, atI_nat (j := 2) rfl, _, rfl, p, _, _, _, rfl, rfl, SqT.of hp3, atI_nat (j := 0) rfl, (by show 2 ≤ sizeLine; decide), fun t ht => ?_⟩
        have s2 : Same H' (upd H' t (.tup [V.int (b.sp : Int), V.str b.nm])) := Same.put (Same.refl _) ht
        have ht2 : (upd H' t (.tup [V.int (b.sp : Int), V.str b.nm])) t = some (.tup (tIS (keyA b))) := upd_same
        have hDt := s2 _ _ hD
        refine hq' _ _ hDt ⟨qa ++ [t], by rw [List.map_append]; rfl, by rw [List.length_append]; simp only [List.length_singleton]; omega, hD3, upd_same, fun b u e => ?_, ?_⟩
        · rw [upd_ne (ne_of_none e hD3)]
          exact s2 _ _ (s' _ _ e)
        · rw [etk, if_pos (by have := of_decide_eq_true hb; omega), List.map_append]
          exact rowsK (RowsOf.snoc hR s2 ht2) fun b xs e => by rw [upd_ne (ne_of e hDt (by intro z; cases z))]; exact e
    rintro lsv l H16 hsv ⟨qa, rfl, hqa, _, h16, s16, hR16⟩
    rw [List.length_map, hpal, List.take_length] at hR16
    rw [List.length_map] at hqa
    refine ⟨lsv, qa.map V.ref, pairOf H16, rfl, SqL.of h16, by rw [List.length_map]; omega, fun y hy => ?_, fun lo out hlo hperm hsort => ?_⟩
    · obtain ⟨j, hj⟩ := List.getElem?_of_mem hy
      obtain ⟨p, r, rfl, _, er, hp⟩ := hR16.get hj
      rw [List.getElem?_map] at er
      cases e2 : (asks.filter fun a => decide (1 < a.sp))[j]? with
      | none => rw [e2] at er; cases er
      | some b =>
        rw [e2] at er
        cases er
        exact ⟨p, rfl, by rw [pairOf_of hp]; exact hp⟩
    obtain ⟨hol2, hout⟩ := pairs_order hR16 hperm hsort hord hsrt
    have h17o : (upd H16 lo (.lst out)) lo = some (.lst out) := upd_same
    have s17 : Same H16 (upd H16 lo (.lst out)) := Same.put (Same.refl _) hlo
    have nou : lo ≠ lu := Ne.symm (ne_of_none (s16 _ _ hu15) hlo)
    generalize upd H16 lo (.lst out) = H17 at *
    have s1217 : Same H12 H17 := (s1215.trans s16).trans s17
    have hu17 := s17 _ _ (s16 _ _ hu15)
    have hnla : la ≠ lu := ne_of_none ha12 hlu
    have hnlr : lr ≠ lu := ne_of_none hr12 hlu
    have hlenS : ∀ o : List Ask, (raisedS g fl asks o).1.length = m := fun o => by rw [raisedS_len]; exact efl
    refine ⟨lo, rfl, ⟨_, SqL.of h17o⟩, for_list (K := K) (a := lo) (xs := out) (fun i σ H9 => ∃ (w10 w11 w12 w13 w14 : Option V), σ = [some (.ref a), some (.ref st), some (.int m), some (.int top), some (.ref lf), some (.int g), some (.ref la), some (.ref ln), some (.ref lr), some (.ref lu), w10, w11, w12, w13, w14] ∧ (∀ b u, b ≠ lu → H17 b = some u → H9 b = some u) ∧ H9 lu = some (.lst ((raisedS g fl asks (order.take i)).1.map V.int)))
      ⟨u10, u11, u12, u13, none, rfl, fun _ _ _ e => e, hu17⟩ (fun i σ H9 _ ⟨_, _, _, _, _, _, z, _⟩ => SqL.of (z _ _ nou h17o)) ?_ ?_⟩
    · rintro i x σ H9 hx ⟨w10, w11, w12, w13, w14, rfl, k9, h9n⟩
      obtain ⟨p, b, rfl, eb, hp⟩ := hout i x hx
      have hbo := List.mem_of_getElem? eb
      obtain ⟨hba, hbs⟩ := hosub b hbo
      have hp9 : H9 p = some (.tup [.int (b.sp : Int), .str b.nm]) := k9 _ _ (ne_of hp (s16 _ _ hu15) (by intro z; cases z)) (s17 _ _ hp)
      have etold := told_one (g := g) (fl := fl) (asks := asks) hond eb
      rw [raisedS_snoc eb]
      have hls := hlenS (order.take i)
      generalize raisedS g fl asks (order.take i) = sq at *
      refine ⟨p, _, rfl, SqT.of hp9, rfl, _, _, rfl, _, _, rfl, rfl, ?_⟩
      have ha9 := k9 _ _ hnla (s1217 _ _ ha12)
      refine ⟨_, rfl, la, rfl, ⟨_, SqL.of ha9⟩, for_list (K := K) (a := la) (xs := pa.map V.ref) (fun j σ H' => ∃ (w14 : Option V), σ = [some (.ref a), some (.ref st), some (.int m), some (.int top), some (.ref lf), some (.int g), some (.ref la), some (.ref ln), some (.ref lr), some (.ref lu), some (.str b.nm), w11, some (.int b.sp), w13, w14] ∧ (∀ b u, b ≠ lu → H17 b = some u → H' b = some u) ∧ ∃ cs : List Int, H' lu = some (.lst (cs.map V.int)) ∧ (b ∈ asks.take j → cs = (step2 g sq b).1) ∧ (b ∉ asks.take j → cs = sq.1))
        ⟨w14, rfl, k9, sq.1, h9n, (fun z => nomatch z), fun _ => rfl⟩ (fun j σ H' _ ⟨_, _, z, _⟩ => SqL.of (z _ _ hnla (s1217 _ _ ha12))) ?_ ?_⟩
      · rintro j x σ H' hx' ⟨w14, rfl, k', cs, h'n, hc1, hc2⟩
        obtain ⟨p', c, rfl, ec, hp'⟩ := ask_at hRA12 hx'
        have hca := List.mem_of_getElem? ec
        have hp2 := k' _ _ (ne_of_none hp' hlu) (s1217 _ _ hp')
        refine ⟨_, rfl, p', _, _, _, rfl, rfl, SqT.of hp2, atI_nat (j := 0) rfl, _, rfl, rfl, _, rfl, ite2 (fun hc => ?_) (fun hc => ?_)⟩
        · have enm : c.nm = b.nm := V.str.inj (of_decide_eq_true hc)
          have ecb : c = b := nm_inj hndA c hca b hba enm
          subst ecb
          rw [hc2 (not_before hndA ec)] at h'n
          have hr' := k' _ _ hnlr (s1217 _ _ hr12)
          have hRr' : RowsOf H' ra ((raisedS g fl asks order).2.map rzV) := rowsK hR12 fun b xs e => k' _ _ (ne_of_none e hlu) (s1217 _ _ e)
          refine ⟨_, rfl, _, rfl, _, rfl, _, rfl, _, rfl, lr, c.nm, ra, (raisedS g fl asks order).2, rfl, hr', hRr', by omega, fun lt pb HA hlt sA hltA hRA => ?_⟩
          rw [etold] at hRA
          obtain ⟨q1, q2⟩ := hgm c hca
          refine ⟨lu, p', lt, g, c, sq.1, pb, rfl, sA _ _ h'n, sA _ _ hp2, hltA, hRA, g0, by omega, q1, by omega, by omega, fun HB kB hB => ⟨_, rfl, ?_⟩⟩
          refine iteF ?_
          exact ⟨_, rfl, fun b u nb e => kB b u nb (sA _ _ (k' b u nb e)), _, hB, fun _ => rfl, fun z => absurd (by rw [tk_succ ec]; simp) z⟩
        · have hne : ¬ c = b := fun z => hc (decide_eq_true (by rw [z]))
          have hm : b ∈ asks.take (j + 1) ↔ b ∈ asks.take j := by
            rw [tk_succ ec]
            simp [Ne.symm hne]
          exact ⟨_, rfl, k', cs, h'n, fun z => hc1 (hm.mp z), fun z => hc2 fun y => z (hm.mpr y)⟩
      · rintro σ H' ⟨w14, rfl, k', cs, h'n, hc1, hc2⟩
        rw [List.length_map, hpal, List.take_length] at hc1
        rw [hc1 hba] at h'n
        exact ⟨_, _, _, _, _, rfl, k', h'n⟩
    rintro σ H18 ⟨w10, w11, w12, w13, w14, rfl, k18, hu18⟩
    rw [hol2, List.take_length] at hu18
    have hnl := hlenS order
    have hnum : ∀ z ∈ (raisedS g fl asks order).1, 0 ≤ z := fold_nn (step1_nn hnn fun b hb => (hgood b hb).2.2.1)
    generalize hres : raisedS g fl asks order = res at *
    obtain ⟨num, rz⟩ := res
    dsimp only at *
    have s1218 : Same H12 H18 := fun b u e => k18 b u (ne_of_none e hlu) (s1217 _ _ e)
    have ha18 := s1218 _ _ ha12
    have hn18 := s1218 _ _ hn12
    have hRA18 := hRA12.same s1218
    -- all have what they ask for
    refine ⟨_, rfl, la, rfl, ⟨_, SqL.of ha18⟩, for_list (K := K) (a := la) (xs := pa.map V.ref) (fun i σ H9 => ∃ (w10 w11 w12 w13 : Option V), σ = [some (.ref a), some (.ref st), some (.int m), some (.int top), some (.ref lf), some (.int g), some (.ref la), some (.ref ln), some (.ref lr), some (.ref lu), w10, w11, w12, w13, w14] ∧ Same H18 H9)
      ⟨w10, w11, w12, w13, rfl, Same.refl _⟩ (fun i σ H9 _ ⟨_, _, _, _, _, z⟩ => SqL.of (z _ _ ha18)) ?_ ?_⟩
    · rintro i x σ H9 hx ⟨w10, w11, w12, w13, rfl, s9⟩
      obtain ⟨p, b, rfl, eb, hp⟩ := ask_at hRA18 hx
      have hba := List.mem_of_getElem? eb
      obtain ⟨q1, q2⟩ := hgm b hba
      have hb := hall b hba
      refine ⟨p, _, rfl, SqT.of (s9 _ _ hp), rfl, _, _, rfl, _, _, rfl, _, _, rfl, _, _, rfl, rfl, ?_⟩
      refine ⟨_, rfl, _, rfl, _, rfl, _, rfl, _, rfl, _, _, rfl, rfl, _, rfl, ln, _, rfl, SqL.of (s9 _ _ hn18), fun lc hlc => ?_⟩
      have ecut : cutV (num.map V.int) (some (b.fst : Int)) (some ((b.fst : Int) + (b.sp : Int))) = ((num.drop b.fst).take b.sp).map V.int := by
        rw [show ((b.fst : Int) + (b.sp : Int)) = ((b.fst + b.sp : Nat) : Int) by omega, cells_cut]
        unfold cellsOf
        rw [Nat.min_eq_left (by omega), Nat.min_eq_left (by omega), Nat.add_sub_cancel_left]
      rw [ecut]
      have sA : Same H18 (upd H9 lc (.lst (((num.drop b.fst).take b.sp).map V.int))) := Same.put s9 (same_none s9 hlc)
      have hcA : (upd H9 lc (.lst (((num.drop b.fst).take b.sp).map V.int))) lc = some (.lst (((num.drop b.fst).take b.sp).map V.int)) := upd_same
      generalize upd H9 lc (.lst (((num.drop b.fst).take b.sp).map V.int)) = HA at *
      refine ⟨lc, _, rfl, SqL.of hcA, _, rfl, _, rfl, _, _, rfl, rfl, _, _, rfl, rfl, .inl ⟨by omega, by omega⟩, _, _, rfl, rfl, _, rfl, _, _, rfl, rfl, _, rfl, ?_⟩
      rw [decide_eq_false (by unfold Has sliceSum at hb; omega)]
      refine iteF ?_
      exact ⟨_, _, _, _, rfl, sA⟩
    rintro σ H19 ⟨v10, v11, v12, v13, rfl, s19⟩
    have s1219 : Same H12 H19 := s1218.trans s19
    have hn19 := s1219 _ _ hn12
    have hu19 := s19 _ _ hu18
    refine ⟨_, rfl, _, rfl, ln, lu, _, _, fun _ => true, rfl, rfl, .inl ⟨SqL.of hn19, SqL.of hu19⟩, rfl, eqInts, _, rfl, ?_⟩
    rw [all_true_range]
    refine iteT ?_
    -- raised once more
    obtain ⟨ea19, ia19⟩ := rows_asks (hRA12.same s1219)
    refine ⟨_, rfl, _, rfl, _, rfl, _, rfl, ln, la, m, g, num, pa.map V.ref, ps12, rfl, SqL.of hn19, hnl, hm2, g0, by omega, hnum, SqL.of (s1219 _ _ ha12), fun x hx => ⟨(ia19 x hx).1, hgood _ (ia19 x hx).2⟩, by rw [List.length_map]; exact hpl, s1219 _ _ hT12, tab_keep hTk12 fun c e => s1219 _ _ e, fun t2 ln2 lr2 ra2 H20 ps20 order2 _ _ _ k20 hT20 hTk20 hord2 hsrt2 ht20 hn20 hr20 hR20 => ?_⟩
    rw [ea19] at hord2 hn20 hR20
    rw [again_same hnl hgm hall hord2] at hn20 hR20
    dsimp only at hn20 hR20
    have hf20 : H20 ln = some (.lst (num.map V.int)) := k20 _ _ (ne_of hn19 (s1219 _ _ hT12) (by intro z; cases z)) hn19
    refine ⟨_, rfl, smallE (by simp), fun le2 hle2 => ⟨(by show 2 ≤ sizeLine; decide), fun t5 ht5 => ?_⟩⟩
    have s23 : Same H20 (upd H20 le2 (.lst [])) := Same.put (Same.refl _) hle2
    have s24 : Same H20 (upd (upd H20 le2 (.lst [])) t5 (.tup [V.ref ln, V.ref le2])) := Same.put s23 (same_none s23 ht5)
    have he24 : (upd (upd H20 le2 (.lst [])) t5 (.tup [V.ref ln, V.ref le2])) le2 = some (.lst []) := by rw [upd_ne (ne_of_none upd_same ht5)]; exact upd_same
    have ht24 : (upd (upd H20 le2 (.lst [])) t5 (.tup [V.ref ln, V.ref le2])) t5 = some (.tup [V.ref ln, V.ref le2]) := upd_same
    generalize upd (upd H20 le2 (.lst [])) t5 (.tup [V.ref ln, V.ref le2]) = H24 at *
    refine ⟨t2, t5, _, _, fun _ => true, rfl, rfl, .inr ⟨SqT.of (s24 _ _ ht20), SqT.of ht24⟩, rfl, eqFound (xs := []) (ys := []) (ra' := []) (SqL.of (s24 _ _ hn20)) (SqL.of (s24 _ _ hf20)) (SqL.of (s24 _ _ hr20)) (SqL.of he24) (hR20.same s24) RowsOf.nil, ?_⟩
    rw [all_true_range]
    exact k _
end
end B32
namespace B32
open PySem L2 S2
set_option maxHeartbeats 4000000 in
theorem all_mk {l : PySem.W.OpenLaw} {w : World} {K : PySem.W.Frag} {h : Heap} {mg : Str → Option Value} {fa c0 f1 f2 f3 f4 f5 f6 f7 f8 f9 f10 f11 : Addr} (X : K.In h) (G : h.Ns mainGlobals mg) (hfa : mg "law" = some (.ref fa))
    {od1 an1 od2 an2 od3 an3 od4 an4 od5 an5 od6 an6 od7 an7 od8 an8 od9 an9 od10 an10 od11 an11 : Option Addr} {sl1 sl2 sl3 sl4 sl5 sl6 sl7 sl8 sl9 sl10 sl11 : Array (Option Value)} {oc1 kV1 dc1 pm1 ct1 oc2 kV2 dc2 pm2 ct2 oc3 kV3 dc3 pm3 ct3 oc4 kV4 dc4 pm4 ct4 oc5 kV5 dc5 pm5 ct5 oc6 kV6 dc6 pm6 ct6 oc7 kV7 dc7 pm7 ct7 oc8 kV8 dc8 pm8 ct8 oc9 kV9 dc9 pm9 ct9 oc10 kV10 dc10 pm10 ct10 oc11 kV11 dc11 pm11 ct11 cd2 cd3 cd4 cd5 cd6 cd7 cd8 cd9 cd10 cd11 : Value}
    (a1 : PySem.W.nsIn K mainGlobals "deal" = some (some (.ref f1))) (l1 : K.lookup f1 = some ⟨oc1, od1, .func (PySem.W.fnOf "deal" "deal" (defArgs sDeal) (defBody sDeal) (defScope sDeal) .none kV1 dc1 pm1 an1 (.ref c0) ct1), sl1⟩) (c1 : PySem.W.codeIn K (.ref c0) "deal" = true) (k1 : PySem.W.keepIn K (.ref f1) = true)
    (a2 : PySem.W.nsIn K mainGlobals "raise_order" = some (some (.ref f2))) (l2 : K.lookup f2 = some ⟨oc2, od2, .func (PySem.W.fnOf "raise_order" "raise_order" (defArgs sOrder) (defBody sOrder) (defScope sOrder) .none kV2 dc2 pm2 an2 cd2 ct2), sl2⟩) (c2 : PySem.W.codeIn K cd2 "raise_order" = true) (k2 : PySem.W.keepIn K (.ref f2) = true)
    (a3 : PySem.W.nsIn K mainGlobals "raise_tracks" = some (some (.ref f3))) (l3 : K.lookup f3 = some ⟨oc3, od3, .func (PySem.W.fnOf "raise_tracks" "raise_tracks" (defArgs sTracks) (defBody sTracks) (defScope sTracks) .none kV3 dc3 pm3 an3 cd3 ct3), sl3⟩) (c3 : PySem.W.codeIn K cd3 "raise_tracks" = true) (k3 : PySem.W.keepIn K (.ref f3) = true)
    (a4 : PySem.W.nsIn K mainGlobals "_law_stream" = some (some (.ref f4))) (l4 : K.lookup f4 = some ⟨oc4, od4, .func (PySem.W.fnOf "_law_stream" "_law_stream" (defArgs sStream) (defBody sStream) (defScope sStream) .none kV4 dc4 pm4 an4 cd4 ct4), sl4⟩) (c4 : PySem.W.codeIn K cd4 "_law_stream" = true) (k4 : PySem.W.keepIn K (.ref f4) = true)
    (a5 : PySem.W.nsIn K mainGlobals "_law_take" = some (some (.ref f5))) (l5 : K.lookup f5 = some ⟨oc5, od5, .func (PySem.W.fnOf "_law_take" "_law_take" (defArgs sTake) (defBody sTake) (defScope sTake) .none kV5 dc5 pm5 an5 cd5 ct5), sl5⟩) (c5 : PySem.W.codeIn K cd5 "_law_take" = true) (k5 : PySem.W.keepIn K (.ref f5) = true)
    (a6 : PySem.W.nsIn K mainGlobals "_law_names" = some (some (.ref f6))) (l6 : K.lookup f6 = some ⟨oc6, od6, .func (PySem.W.fnOf "_law_names" "_law_names" (defArgs sLNames) (defBody sLNames) (defScope sLNames) .none kV6 dc6 pm6 an6 cd6 ct6), sl6⟩) (c6 : PySem.W.codeIn K cd6 "_law_names" = true) (k6 : PySem.W.keepIn K (.ref f6) = true)
    (a7 : PySem.W.nsIn K mainGlobals "_law_asks" = some (some (.ref f7))) (l7 : K.lookup f7 = some ⟨oc7, od7, .func (PySem.W.fnOf "_law_asks" "_law_asks" (defArgs sLAsks) (defBody sLAsks) (defScope sLAsks) .none kV7 dc7 pm7 an7 cd7 ct7), sl7⟩) (c7 : PySem.W.codeIn K cd7 "_law_asks" = true) (k7 : PySem.W.keepIn K (.ref f7) = true)
    (a8 : PySem.W.nsIn K mainGlobals "_law_told" = some (some (.ref f8))) (l8 : K.lookup f8 = some ⟨oc8, od8, .func (PySem.W.fnOf "_law_told" "_law_told" (defArgs sLTold) (defBody sLTold) (defScope sLTold) .none kV8 dc8 pm8 an8 cd8 ct8), sl8⟩) (c8 : PySem.W.codeIn K cd8 "_law_told" = true) (k8 : PySem.W.keepIn K (.ref f8) = true)
    (a9 : PySem.W.nsIn K mainGlobals "_law_ask_right" = some (some (.ref f9))) (l9 : K.lookup f9 = some ⟨oc9, od9, .func (PySem.W.fnOf "_law_ask_right" "_law_ask_right" (defArgs sLRight) (defBody sLRight) (defScope sLRight) .none kV9 dc9 pm9 an9 cd9 ct9), sl9⟩) (c9 : PySem.W.codeIn K cd9 "_law_ask_right" = true) (k9 : PySem.W.keepIn K (.ref f9) = true)
    (a10 : PySem.W.nsIn K mainGlobals "_law_in_order" = some (some (.ref f10))) (l10 : K.lookup f10 = some ⟨oc10, od10, .func (PySem.W.fnOf "_law_in_order" "_law_in_order" (defArgs sLOrder) (defBody sLOrder) (defScope sLOrder) .none kV10 dc10 pm10 an10 cd10 ct10), sl10⟩) (c10 : PySem.W.codeIn K cd10 "_law_in_order" = true) (k10 : PySem.W.keepIn K (.ref f10) = true)
    (a11 : PySem.W.nsIn K mainGlobals "law" = some (some (.ref f11))) (l11 : K.lookup f11 = some ⟨oc11, od11, .func (PySem.W.fnOf "law" "law" (defArgs sLaw) (defBody sLaw) (defScope sLaw) .none kV11 dc11 pm11 an11 cd11 ct11), sl11⟩) (c11 : PySem.W.codeIn K cd11 "law" = true) (k11 : PySem.W.keepIn K (.ref f11) = true)
    (z0 : PySem.W.nsIn K mainGlobals "sum" = some none) (z1 : PySem.W.nsIn K mainGlobals "list" = some none) (z2 : PySem.W.nsIn K mainGlobals "sorted" = some none) (z3 : PySem.W.nsIn K mainGlobals "dict" = some none) (z4 : PySem.W.nsIn K mainGlobals "len" = some none) (z5 : PySem.W.nsIn K mainGlobals "range" = some none) (z6 : PySem.W.nsIn K mainGlobals "max" = some none) (z7 : PySem.W.nsIn K mainGlobals "abs" = some none) (z8 : PySem.W.nsIn K mainGlobals "all" = some none)
    (x1 : PySem.W.codeHdIn K c0 16 = true) (x2 : K.lookup 16 = none) :
    ∃ (fd : FuncData) (c0 : Addr), (∀ (s : Shared) (v : Value), BindsTo s fd ⟨[v], []⟩ [("_law_script", v)]) ∧ K.lookup 16 = none ∧ PySem.W.codeHdIn K c0 16 = true ∧ ∀ base : Heap, K.In base → base.Ns mainGlobals mg → base.BuiltinsAt mg 16 → FnOk l.prog w K mg base CX0 5 fa fd ["_law_script"] (spLaw K 16) := by
  have e := hfa.symm.trans (PySem.W.mg_of X G a11)
  cases e
  have N : Names mg := ⟨PySem.W.mg_none_of X G z0, PySem.W.mg_none_of X G z1, PySem.W.mg_none_of X G z2, PySem.W.mg_none_of X G z3, PySem.W.mg_none_of X G z4, PySem.W.mg_none_of X G z5, PySem.W.mg_none_of X G z6, PySem.W.mg_none_of X G z7, PySem.W.mg_none_of X G z8⟩
  have F1 := fun_mk (st := sDeal) l1 c1 k1
  have b1 := F1.binds (ps := ["room", "weights"]) fun _ _ _ _ _ _ us hl => match us, hl with | [_, _], _ => rfl
  have m1 := PySem.W.mg_of X G a1
  have F2 := fun_mk (st := sOrder) l2 c2 k2
  have b2 := F2.binds (ps := ["ask"]) fun _ _ _ _ _ _ us hl => match us, hl with | [_], _ => rfl
  have m2 := PySem.W.mg_of X G a2
  have F3 := fun_mk (st := sTracks) l3 c3 k3
  have b3 := F3.binds (ps := ["many", "gap", "floor", "asks"]) fun _ _ _ _ _ _ us hl => match us, hl with | [_, _, _, _], _ => rfl
  have m3 := PySem.W.mg_of X G a3
  have F4 := fun_mk (st := sStream) l4 c4 k4
  have b4 := F4.binds (ps := ["_law_script"]) fun _ _ _ _ _ _ us hl => match us, hl with | [_], _ => rfl
  have m4 := PySem.W.mg_of X G a4
  have F5 := fun_mk (st := sTake) l5 c5 k5
  have b5 := F5.binds (ps := ["_law_stream_here", "_law_many"]) fun _ _ _ _ _ _ us hl => match us, hl with | [_, _], _ => rfl
  have m5 := PySem.W.mg_of X G a5
  have F6 := fun_mk (st := sLNames) l6 c6 k6
  have b6 := F6.binds (ps := ["_law_stream_here", "_law_many"]) fun _ _ _ _ _ _ us hl => match us, hl with | [_, _], _ => rfl
  have m6 := PySem.W.mg_of X G a6
  have F7 := fun_mk (st := sLAsks) l7 c7 k7
  have b7 := F7.binds (ps := ["_law_stream_here", "_law_many", "_law_names_here", "_law_top"]) fun _ _ _ _ _ _ us hl => match us, hl with | [_, _, _, _], _ => rfl
  have m7 := PySem.W.mg_of X G a7
  have F8 := fun_mk (st := sLTold) l8 c8 k8
  have b8 := F8.binds (ps := ["_law_raises", "_law_name"]) fun _ _ _ _ _ _ us hl => match us, hl with | [_, _], _ => rfl
  have m8 := PySem.W.mg_of X G a8
  have F9 := fun_mk (st := sLRight) l9 c9 k9
  have b9 := F9.binds (ps := ["_law_gap", "_law_numbers", "_law_ask", "_law_mine"]) fun _ _ _ _ _ _ us hl => match us, hl with | [_, _, _, _], _ => rfl
  have m9 := PySem.W.mg_of X G a9
  have F10 := fun_mk (st := sLOrder) l10 c10 k10
  have b10 := F10.binds (ps := ["_law_raises", "_law_asks_here"]) fun _ _ _ _ _ _ us hl => match us, hl with | [_, _], _ => rfl
  have m10 := PySem.W.mg_of X G a10
  have F11 := fun_mk (st := sLaw) l11 c11 k11
  refine ⟨PySem.W.fnOf "law" "law" (defArgs sLaw) (defBody sLaw) (defScope sLaw) .none kV11 dc11 pm11 an11 cd11 ct11, c0, fun s v => .of_eq rfl, x2, x1, fun base _ _ hB => ?_⟩
  have GT := ok_take (P := l.prog) (w := w) (mg := mg) (base := base) F5
  have GD := ok_deal (P := l.prog) (w := w) F1 N rfl x1 hB
  exact ok_law F11 N (ok_stream F4 N) b4 m4 k4 GT b5 m5 k5 (ok_lnames F6 N GT b5 m5 k5) b6 m6 k6 (ok_lasks F7 N GT b5 m5 k5) b7 m7 k7 (ok_tracks F3 N (ok_order F2) b2 m2 k2 GD b1 m1 k1) b3 m3 k3 (ok_right F9 N) b9 m9 k9 (ok_inorder F10 N) b10 m10 k10 (ok_told F8) b8 m8 k8
theorem walk {l : PySem.W.OpenLaw} {q : Program} {loose : List Str} {XP : (Str → Option Value) → Heap → Prop} {YP : World → Heap → Prop} {d : DefRec} {K : Params → PySem.W.Frag} (hn : l.most = some 63) (hdf : d.params.defaults = [])
    (hY : ∀ (w : World) (h : Heap), YP w h → (K w.params).In h ∧ h.get? 16 = some (PySem.W.tabObj #[]))
    (F : ∀ (w : World) (mg : Str → Option Value) (fa : Addr) (h : Heap), (K w.params).In h → h.Ns mainGlobals mg → mg d.name = some (.ref fa) →
      ∃ (fd : FuncData) (c0 : Addr), (∀ (s : Shared) (u : Value), BindsTo s fd ⟨[u], []⟩ [("_law_script", u)]) ∧ (K w.params).lookup 16 = none ∧ PySem.W.codeHdIn (K w.params) c0 16 = true ∧ ∀ base : Heap, (K w.params).In base → base.Ns mainGlobals mg → base.BuiltinsAt mg 16 → FnOk l.prog w (K w.params) mg base CX0 5 fa fd ["_law_script"] (spLaw (K w.params) 16)) :
    PySem.W.WalkO q loose XP YP l.row.toRowW d [] (fun f vs => PySem.call f vs) :=
  L2.walk_ofT (n := 63) (k := 5) (P := 16) (x := "_law_script") (CX := fun _ => CX0) (sp := fun w => spLaw (K w.params) 16) hn (by decide) hdf ⟨rfl, by decide, by decide⟩ hY F (fun _ _ a ns hl hO hS => ⟨a, ns, #[], rfl, hS, hl, hO.1, ⟨trivial, .inl rfl⟩, fun _ => rfl⟩) fun _ _ _ _ _ z => z
end B32
open PySem PySem.W PyProof.Rows
set_option maxRecDepth 100000 in
set_option maxHeartbeats 0 in
theorem PySem.Challenge.cw_boxgalley_k32_whole_raises_add_up_holds : PySem.Challenge.rw_boxgalley_k32_whole_raises_add_up.Holds := by
  w_on; o_law; k_head; (case hw => w_witness2)
  k_fill
  refine B32.walk (l := PySem.Challenge.rw_boxgalley_k32_whole_raises_add_up) rfl rfl (fun w h Y => ⟨PySem.W.km_in_of Y, PySem.W.km_tabs_of Y 16 (by decide)⟩) ?F
  case F =>
    intro w mg fa h KX G hmg
    refine' B32.all_mk KX G hmg ?a1 ?l1 ?c1 ?k1 ?a2 ?l2 ?c2 ?k2 ?a3 ?l3 ?c3 ?k3 ?a4 ?l4 ?c4 ?k4 ?a5 ?l5 ?c5 ?k5 ?a6 ?l6 ?c6 ?k6 ?a7 ?l7 ?c7 ?k7 ?a8 ?l8 ?c8 ?k8 ?a9 ?l9 ?c9 ?k9 ?a10 ?l10 ?c10 ?k10 ?a11 ?l11 ?c11 ?k11 ?z0 ?z1 ?z2 ?z3 ?z4 ?z5 ?z6 ?z7 ?z8 ?x1 ?x2
    (case a1 => k_is); (case l1 => k_is); (case c1 => k_is); (case k1 => k_is); (case a2 => k_is); (case l2 => k_is)
    (case c2 => k_is); (case k2 => k_is); (case a3 => k_is); (case l3 => k_is); (case c3 => k_is); (case k3 => k_is)
    (case a4 => k_is); (case l4 => k_is); (case c4 => k_is); (case k4 => k_is); (case a5 => k_is); (case l5 => k_is)
    (case c5 => k_is); (case k5 => k_is); (case a6 => k_is); (case l6 => k_is); (case c6 => k_is); (case k6 => k_is)
    (case a7 => k_is); (case l7 => k_is); (case c7 => k_is); (case k7 => k_is); (case a8 => k_is); (case l8 => k_is)
    (case c8 => k_is); (case k8 => k_is); (case a9 => k_is); (case l9 => k_is); (case c9 => k_is); (case k9 => k_is)
    (case a10 => k_is); (case l10 => k_is); (case c10 => k_is); (case k10 => k_is); (case a11 => k_is); (case l11 => k_is)
    (case c11 => k_is); (case k11 => k_is); (case z0 => k_is); (case z1 => k_is); (case z2 => k_is); (case z3 => k_is)
    (case z4 => k_is); (case z5 => k_is); (case z6 => k_is); (case z7 => k_is); (case z8 => k_is); (case x1 => first | rfl | kernel_rfl | decide)
    (case x2 => first | rfl | kernel_rfl | decide)
